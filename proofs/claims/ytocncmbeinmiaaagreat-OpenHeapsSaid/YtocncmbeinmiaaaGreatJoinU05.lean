/- Parts. No condition. -/
import Derived.Lib.SlBytesConst
import Derived.Test.YtocncmbeinmiaaaGreatJoinU04
set_option linter.unusedVariables false
set_option maxRecDepth 100000
set_option maxHeartbeats 8000000
namespace Go.Proofs.YtocncmbeinmiaaaGreat
open Go Go.RowKit
def fitB(s l r:Int)(n:Nat):Bool:=mayB s l r&&decide ((n:Int)=totN s l r)
theorem fitB_iff{s l r:Int}{n:Nat}:fitB s l r n=true↔mayB s l r=true/\(n:Int)=totN s l r:=by simp[fitB]
theorem qaw{s l r:Int}{n:Nat}(h:fitB s l r n=true):1<=s/\s<=16/\1<=l/\l<=4/\1<=r/\r<=8/\(n:Int)=16+40*l+72*s/\n<=1328:=by
 obtain⟨h0,h1⟩:=fitB_iff.1 h;have:=qcc h0
 have:=qdo h0
 omega
instance hhit_dec (x:Nat) (k c n:Int):Decidable (HHit x k c n):=inferInstanceAs (Decidable (_/\_))
def hdO(x:Nat):Option (Int×Int×Int):=if HHit x ((x%4:Nat):Int) ((x/4%8:Nat):Int) ((x/32%8:Nat):Int) then some (((x%4:Nat):Int),((x/4%8:Nat):Int),((x/32%8:Nat):Int)) else none
theorem qmb{x:Nat}{h:Int×Int×Int}(e:hdO x=some h):HHit x h.1 h.2.1 h.2.2:=by
 unfold hdO at e;split at e
 ·rename_i hh
  injection e with e;subst e;exact hh
 ·cases e
theorem quc{x:Nat}(e:hdO x=none):∀k c n,¬HHit x k c n:=by
 unfold hdO at e;split at e
 ·cases e
 ·rename_i hh
  exact HHit.no hh
theorem RHeadE.told{x:Nat}{e:Ending}{h:Int×Int×Int}(he:RHeadE x e)(hh:hdO x=some h):e= .returned (.tuple #[.agg #[.int .i64 h.1,.int .i64 h.2.1,.int .i64 h.2.2],.bool true]):=he.is (qmb hh)
theorem RHeadE.untold{x:Nat}{e:Ending}(he:RHeadE x e)(hh:hdO x=none):e= .returned (.tuple #[.agg #[.int .i64 0,.int .i64 0,.int .i64 0],.bool false]):=he.isno (quc hh)
theorem HeadE.told{x:Nat}{e:Ending}{h:Int×Int×Int}(he:HeadE x e)(hh:hdO x=some h):e= .returned (.tuple #[.agg #[.int .i64 h.1,.int .i64 h.2.1,.int .i64 h.2.2],.int .i64 0]):=he.is (qmb hh)
theorem HeadE.untold{x:Nat}{e:Ending}(he:HeadE x e)(hh:hdO x=none):e= .returned (.tuple #[.agg #[.int .i64 0,.int .i64 0,.int .i64 0],.int .i64 11]):=he.isno (quc hh)
theorem qwu{x:Nat}{h:Int×Int×Int}(e:hdO x=some h):qav h.1 h.2.1 h.2.2=true:=(qmb e).1
def hdsF(f:Nat->Nat):Nat->Option (List (Int×Int×Int))
 |0=>some []
 |n+1=>match hdsF f n with
  |none=>none
  |some l=>match hdO (f n) with
   |none=>none
   |some h=>some (l++[h])
theorem qip{f:Nat->Nat}{n:Nat}{l:List (Int×Int×Int)}{h:Int×Int×Int}(h1:hdsF f n=some l)(h2:hdO (f n)=some h):hdsF f (n+1)=some (l++[h]):=by rw[hdsF,h1];simp only;rw[h2]
theorem qwl{f:Nat->Nat}{n:Nat}(h2:hdO (f n)=none):hdsF f (n+1)=none:=by
 rw[hdsF];cases hdsF f n with
 |none=>rfl
 |some l=>simp only;rw[h2]
theorem qwm{f:Nat->Nat}{n m:Nat}(h:hdsF f n=none)(hm:n<=m):hdsF f m=none:=by
 induction m with
 |zero=>
   obtain rfl:n=0:=Zo
   exact h
 |succ m ih=>
  by_cases hn:n=m+1
  ·subst hn;exact h
  ·rw[hdsF,ih Zo]
theorem qe5{f:Nat->Nat}:∀{n:Nat} {l:List (Int×Int×Int)},hdsF f n=some l->l.length=n
 |0,l,h=>by
  rw[hdsF] at h;injection h with h;subst h;rfl
 |n+1,l,h=>by
  rw[hdsF] at h;cases h1:hdsF f n with
  |none=>rw[h1] at h;cases h
  |some m=>
   rw[h1] at h;simp only at h;cases h2:hdO (f n) with
   |none=>rw[h2] at h;cases h
   |some x=>
    rw[h2] at h;injection h with h;subst h;rw[was,qe5 h1];rfl
def hdAt(l:Int)(i:Nat):Nat:=16+40*l.toNat+8*i
def qa3(s l r:Int)(ws:List Nat):Option (List (Int×Int×Int)):=if fitB s l r ws.length=true then hdsF (λi=>ws.getD (hdAt l i) 0) s.toNat else none
def qcq(s l r:Int)(ws:List Nat):List Nat:=if fitB s l r ws.length=true then(List.range s.toNat).map λi=>ws.getD (hdAt l i+1) 0 else[]
def qak(ws:List Nat)(t:Nat):List (Int×Nat):=(qbh (ws.getD (16+40*t) 0) ((ws.drop (24+40*t)).take 32)).getD []
def qbj(s l r a:Int):Bool:=decide ((plc s l r a).1=1/\0<=(plc s l r a).2.1)||(decide ((plc s l r a).1=3/\(plc s l r a).2.2<2)||decide ((plc s l r a).1=4))
theorem imay_iff{s l r a:Int}:qbj s l r a=true↔mayB s l r=true/\((8<=a/\a<8+r)\/(16+40*l<=a/\a<16+40*l+8*s/\(a - 16 - 40*l)%8<2)\/(16+40*l+8*s<=a/\a<16+40*l+72*s)):=by
 cases hm:mayB s l r with
 |false=>
  have hp:plc s l r a=(5,-1,0):=if_pos (by rw[hm];simp);rw[qbj,hp];simp
 |true=>
  have hb:=qcc hm;unfold qbj plc;rw[hm];simp only[true_and,wfn,decide_eq_true_eq];by_cases c0:0<=a/\a<16+40*l+72*s
  ·rw[if_neg Zo]
   by_cases c1:a<8
   ·rw[if_pos c1];dsimp only;omega
   ·rw[if_neg c1]
    by_cases c2:a<8+r
    ·rw[if_pos c2];dsimp only;omega
    ·rw[if_neg c2]
     by_cases c3:a<16
     ·rw[if_pos c3];dsimp only;omega
     ·rw[if_neg c3]
      by_cases c4:a - 16<40*l
      ·rw[if_pos c4];dsimp only;omega
      ·rw[if_neg c4]
       by_cases c5:a - 16 - 40*l<8*s
       ·rw[if_pos c5];dsimp only;omega
       ·rw[if_neg c5];dsimp only;omega
  ·rw[if_pos c0];dsimp only;omega
def putE(o:List Nat)(es:List (Int×Nat)):List Nat:=es.foldl (λo e=>o.set e.1.toNat e.2) o
theorem qo5(o:List Nat)(es:List (Int×Nat))(e:Int×Nat):putE o (es++[e])=(putE o es).set e.1.toNat e.2:=by simp[putE]
theorem qi0(o:List Nat)(es:List (Int×Nat)):(putE o es).length=o.length:=by
 induction es generalizing o with
 |nil=>rfl
 |cons e r ih=>show(putE (o.set e.1.toNat e.2) r).length=_;rw[ih,wb1]
theorem qid{o:List Nat}{es:List (Int×Nat)}{i:Nat}(h:∀e∈es,e.1.toNat≠i):(putE o es)[i]? =o[i]?:=by
 induction es generalizing o with
 |nil=>rfl
 |cons e r ih=>
  show(putE (o.set e.1.toNat e.2) r)[i]? =_
  rw[ih (λx hx=>h x (wes _ hx)),wbe (h e (wfe ..))]
def repF(s l r:Int)(ws:List Nat):Nat->Option (List Nat)
 |0=>some ws
 |t+1=>match repF s l r ws t with
  |none=>none
  |some o=>if(qak ws t).all (λe=>qbj s l r e.1)=true then some ((putE o (qak ws t)).set (16+40*t) 0) else none
theorem qdw{s l r:Int}{ws o:List Nat}{t:Nat}(h1:repF s l r ws t=some o)(h2:(qak ws t).all (λe=>qbj s l r e.1)=true):repF s l r ws (t+1)=some ((putE o (qak ws t)).set (16+40*t) 0):=by rw[repF,h1];exact if_pos h2
theorem qgz{s l r:Int}{ws:List Nat}{t:Nat}(h2:(qak ws t).all (λe=>qbj s l r e.1)=false):repF s l r ws (t+1)=none:=by
 rw[repF];cases repF s l r ws t with
 |none=>rfl
 |some o=>exact if_neg (by rw[h2];decide)
theorem qkw{s l r:Int}{ws:List Nat}{n m:Nat}(h:repF s l r ws n=none)(hm:n<=m):repF s l r ws m=none:=by
 induction m with
 |zero=>
   obtain rfl:n=0:=Zo
   exact h
 |succ m ih=>
  by_cases hn:n=m+1
  ·subst hn;exact h
  ·rw[repF,ih Zo]
theorem qfv{s l r:Int}{ws:List Nat}(hf:fitB s l r ws.length=true):∀{t:Nat} {o:List Nat},(t:Int)<=l->repF s l r ws t=some o->o.length=ws.length/\o.take 8=ws.take 8/\∀k,k<t->o[16+40*k]? =some 0
 |0,o,_,h=>by
  rw[repF] at h;injection h with h;subst h;exact⟨rfl,rfl,λk hk=>by omega⟩
 |t+1,o,ht,h=>by
  cases h1:repF s l r ws t with
  |none=>rw[repF,h1] at h;cases h
  |some o1=>
   obtain⟨g1,g2,g3⟩:=qfv hf (t:=t) Zo h1;cases h2:(qak ws t).all (λe=>qbj s l r e.1) with
   |false=>rw[qgz h2] at h;cases h
   |true=>
    rw[qdw h1 h2] at h;injection h with h;subst h;have hb:=qaw hf;have hm:∀e∈qak ws t,(8:Int)<=e.1/\(e.1<16\/16+40*l<=e.1):=λe he=>by
     have:=imay_iff.1 (wcp.1 h2 e he)
     omega
    refine⟨by rw[wb1,qi0,g1],?_,λk hk=>?_⟩
    ·rw[<-g2]
     apply wa3
     intro i;by_cases hi:i<8
     ·rw[wbf hi,wbf hi,wbe Zo,qid (λe he=>by have:=hm e he;omega)]
     ·rw[wb2 Zo,wb2 Zo]
    ·by_cases hkt:k=t
     ·subst hkt
      rw[wb3 (by rw[qi0,g1];omega)]
     ·rw[wbe Zo,qid (λe he=>by have:=hm e he;omega)]
      exact g3 k Zo
theorem qfs{ws:List Nat}{t:Nat}(h:ws.getD (16+40*t) 0=0):qak ws t=[]:=by rw[qak,h,qgf];rfl
theorem qee{s l r:Int}{v:List Nat}{n:Nat}(h:∀k,k<n->v[16+40*k]? =some 0):∀t,t<=n->repF s l r v t=some v
 |0,_=>rfl
 |t+1,ht=>by
  have h0:=h t Zo;have hl:qak v t=[]:=qfs (by rw[wax,h0];rfl);rw[qdw (qee h t Zo) (by rw[hl];rfl),hl];show some (v.set (16+40*t) 0)=some v
  congr 1
  obtain⟨hlt,he⟩:=wan.1 h0;have:=List.set_getElem_self hlt
  rw[he] at this;exact this
theorem q1q{s l r:Int}{ws v:List Nat}(hh:Hit ws s l r)(h:repF s l r ws l.toNat=some v):Hit v s l r/\repF s l r v l.toNat=some v:=by
 have hb:=qdo hh.1;have hm:=qcc hh.1;have hf:fitB s l r ws.length=true:=fitB_iff.2 ⟨hh.1,hh.2.1⟩;obtain⟨h1,h2,h3⟩:=qfv hf Zo h;exact⟨⟨hh.1,by rw[h1];exact hh.2.1,by rw[h2];exact hh.2.2⟩,qee h3 _ (wab _)⟩
def qa8(s l r:Int):List Nat:=supL s l r++List.replicate ((totN s l r).toNat - 8) 0
theorem qhi{s l r:Int}(hm:mayB s l r=true):((qa8 s l r).length:Int)=totN s l r:=by
 have:=qdo hm
 rw[qa8,was,qco,wfo];omega
theorem qho{s l r:Int}(hm:mayB s l r=true):Hit (qa8 s l r) s l r:=⟨hm,qhi hm,by rw[qa8,List.take_left' (qco s l r)]⟩
theorem qex{s l r:Int}(hm:mayB s l r=true){i:Nat}(h0:8<=i)(h1:(i:Int)<totN s l r):(qa8 s l r)[i]? =some 0:=by
 rw[qa8,wbt (by rw[qco];exact h0),qco,wcu,if_pos Zo]
theorem qjw{s l r:Int}(hm:mayB s l r=true):repF s l r (qa8 s l r) l.toNat=some (qa8 s l r):=by
 have hb:=qdo hm;have hd:=qcc hm;exact qee (n:=l.toNat) (λk hk=>qex hm Zo Zo) _ (wab _)
theorem q82:hdO 0=some (0,0,0):=by decide
theorem qv3{s l r:Int}(hm:mayB s l r=true):qa3 s l r (qa8 s l r)=some (List.replicate s.toNat (0,0,0)):=by
 have hb:=qdo hm;have hd:=qcc hm;rw[qa3,if_pos (fitB_iff.2 ⟨hm,qhi hm⟩)];have:∀n,n<=s.toNat->hdsF (λi=>(qa8 s l r).getD (hdAt l i) 0) n=some (List.replicate n (0,0,0)):=by
  intro n;induction n with
  |zero=>intro _;rfl
  |succ n ih=>
   intro hn;have hz:(qa8 s l r).getD (hdAt l n) 0=0:=by
    rw[wax,qex hm (by unfold hdAt;omega) (by unfold hdAt;omega)];rfl
   rw[qip (ih Zo) (show hdO ((qa8 s l r).getD (hdAt l n) 0)=some (0,0,0) by rw[hz];exact q82),List.replicate_succ']
 exact this _ (wab _)
theorem quv{w:World}{p:Addr}{n:Nat}{xs:List Value}(h:Rd w (some p) n xs):∀j u,xs[j]? =some u->w.cell? (p.add j)=some u:=by
 intro j u hu;have hn:0<n:=by
  have h1:=(wan.1 hu).1;have h2:=h.1;omega
 obtain⟨q,hq,hc⟩:=h.2 hn;injection hq with hq;subst hq;exact hc j u hu
theorem qqw(a:Addr)(n c:Nat)(w:World):(Go.binOp .eql 40 (.slice (some a) n c) (.slice none 0 0)).run Tryz.prog w= .ok (.bool false) w:=by
 have h:∀d:Nat,(Op.equalIn (d+1) 40 (.slice (some a) n c) (.slice none 0 0)).run Tryz.prog w= .ok false w:=λd=>by
  simp[Op.equalIn,run_underlying Tryz.underlying40]
 simp[Go.binOp,Op.equal,Op.maxDepth,h 9999]
theorem qhu(p:Addr)(n cap:Nat)(ws:List Nat)(w:World)(hr:Rd w (some p) n (u64V ws))(hn:ws.length=n)(h0:0<n)(h1:n<=2000)(hcap:n<=cap):
  Calls Tryz.prog 44 #[.slice (some p) n cap] w λe w'=>∃g c,e= .returned (.slice (some ⟨g,0,none⟩) n c)/\w'.ownsRow w.heap.size 27 1 (.slice (some ⟨g,0,none⟩) n c) n (u64V ws)/\Below w.heap.size w w':=by
 obtain⟨i0,ii,iz0,iz1,iz2⟩:=info_parts qcg;have hnil:=λV=>qqw p n cap V
 have hrow:(w.alloc (.cells #[] 27)).ownsRow w.heap.size 27 1 (.slice (some ⟨w.heap.size,0,none⟩) 0 0) 0 []:=wcq (base:=w.heap.size) (e:=27) (size:=1) w #[] 0 (wab _) Zd rfl;have hB:=(wac w.heap.size w).alloc (wab _) (.cells #[] 27);have hrc:=waa (quv (hr.below hB));have huv:=waa (show(u64V ws).length=n by rw[qai,hn]);have hone:=waa (show ∀u∈u64V ws,u.oneCell'=true by simp[u64V,Value.oneCell']);have hs2:=waa hB.size;clear hr;go_enter Tryz.func44,Tryz.ntmps44;go_wp2_with (at_builtin;go_loud (refine wpList_append_own _ rfl _ _ 40 rfl w.heap.size 27 i0 (.int .u64 0) 1 8 wbi ii iz0 iz1 iz2 rfl Zd _ 0 [] rfl hrow p n cap (u64V ws) rfl (by rw[huv.out];omega) hrc.out hone.out (by simp only[maxLen];omega) Zo hs2.out ?_);intro v' w3 hown hgrow _;obtain⟨g,cap2,rfl,hgb2,hgl⟩:=hown.form Zo;rw[wa4,wba] at hown;have hB3:=hB.grown hgrow hs2.out (qa0 hrow))
 go_ret;exact⟨_,_,rfl,hown,hB3⟩
theorem q0b(w:World):Calls Tryz.prog 44 #[.slice none 0 0] w λe w'=>e= .returned (.slice none 0 0)/\w'=w:=by
 have hnil:∀V:World,(Go.binOp .eql 40 (.slice none 0 0) (.slice none 0 0)).run Tryz.prog V= .ok (.bool true) V:=λV=>by
  have h:∀d:Nat,(Op.equalIn (d+1) 40 (.slice none 0 0) (.slice none 0 0)).run Tryz.prog V= .ok true V:=λd=>by
   simp[Op.equalIn,run_underlying Tryz.underlying40]
  simp[Go.binOp,Op.equal,Op.maxDepth,h 9999]
 go_enter Tryz.func44,Tryz.ntmps44;go_wp2_with fail;go_ret;exact⟨rfl,rfl⟩
theorem q2s{A:Option Addr}{c n s:Nat}{l:List Nat}{w:World}(hr:Rd w A n (u64V l))(hn:Keep (l.length=n))(hm:n<=300)(hl:Keep (∀b∈l,b<18446744073709551616))(hs:Keep (qbo l=s)):
  Calls Tryz.prog 172 #[.slice A n c] w λe w'=>e= .returned (.int .u64 (s:Nat))/\w=w':=by
 have e1:=hn.out;have e2:=hs.out;subst e1 e2;exact qn0 A c l w hr Zo hl.out
def Same(l m:List Nat)(w:World)(e:Ending)(w':World):Prop:=e= .returned (.bool (decide (l=m)))/\∃t,w.drewN t=w'
theorem qp8(A B:Option Addr)(c d:Nat)(l m:List Nat)(w:World)(hr:Rd w A l.length (u64V l))(hs:Rd w B m.length (u64V m))(hl:l.length<=9223372036854775807)(hm:m.length<=9223372036854775807):
  Calls Tryz.prog 128 #[.slice A l.length c,.slice B m.length d] w (Same l m w):=by
 by_cases hlen:l.length=m.length
 ·have h1:((l.length:Int) !=(m.length:Int))=false:=by rw[hlen];simp
  have hlen':=waa hlen;rw[<-hlen] at hs;clear hlen;go_enter Tryz.func128,Tryz.ntmps128;go_wp2
  go_loopw [5,13] (λ_ k wr=>∃(j t:Nat),j<=l.length/\Hid (l.drop j=m.drop j↔l=m)/\k= .int .i64 (j:Int)/\wr=w.drewN t) (λ_ k _=>l.length - (intOf k).toNat)
  case atStart=>exact⟨0,0,Zo,waa Zs,rfl,rfl⟩
  case round=>
   obtain⟨j,t,hj,he,rfl,rfl⟩:=hrel;by_cases hlt:j<l.length
   ·obtain⟨p,x,rfl,hd,hx,hcx⟩:=hr.u64_at hlt
    obtain⟨q,y,rfl,hd2,hy,hcy⟩:=hs.u64_at hlt;rw[hd,hd2] at he;have hz:(0:Int)<=(j:Int):=Zo
    have hz2:(j:Int)<(l.length:Int):=Zo
    have hz3:(j:Int)<(m.length:Int):=by have:=hlen'.out;omega
    clear hd hd2 hx hy;by_cases hxy:x=y
    ·have h2:((x:Int) !=(y:Int))=false:=by rw[hxy];simp
     have he2:Hid (l.drop (j+1)=m.drop (j+1)↔l=m):=waa (by rw[<-he.out,hxy];simp);clear he hxy;go_wp2
     go_quiet (fail)
     go_wp2
     go_roundw
     case rel=>exact⟨j+1,_,Zo,he2,by go_num,rfl⟩
     case measure=>simp[intOf];omega
    ·have h2:((x:Int) !=(y:Int))=true:=bne_iff_ne.2 Zo
     have he2:Hid (¬l=m):=waa (by rw[<-he.out];simp[hxy]);clear he hxy;go_wp2
     go_quiet (fail)
     go_wp2
     go_ret;exact⟨qab (by rw[decide_eq_false he2.out]),_,by rw[World.drewN_drewN]⟩
   ·have he2:Hid (l=m):=waa (he.out.1 (by rw[wbn Zo,wbn (by have:=hlen'.out;omega)]))
    clear he;go_wp2
    go_ret;exact⟨qab (by rw[decide_eq_true he2.out]),_,rfl⟩
 ·have h1:((l.length:Int) !=(m.length:Int))=true:=bne_iff_ne.2 Zo
  have h2:=waa (show ¬l=m from λe=>hlen (by rw[e]));clear hlen;go_enter Tryz.func128,Tryz.ntmps128;go_wp2
  go_ret;exact⟨qab (by rw[decide_eq_false h2.out]),0,rfl⟩
theorem qjc(w:World):Calls Tryz.prog 170 #[] w λe w'=>e= .returned (.slice (some ⟨w.heap.size,0,none⟩) 3 3)/\w.alloc (.cells #[.int .i64 16,.int .i64 16,.int .i64 16] 3)=w':=by
 go_enter Tryz.func170,Tryz.ntmps170;go_wp2
 go_ret;exact⟨rfl,rfl⟩
theorem qzv(a b c:Nat)(w:World)(ha:a<=16)(hb:b<=4)(hc:c<=8):
  Calls Tryz.prog 171 #[.agg #[.int .i64 (a:Int),.int .i64 (b:Int),.int .i64 (c:Int)]] w λe w'=>e= .returned (.int .u64 ((a+65536*b+4294967296*c:Nat):Int))/\Below w.heap.size w w':=by
 have hj:=qvt (a:=a) (b:=b) (c:=c) Zo Zo Zo;have hjn:∀(A0 A1:Option Addr) (V:World),Rd V A0 3 (i64V [16,16,16])->Rd V A1 3 (u64V [a,b,c])->Calls Tryz.prog 178 #[.slice A0 3 3,.slice A1 3 3] V λe w'=>e= .returned (.tuple #[.int .u64 ((a+65536*b+4294967296*c:Nat):Int),.bool true])/\Below V.heap.size V w':=λA0 A1 V h0 h1=>by
  have h:=qiq A0 A1 3 3 [16,16,16] [a,b,c] V h0 h1 Zd Zs Zd (by intro x hx;simp at hx;omega);rw[hj] at h;exact h
 have hjn':=waa hjn;clear hj hjn;go_enter Tryz.func171,Tryz.ntmps171;go_wp2_with fail;have k0:IntKind.u64.wrap (a:Int)=(a:Int):=by rw[wa5];omega
 have k1:IntKind.u64.wrap (b:Int)=(b:Int):=by rw[wa5];omega
 have k2:IntKind.u64.wrap (c:Int)=(c:Int):=by rw[wa5];omega
 obtain⟨hx0,hx1,hx2⟩:(w.alloc (.cells #[.int .i64 (a:Int),.int .i64 (b:Int),.int .i64 (c:Int)] 23)).cell? ⟨w.heap.size,0,none⟩=some (.int .i64 (a:Int))/\(w.alloc (.cells #[.int .i64 (a:Int),.int .i64 (b:Int),.int .i64 (c:Int)] 23)).cell? ⟨w.heap.size,1,none⟩=some (.int .i64 (b:Int))/\(w.alloc (.cells #[.int .i64 (a:Int),.int .i64 (b:Int),.int .i64 (c:Int)] 23)).cell? ⟨w.heap.size,2,none⟩=some (.int .i64 (c:Int)):=⟨by simp,by simp,by simp⟩
 go_region_held3 (λV=>V.cell? ⟨w.heap.size,0,none⟩=some (.int .i64 (a:Int))/\V.cell? ⟨w.heap.size,1,none⟩=some (.int .i64 (b:Int))/\V.cell? ⟨w.heap.size,2,none⟩=some (.int .i64 (c:Int)))
  (first|go_keep|with_reducible exact⟨hy0,hy1,hy2⟩)
  (first
   |(go_at_call 170;refine(qjc _).mono ?_;rintro e w' ⟨rfl,rfl⟩)
   |(go_at_call 178
     first
      |refine(hjn'.out _ _ _ (qch (qd0 (qbv Zr Zr Zs) _)) (qch (qbv Zr Zr Zs))).mono ?_
      |refine(hjn'.out _ _ _ (qch (qbv Zr Zr Zs)) (qch (qd0 (qbv Zr Zr Zs) _))).mono ?_
     rintro e w1 ⟨rfl,hB⟩;have hBx:=(((wac (w.heap.size+1) (w.alloc (.cells #[.int .i64 (a:Int),.int .i64 (b:Int),.int .i64 (c:Int)] 23))).alloc Zs _).alloc Zs _).drew.trans (hB.mono Zs);have hy0:=(hBx.cell (p:=⟨w.heap.size,0,none⟩) Zs).trans hx0;have hy1:=(hBx.cell (p:=⟨w.heap.size,1,none⟩) Zs).trans hx1;have hy2:=(hBx.cell (p:=⟨w.heap.size,2,none⟩) Zs).trans hx2;have hB1:=((wac _ w).alloc (wab _) (.cells #[.int .i64 (a:Int),.int .i64 (b:Int),.int .i64 (c:Int)] 23)).trans (hBx.mono Zo)))
 all_goals
  go_wp2_with fail;go_ret;exact⟨rfl,hB1⟩
def Fresh(w:World)(l:List Nat)(v:Value)(w':World):Prop:=(∃A cap,v= .slice A l.length cap/\Rd w' A l.length (u64V l))/\Below w.heap.size w w'
theorem Fresh.none(w:World){w':World}(h:Below w.heap.size w w'):Fresh w [] (.slice .none 0 0) w':=⟨⟨.none,0,rfl,Rd.nil_ _ _⟩,h⟩
def supW(s l r:Int):List Nat:=if mayB s l r=true then supL s l r else[]
theorem qi3{s l r:Int}(h:mayB s l r=true):supW s l r=supL s l r:=if_pos h
theorem qxg{s l r:Int}(h:mayB s l r=false):supW s l r=[]:=if_neg (by rw[h];decide)
theorem qeq(w:World)(s l r:Int):Below w.heap.size w (w.alloc (.cells #[.int .i64 s,.int .i64 l,.int .i64 r] 23)):=(wac _ w).alloc (wab _) _
theorem q7p(s l r:Int)(w:World)(hm:mayB s l r=false):Calls Tryz.prog 129 #[.agg #[.int .i64 s,.int .i64 l,.int .i64 r]] w λe w'=>∃v,e= .returned v/\Fresh w [] v w':=by
 have hmay:∀V,Calls Tryz.prog 100 #[.agg #[.int .i64 s,.int .i64 l,.int .i64 r]] V λe w'=>e= .returned (.bool false)/\Below V.heap.size V w':=λV=>by have:=qd7 s l r V;rwa [hm] at this
 clear hm;go_enter Tryz.func129,Tryz.ntmps129;go_wp2_with fail;refine(hmay _).mono ?_;rintro e w1 ⟨rfl,hB⟩;go_wp2_with fail;go_ret;exact⟨_,rfl,Fresh.none w ((qeq w s l r).trans (hB.mono Zs))⟩
def Blk(V:World)(b:Nat)(l:List Nat):Prop:=V.heap[b]? =some (.cells (u64V l).toArray 27 (0,0))
theorem Blk.below{V V':World}{b B:Nat}{l:List Nat}(h:Blk V b l)(hb:Below B V V')(hB:b<B):Blk V' b l:=(hb.block b hB).trans h
theorem Blk.lt{V:World}{b:Nat}{l:List Nat}(h:Blk V b l):b<V.heap.size:=(wal.1 h).1
theorem Blk.rd{V:World}{b:Nat}{l:List Nat}(h:Blk V b l)(n:Nat)(hn:n<=l.length):Rd V (some ⟨b,0,none⟩) n (u64V (l.take n)):=by
 refine⟨by rw[qai,war];omega,λ_=>⟨_,rfl,λj u hu=>?_⟩⟩;have e:(⟨b,0,none⟩:Addr).add j=⟨b,j,none⟩:=by
  cases j with
  |zero=>rfl
  |succ j=>simp[Addr.add]
 have hj:j<n:=by
  have:=(wan.1 hu).1
  rw[qai,war] at this;omega
 rw[e,qaa h,wcs];rw[<-hu];simp[u64V,hj]
theorem Blk.cell{V:World}{b:Nat}{l:List Nat}(h:Blk V b l){k:Nat}{x:Nat}(hk:l[k]? =some x):V.cell? ⟨b,k,none⟩=some (.int .u64 (x:Int)):=by
 rw[qaa h,wcs];simp[u64V,hk]
theorem Blk.frozen{V:World}{b:Nat}{l:List Nat}(h:Blk V b l)(k:Nat):V.frozen? ⟨b,k,none⟩=false:=qaj h k
theorem Blk.set{V:World}{b:Nat}{l:List Nat}(h:Blk V b l)(k:Nat){x:Nat}{y:Int}(hy:y=(x:Int)):Blk (V.setCell ⟨b,k,none⟩ (.int .u64 y)) b (l.set k x):=by
 subst hy;have:=qah h k (.int .u64 (x:Int))
 unfold Blk;rw[this];congr 2
 simp[u64V,List.map_set]
theorem q30(s l r:Int)(w:World)(hm:mayB s l r=true):Calls Tryz.prog 129 #[.agg #[.int .i64 s,.int .i64 l,.int .i64 r]] w λe w'=>∃v,e= .returned v/\Fresh w (supL s l r) v w':=by
 have hmay:∀V,Calls Tryz.prog 100 #[.agg #[.int .i64 s,.int .i64 l,.int .i64 r]] V λe w'=>e= .returned (.bool true)/\Below V.heap.size V w':=λV=>by have:=qd7 s l r V;rwa [hm] at this
 obtain⟨s0,s1,l0,l1,r0,r1⟩:=qcc hm;have hcnt:∀V,Calls Tryz.prog 171 #[.agg #[.int .i64 s,.int .i64 l,.int .i64 r]] V λe w'=>e= .returned (.int .u64 (cntN s l r:Nat))/\Below V.heap.size V w':=λV=>by
  have:=qzv s.toNat l.toNat r.toNat V Zo Zo Zo
  rw[weo Zo,weo Zo,weo Zo] at this;exact this
 obtain⟨n,hn⟩:∃n:Nat,n=cntN s l r:=⟨_,rfl⟩
 obtain⟨t,ht⟩:∃t:Nat,t=(totN s l r).toNat:=⟨_,rfl⟩
 have htot:∀V,Calls Tryz.prog 131 #[.agg #[.int .i64 s,.int .i64 l,.int .i64 r]] V λe w'=>e= .returned (.int .i64 (t:Int))/\Below V.heap.size V w':=λV=>by
  have:=qje s l r V
  have h2:=qdo hm;rw[show totN s l r=(t:Int) by omega] at this;exact this
 have ht0:(t:Int)<18446744073709551616:=by have:=qdo hm;omega
 rw[<-hn] at hcnt;have hsev:Keep (sevL s l r=[8390880580533249394,3,n,t,0,0,0]):=keep (by unfold sevL;rw[<-hn,<-ht]);have hsl:=keep (qr1 hm);have hsup:Keep (supL s l r=sevL s l r++[qbo (sevL s l r)]):=keep rfl;obtain⟨q,hq⟩:∃q:Nat,Keep (qbo (sevL s l r)=q):=⟨_,keep rfl⟩
 clear hn ht hm;have hmk:∀w,(Instr.makeSlice 40 (.int .i64 8) (.int .i64 8)).run Tryz.prog w= .ok (.slice (some ⟨w.heap.size,0,none⟩) 8 8) (w.alloc (.cells #[.int .u64 0,.int .u64 0,.int .u64 0,.int .u64 0,.int .u64 0,.int .u64 0,.int .u64 0,.int .u64 0] 27)):=λ_=>by kernel_rfl
 go_enter Tryz.func129,Tryz.ntmps129;go_wp2_with fail;refine(hmay _).mono ?_;rintro e w1 ⟨rfl,hB⟩;have hB1:=(qeq w s l r).trans (hB.mono Zs);obtain⟨x0,x1,x2⟩:w1.cell? ⟨w.heap.size,0,none⟩=some (.int .i64 s)/\w1.cell? ⟨w.heap.size,1,none⟩=some (.int .i64 l)/\w1.cell? ⟨w.heap.size,2,none⟩=some (.int .i64 r):=⟨(hB.cell Zs).trans Zs,(hB.cell Zs).trans Zs,(hB.cell Zs).trans Zs⟩
 have hz1:w.heap.size<w1.heap.size:=by have:=hB.size;simp at this;omega
 clear hB;go_wp2_with fail;have hb1:Blk (w1.alloc (.cells #[.int .u64 8390880580533249394,.int .u64 3,.int .u64 0,.int .u64 0,.int .u64 0,.int .u64 0,.int .u64 0,.int .u64 0] 27)) w1.heap.size [8390880580533249394,3,0,0,0,0,0,0]:=World.alloc_heap_new w1 _;have hBa:=hB1.alloc hB1.size (.cells #[.int .u64 8390880580533249394,.int .u64 3,.int .u64 0,.int .u64 0,.int .u64 0,.int .u64 0,.int .u64 0,.int .u64 0] 27);have hk1:=(wac w1.heap.size w1).alloc (wab _) (.cells #[.int .u64 8390880580533249394,.int .u64 3,.int .u64 0,.int .u64 0,.int .u64 0,.int .u64 0,.int .u64 0,.int .u64 0] 27);generalize (w1.alloc (.cells #[.int .u64 8390880580533249394,.int .u64 3,.int .u64 0,.int .u64 0,.int .u64 0,.int .u64 0,.int .u64 0,.int .u64 0] 27))=W1 at hb1 hBa hk1 ⊢;refine(hcnt _).mono ?_;rintro e w2 ⟨rfl,hC⟩;have hb2:=hb1.below hC hb1.lt;have c2:=hb2.cell (k:=2) rfl;have f2:=hb2.frozen 2;have hk2:=(hk1.trans (hC.mono hk1.size)).setCell (p:=⟨w1.heap.size,2,none⟩) (wab _) (.int .u64 (n:Int));have hB2:=(hBa.trans (hC.mono hBa.size)).setCell (p:=⟨w1.heap.size,2,none⟩) Zx (.int .u64 (n:Int));have hb3:Blk (w2.setCell ⟨w1.heap.size,2,none⟩ (.int .u64 (n:Int))) w1.heap.size [8390880580533249394,3,n,0,0,0,0,0]:=hb2.set 2 rfl;have y0:=(hk2.cell (p:=⟨w.heap.size,0,none⟩) hz1).trans x0;have y1:=(hk2.cell (p:=⟨w.heap.size,1,none⟩) hz1).trans x1;have y2:=(hk2.cell (p:=⟨w.heap.size,2,none⟩) hz1).trans x2;clear hb1 hBa hk1 hb2 hC hcnt hmay hB1 x0 x1 x2;go_wp2_with fail;generalize w2.setCell ⟨w1.heap.size,2,none⟩ (.int .u64 (n:Int))=W2 at hb3 hB2 hk2 ⊢;refine(htot _).mono ?_;rintro e w3 ⟨rfl,hC⟩;have hb4:=hb3.below hC hb3.lt;have c3:=hb4.cell (k:=3) rfl;have f3:=hb4.frozen 3;have hB3:=(hB2.trans (hC.mono hB2.size)).setCell (p:=⟨w1.heap.size,3,none⟩) Zx (.int .u64 (t:Int));have hb5:Blk (w3.setCell ⟨w1.heap.size,3,none⟩ (.int .u64 (t:Int))) w1.heap.size [8390880580533249394,3,n,t,0,0,0,0]:=hb4.set 3 rfl;clear hb3 hB2 hk2 hb4 hC htot y0 y1 y2 c2 f2;go_wp2_with fail;generalize w3.setCell ⟨w1.heap.size,3,none⟩ (.int .u64 (t:Int))=W3 at hb5 hB3 ⊢;have hr7:=hb5.rd 7 Zs;rw[show List.take 7 [8390880580533249394,3,n,t,0,0,0,0]=[8390880580533249394,3,n,t,0,0,0] from rfl,<-hsev.out] at hr7;refine(q2s hr7 (keep rfl) Zo hsl hq).mono ?_;rintro e w4 ⟨rfl,rfl⟩;have c7:=hb5.cell (k:=7) rfl;have f7:=hb5.frozen 7;clear hr7 c3 f3;go_wp2_with fail;have hb6:Blk (W3.setCell ⟨w1.heap.size,7,none⟩ (.int .u64 (q:Int))) w1.heap.size (supL s l r):=by
  rw[hsup.out,hq.out,hsev.out];exact hb5.set 7 rfl
 have hB4:=hB3.setCell (p:=⟨w1.heap.size,7,none⟩) Zx (.int .u64 (q:Int));generalize W3.setCell ⟨w1.heap.size,7,none⟩ (.int .u64 (q:Int))=W4 at hb6 hB4 ⊢;clear hb5 c7 f7;go_wp2_with fail;go_ret;have hrd:=hb6.rd 8 (wab _);rw[wa2 (by rw[qco];omega)] at hrd;exact⟨_,rfl,⟨_,_,rfl,hrd⟩,hB4⟩
theorem q2i(s l r:Int)(w:World):Calls Tryz.prog 129 #[.agg #[.int .i64 s,.int .i64 l,.int .i64 r]] w λe w'=>∃v,e= .returned v/\Fresh w (supW s l r) v w':=by
 cases hm:mayB s l r with
 |true=>rw[qi3 hm];exact q30 s l r w hm
 |false=>rw[qxg hm];exact q7p s l r w hm
theorem q5a(s l r:Int)(w:World)(hm:mayB s l r=false):Calls Tryz.prog 63 #[.agg #[.int .i64 s,.int .i64 l,.int .i64 r]] w λe w'=>∃v,e= .returned v/\Fresh w [] v w':=by
 have hmay:∀V,Calls Tryz.prog 10 #[.agg #[.int .i64 s,.int .i64 l,.int .i64 r]] V λe w'=>e= .returned (.bool false)/\Below V.heap.size V w':=λV=>by have:=qa1 s l r V;rwa [hm] at this
 clear hm;go_enter Tryz.func63,Tryz.ntmps63;go_wp2_with fail;refine(hmay _).mono ?_;rintro e w1 ⟨rfl,hB⟩;go_wp2_with fail;go_ret;exact⟨_,rfl,Fresh.none w ((qeq w s l r).trans (hB.mono Zs))⟩
theorem qx7{w w':World}{base size n:Nat}{e:TypeId}{v:Value}{xs:List Value}(h:w.ownsRow base e size v n xs)(hb:Below w.heap.size w w'):w'.ownsRow base e size v n xs:=
 h.kept (row:=none) ⟨hb.os,hb.tape,hb.output,hb.size,λk hk _=>hb.block k hk⟩ (by cases h':v.ownBlock<;>simp)
theorem qzr{A:Option Addr}{c n s:Nat}{l:List Nat}{w:World}(hr:Rd w A n (u64V l))(hn:Keep (l.length=n))(hm:n<=300)(hl:Keep (∀b∈l,b<18446744073709551616))(hs:Keep (qbo l=s)):
  Calls Tryz.prog 97 #[.slice A n c] w λe w'=>e= .returned (.int .u64 (s:Nat))/\Below w.heap.size w w':=by
 have e1:=hn.out;have e2:=hs.out;subst e1 e2;exact qli A c l w hr Zo hl.out
theorem q8t{s l r:Int}(hm:mayB s l r=true):IntKind.u64.wrap (IntKind.u64.wrap (IntKind.u64.wrap s+IntKind.u64.wrap (65536*IntKind.u64.wrap l))+IntKind.u64.wrap (4294967296*IntKind.u64.wrap r))=((cntN s l r:Nat):Int):=by
 have:=qcc hm
 unfold cntN;simp only[wa5];omega
theorem qnw(s l r:Int)(w:World)(hm:mayB s l r=true):Calls Tryz.prog 63 #[.agg #[.int .i64 s,.int .i64 l,.int .i64 r]] w λe w'=>∃v,e= .returned v/\w'.ownsRow w.heap.size 27 1 v (supL s l r).length (u64V (supL s l r))/\Below w.heap.size w w':=by
 have hmay:∀V,Calls Tryz.prog 10 #[.agg #[.int .i64 s,.int .i64 l,.int .i64 r]] V λe w'=>e= .returned (.bool true)/\Below V.heap.size V w':=λV=>by have:=qa1 s l r V;rwa [hm] at this
 obtain⟨s0,s1,l0,l1,r0,r1⟩:=qcc hm;have hcw:=q8t hm;obtain⟨n,hn⟩:∃n:Nat,n=cntN s l r:=⟨_,rfl⟩
 obtain⟨t,ht⟩:∃t:Nat,t=(totN s l r).toNat:=⟨_,rfl⟩
 have htot:∀V,Calls Tryz.prog 62 #[.agg #[.int .i64 s,.int .i64 l,.int .i64 r]] V λe w'=>e= .returned (.int .i64 (t:Int))/\Below V.heap.size V w':=λV=>by
  have:=qfr s l r V
  have h2:=qdo hm;rw[show totN s l r=(t:Int) by omega] at this;exact this
 have ht0:IntKind.u64.wrap (t:Int)=(t:Int):=by have:=qdo hm;rw[wa5];omega
 rw[<-hn] at hcw;have hsev:Keep (sevL s l r=[8390880580533249394,3,n,t,0,0,0]):=keep (by unfold sevL;rw[<-hn,<-ht]);have hsl:=keep (qr1 hm);have hsup:Keep (supL s l r=sevL s l r++[qbo (sevL s l r)]):=keep rfl;obtain⟨q,hq⟩:∃q:Nat,Keep (qbo (sevL s l r)=q):=⟨_,keep rfl⟩
 clear hn ht hm;obtain⟨i0,ii,iz0,iz1,iz2⟩:=info_parts qcg;have hBx:=qeq w s l r;obtain⟨x0,x1,x2⟩:(w.alloc (.cells #[.int .i64 s,.int .i64 l,.int .i64 r] 23)).cell? ⟨w.heap.size,0,none⟩=some (.int .i64 s)/\(w.alloc (.cells #[.int .i64 s,.int .i64 l,.int .i64 r] 23)).cell? ⟨w.heap.size,1,none⟩=some (.int .i64 l)/\(w.alloc (.cells #[.int .i64 s,.int .i64 l,.int .i64 r] 23)).cell? ⟨w.heap.size,2,none⟩=some (.int .i64 r):=⟨by simp,by simp,by simp⟩
 go_enter Tryz.func63,Tryz.ntmps63;go_wp2_with fail;refine(hmay _).mono ?_;rintro e w1 ⟨rfl,hB⟩;have hB1:=hBx.trans (hB.mono Zs);have hz1:w.heap.size<w1.heap.size:=by have:=hB.size;simp at this;omega
 have z0:=(hB.cell (p:=⟨w.heap.size,0,none⟩) Zs).trans x0;have z1:=(hB.cell (p:=⟨w.heap.size,1,none⟩) Zs).trans x1;have z2:=(hB.cell (p:=⟨w.heap.size,2,none⟩) Zs).trans x2;clear hB x0 x1 x2;go_wp2_with fail;go_region_held3 (λV=>V.cell? ⟨w.heap.size,0,none⟩=some (.int .i64 s)/\V.cell? ⟨w.heap.size,1,none⟩=some (.int .i64 l)/\V.cell? ⟨w.heap.size,2,none⟩=some (.int .i64 r))
  (first|go_keep|with_reducible exact⟨hy0,hy1,hy2⟩)
  (first
   |(go_at_call 62;refine(htot _).mono ?_;rintro e w2 ⟨rfl,hC⟩;have hk2:=(wac w1.heap.size w1.drew).trans (hC.mono (wab _));have hy0:=(hC.cell (p:=⟨w.heap.size,0,none⟩) (by simpa using hz1)).trans (show _=some (.int .i64 s) from z0);have hy1:=(hC.cell (p:=⟨w.heap.size,1,none⟩) (by simpa using hz1)).trans (show _=some (.int .i64 l) from z1);have hy2:=(hC.cell (p:=⟨w.heap.size,2,none⟩) (by simpa using hz1)).trans (show _=some (.int .i64 r) from z2)))
 have hB2:=(hB1.drew.trans (hC.mono hB1.size)).alloc (wap hB1.size hC.size) (.cells #[.int .u64 8390880580533249394,.int .u64 3,.int .u64 (n:Int),.int .u64 (t:Int),.int .u64 0,.int .u64 0,.int .u64 0] 27);have hown:(w2.alloc (.cells #[.int .u64 8390880580533249394,.int .u64 3,.int .u64 (n:Int),.int .u64 (t:Int),.int .u64 0,.int .u64 0,.int .u64 0] 27)).ownsRow w.heap.size 27 1 (.slice (some ⟨w2.heap.size,0,none⟩) 7 7) 7 (u64V (sevL s l r)):=by
  rw[hsev.out];exact wcq (e:=27) (size:=1) w2 #[.int .u64 8390880580533249394,.int .u64 3,.int .u64 (n:Int),.int .u64 (t:Int),.int .u64 0,.int .u64 0,.int .u64 0] 7 (wap hB1.size hC.size) Zd rfl
 generalize (w2.alloc (.cells #[.int .u64 8390880580533249394,.int .u64 3,.int .u64 (n:Int),.int .u64 (t:Int),.int .u64 0,.int .u64 0,.int .u64 0] 27))=W2 at hB2 hown ⊢;clear hC hk2 hy0 hy1 hy2 z0 z1 z2 hmay htot hcw;obtain⟨A,c,hAc,hrd⟩:=Rd.of_own hown;injection hAc with hA1 _ hc1;subst hA1 hc1;go_wp2_with fail;refine(qzr hrd (keep rfl) Zo hsl hq).mono ?_;rintro e w3 ⟨rfl,hD⟩;have hown3:=qx7 hown hD;have hB3:=hB2.trans (hD.mono hB2.size);have hs3:=hB3.size;clear hrd hown hD hB2;go_wp2_with (at_builtin;go_loud (refine wpList_append_own _ rfl _ _ 40 rfl w.heap.size 27 i0 (.int .u64 0) 1 8 wbi ii iz0 iz1 iz2 rfl Zd _ _ _ rfl (hown3.alloc _) ⟨w3.heap.size,0,none⟩ 1 1 [.int .u64 (q:Int)] rfl rfl (qd3 Zs _ _) (by simp[Value.oneCell']) (by simp only[maxLen];omega) Zo Zx ?_);intro v' w4 hown4 hgrow _)
 go_ret;have hB4:=(hB3.alloc hs3 (.cells #[.int .u64 (q:Int)] 27)).grown hgrow Zx (qa0 (hown3.alloc (.cells #[.int .u64 (q:Int)] 27)));have hown5:w4.ownsRow w.heap.size 27 1 v' (supL s l r).length (u64V (supL s l r)):=by
  rw[hsup.out,hq.out,qd8];exact hown4
 exact⟨_,rfl,hown5,hB4⟩
theorem qye(s l r:Int)(w:World)(hm:mayB s l r=true):Calls Tryz.prog 63 #[.agg #[.int .i64 s,.int .i64 l,.int .i64 r]] w λe w'=>∃v,e= .returned v/\Fresh w (supL s l r) v w':=
 (qnw s l r w hm).mono λe w' ⟨v,h1,hown5,hB4⟩=>by
  obtain⟨A,c,rfl,hrd⟩:=Rd.of_own hown5;exact⟨_,h1,⟨_,_,rfl,hrd⟩,hB4⟩
theorem q0o(s l r:Int)(w:World):Calls Tryz.prog 63 #[.agg #[.int .i64 s,.int .i64 l,.int .i64 r]] w λe w'=>∃v,e= .returned v/\Fresh w (supW s l r) v w':=by
 cases hm:mayB s l r with
 |true=>rw[qi3 hm];exact qye s l r w hm
 |false=>rw[qxg hm];exact q5a s l r w hm
end Go.Proofs.YtocncmbeinmiaaaGreat
