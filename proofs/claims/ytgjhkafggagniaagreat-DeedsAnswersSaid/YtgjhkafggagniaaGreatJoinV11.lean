/- Parts. No condition. -/
import Derived.Test.YtgjhkafggagniaaGreatJoinV10
set_option linter.unusedVariables false
set_option maxRecDepth 100000
set_option maxHeartbeats 8000000
namespace Go.Proofs.YtgjhkafggagniaaGreat
open Go Go.RowKit
def hV(l:List (Int×Int×Int)):List Value:=l.flatMap λb=>[.int .i64 b.1,.int .i64 b.2.1,.int .i64 b.2.2]
theorem qgw(l:List (Int×Int×Int)):(hV l).length=l.length*3:=by
 induction l with
 |nil=>rfl
 |cons e r ih=>
  show(Value.int .i64 e.1::Value.int .i64 e.2.1::Value.int .i64 e.2.2::hV r).length=_
  simp only[waz,ih];omega
theorem qla{l:List (Int×Int×Int)}{j:Nat}{e:Int×Int×Int}(h:l[j]? =some e):(hV l)[j*3]? =some (.int .i64 e.1)/\(hV l)[j*3+1]? =some (.int .i64 e.2.1)/\(hV l)[j*3+2]? =some (.int .i64 e.2.2):=by
 induction l generalizing j with
 |nil=>simp at h
 |cons f r ih=>
  cases j with
  |zero=>
   obtain rfl:f=e:=by simpa using h
   exact⟨rfl,rfl,rfl⟩
  |succ k=>
   have:=ih (j:=k) (by simpa using h)
   rw[show(k+1)*3=k*3+1+1+1 by omega];exact this
theorem HdsRd.of_own{w:World}{base n:Nat}{v:Value}{l:List (Int×Int×Int)}(h:w.ownsRow base 134 3 v n (hV l)):∃A cap,v= .slice A n cap/\HdsRd w A n l:=by
 have hl:l.length=n:=by have:=h.1;rw[qgw] at this;omega
 rcases h.2 with ⟨rfl,h0⟩|⟨g,cap,cur,rfl,hb,hg,hn,hc,hs,ht⟩
 ·subst h0
  exact⟨none,0,rfl,hl,λh=>absurd h Zo⟩
 ·refine⟨_,_,rfl,hl,λ_=>⟨_,rfl,λj e he=>?_⟩⟩
  obtain⟨h0,h1,h2⟩:=qla he;have hj:j<n:=by rw[<-hl];exact(was.1 he).1
  have ha:∀i,i<n*3->cur[i]? =(hV l)[i]?:=λi hi=>by
   rw[<-ht,waw,if_pos hi,wbm]
  have e0:(⟨g,0,none⟩:Addr).add (j*3)=⟨g,j*3,none⟩:=by unfold Addr.add;split<;>simp_all
  rw[e0];exact⟨by rw[qab hg,ha (j*3) Zo];exact h0,by rw[qab hg,ha (j*3+1) Zo];exact h1,by rw[qab hg,ha (j*3+2) Zo];exact h2⟩
theorem qj0:(Tryz.prog.info? 134).map (λi=>(i.zero,i.size,i.bytes))=some (some (.agg #[.int .i64 0,.int .i64 0,.int .i64 0]),3,24):=by kernel_rfl
theorem qzh(n:Nat):hV (List.replicate n (0,0,0))=List.replicate (n*3) (Value.int .i64 0):=by
 induction n with
 |zero=>rfl
 |succ n ih=>
  rw[wdc];show Value.int .i64 0::Value.int .i64 0::Value.int .i64 0::hV (List.replicate n (0,0,0))=_
  rw[ih,show(n+1)*3=n*3+1+1+1 by omega,wdc,wdc,wdc]
theorem qps(n:Nat):madeCells #[Value.int .i64 0,Value.int .i64 0,Value.int .i64 0] (n*3)=(hV (List.replicate n (0,0,0))).toArray:=by
 rw[qzh];apply Array.ext'
 apply wa2
 intro j;by_cases hj:j<n*3
 ·have h3:j%3=0\/j%3=1\/j%3=2:=Zo
  rcases h3 with h|h|h<;>simp[madeCells,hj,h]
 ·simp[madeCells,hj]
theorem qif(t:Nat)(ht:t<=2000)(w:World):(Instr.makeSlice 90 (.int .i64 (t:Int)) (.int .i64 (t:Int))).run Tryz.prog w= .ok (.slice (some ⟨w.heap.size,0,none⟩) t t) (w.alloc (.cells (hV (List.replicate t (0,0,0))).toArray 134)):=by
 obtain⟨i,hi,hz,hs,hb⟩:=info_parts qj0;have h:=run_makeSlice (P:=Tryz.prog) w 90 134 i _ weu hi hz .i64 .i64 (t:Int) (t:Int) Zo (wcz _) (by rw[hs,wao];omega) (by rw[hb];omega) Zo;rw[hs,wao] at h;rw[h,<-qps];rfl
theorem q1z(m:List (Int×Int×Int))(j:Nat)(k c n:Int)(hj:j<m.length):(((hV m).set (j*3) (.int .i64 k)).set (j*3+1) (.int .i64 c)).set (j*3+2) (.int .i64 n)=hV (m.set j (k,c,n)):=by
 induction m generalizing j with
 |nil=>simp at hj
 |cons h r ih=>
  cases j with
  |zero=>rfl
  |succ i=>
   show(((Value.int .i64 h.1::Value.int .i64 h.2.1::Value.int .i64 h.2.2::hV r).set ((i+1)*3) (.int .i64 k)).set ((i+1)*3+1) (.int .i64 c)).set ((i+1)*3+2) (.int .i64 n)=Value.int .i64 h.1::Value.int .i64 h.2.1::Value.int .i64 h.2.2::hV (r.set i (k,c,n))
   rw[<-ih i (by simpa using hj),show(i+1)*3=i*3+1+1+1 by omega,show i*3+1+1+1+1=i*3+1+1+1+1 from rfl];rfl
def cntB(n m:Int):Bool:=decide (1<=n/\n<=m)
theorem qyv{n m:Int}:cntB n m=true↔1<=n/\n<=m:=by simp[cntB]
def mayB(s l r:Int):Bool:=cntB s 16&&(cntB l 4&&cntB r 8)
theorem mayB_iff{s l r:Int}:mayB s l r=true↔(1<=s/\s<=16)/\(1<=l/\l<=4)/\1<=r/\r<=8:=by simp[mayB,qyv]
theorem qnp(n m:Int)(w:World):Calls Tryz.prog 138 #[.int .i64 n,.int .i64 m] w λe w'=>e= .returned (.bool (cntB n m))/\w=w':=by
 by_cases h1:1<=n<;>by_cases h2:n<=m
 all_goals
  go_enter Tryz.func138,Tryz.ntmps138;go_wp2
  go_ret;exact⟨qae (by unfold cntB;first|(exact(decide_eq_true Zo).symm)|(exact(decide_eq_false Zo).symm)),rfl⟩
theorem qha(s l r:Int)(w:World):Calls Tryz.prog 91 #[.agg #[.int .i64 s,.int .i64 l,.int .i64 r]] w λe w'=>e= .returned (.bool (mayB s l r))/\Below w.heap.size w w':=by
 cases h1:cntB s 16<;>cases h2:cntB l 4<;>cases h3:cntB r 8
 all_goals
  have hm:mayB s l r=_:=(by rw[mayB,h1,h2,h3]:mayB s l r=(_&&(_&&_)))
  have hm':=waa hm;clear hm;go_enter Tryz.func91,Tryz.ntmps91;go_wp2_with (go_at_call 138;refine(qnp _ _ _).mono ?_;rintro e w' ⟨rfl,rfl⟩)
  go_ret;exact⟨qae (by rw[hm'.out];rfl),(wai _ _).alloc (wah _) _⟩
theorem q2f(s l r:Int):mayB s l r=decide (1<=s/\s<=16/\1<=l/\l<=4/\1<=r/\r<=8):=by
 rw[wch,mayB_iff];simp;omega
theorem qh8(s l r:Int)(w:World):Calls Tryz.prog 12 #[.agg #[.int .i64 s,.int .i64 l,.int .i64 r]] w λe w'=>e= .returned (.bool (mayB s l r))/\Below w.heap.size w w':=by
 have hB:=(wai w.heap.size w).alloc (wah _) (.cells #[.int .i64 s,.int .i64 l,.int .i64 r] 36);rw[q2f];generalize hd:decide (1<=s/\s<=16/\1<=l/\l<=4/\1<=r/\r<=8)=d;have hd':=waa hd;clear hd;by_cases h1:1<=s
 ·by_cases h2:s<=16
  ·by_cases h3:1<=l
   ·by_cases h4:l<=4
    ·by_cases h5:1<=r
     ·by_cases h6:r<=8
      all_goals
       go_enter wcm,wcn;go_wp2
       go_ret;exact⟨qae (by rw[<-hd'.out];first|(exact(decide_eq_true Zo).symm)|(exact(decide_eq_false Zo).symm)),hB⟩
     all_goals
      go_enter wcm,wcn;go_wp2
      go_ret;exact⟨qae (by rw[<-hd'.out];exact(decide_eq_false Zo).symm),hB⟩
    all_goals
     go_enter wcm,wcn;go_wp2
     go_ret;exact⟨qae (by rw[<-hd'.out];exact(decide_eq_false Zo).symm),hB⟩
   all_goals
    go_enter wcm,wcn;go_wp2
    go_ret;exact⟨qae (by rw[<-hd'.out];exact(decide_eq_false Zo).symm),hB⟩
  all_goals
   go_enter wcm,wcn;go_wp2
   go_ret;exact⟨qae (by rw[<-hd'.out];exact(decide_eq_false Zo).symm),hB⟩
 all_goals
  go_enter wcm,wcn;go_wp2
  go_ret;exact⟨qae (by rw[<-hd'.out];exact(decide_eq_false Zo).symm),hB⟩
theorem qvf(p e:Int)(w:World)(h0:0<=p*e)(h1:p*e<=2000):
  Calls Tryz.prog 153 #[.int .i64 p,.int .i64 e] w λx w'=>x= .returned (.agg #[.int .i64 p,.int .i64 e,.int .i64 (p*e)])/\Below w.heap.size w w':=by
 go_enter Tryz.func153,Tryz.ntmps153;go_wp2
 exact bodyPost_ret (v:= .agg #[.int .i64 p,.int .i64 e,.int .i64 (p*e)]) (by simp[results,Tryz.results153,go_sem]) rfl ⟨rfl,((wai _ _).alloc (wah _) _)⟩
def layNoL:List Value:=[.int .i64 0,.int .i64 0,.int .i64 0,.int .i64 0,.int .i64 0,.int .i64 0,.int .i64 0,.int .i64 0,.int .i64 0,.int .i64 0,.int .i64 0,.int .i64 0,.int .i64 0,.int .i64 0,.int .i64 0]
def qrr:Value:= .agg layNoL.toArray
theorem qtt(s l r:Int)(w:World)(hm:mayB s l r=false):Calls Tryz.prog 106 #[.agg #[.int .i64 s,.int .i64 l,.int .i64 r]] w λe w'=>e= .returned qrr/\Below w.heap.size w w':=by
 have hm':=waa hm;clear hm;have hmay:∀w,Calls Tryz.prog 91 #[.agg #[.int .i64 s,.int .i64 l,.int .i64 r]] w λe w'=>e= .returned (.bool false)/\Below w.heap.size w w':=λw=>by
  have:=qha s l r w
  rw[hm'.out] at this;exact this
 go_enter Tryz.func106,Tryz.ntmps106;go_wp2_with fail;refine(hmay _).mono ?_;rintro e w1 ⟨rfl,hB⟩;obtain⟨hc,hf⟩:=qfk hB;have hz:w.heap.size+1<w1.heap.size:=by have:=hB.size;simp at this;omega
 go_wp2_with fail;refine bodyPost_ret (v:=qrr) (by simp[results,Tryz.results106,go_sem,qrr,layNoL,hc]) rfl ⟨rfl,?_⟩;iterate 15 refine wca ?_ Zs _
 exact(((wai _ _).alloc (wah _) _).alloc Zs _).trans (hB.mono Zx)
def qdp(s l r:Int):List Value:=[.int .i64 1,.int .i64 8,.int .i64 8,.int .i64 r,.int .i64 1,.int .i64 8,.int .i64 l,.int .i64 40,.int .i64 (l*40),.int .i64 s,.int .i64 8,.int .i64 (s*8),.int .i64 s,.int .i64 64,.int .i64 (s*64)]
def qnk(s l r:Int):Value:= .agg (qdp s l r).toArray
def Alk(W:World)(b:Nat)(p e:Int)(x:Ending)(V:World):Prop:=x= .returned (.agg #[.int .i64 p,.int .i64 e,.int .i64 (p*e)])/\Below (b+1) W V/\V.there (b+1) 0 15
theorem qzq{V:World}{b:Nat}(h:V.there b 0 15):∃u0 u1 u2 u3 u4 u5 u6 u7 u8 u9 u10 u11 u12 u13 u14:Value,V.cell? ⟨b,0,none⟩=some u0/\V.cell? ⟨b,1,none⟩=some u1/\V.cell? ⟨b,2,none⟩=some u2/\V.cell? ⟨b,3,none⟩=some u3/\V.cell? ⟨b,4,none⟩=some u4/\V.cell? ⟨b,5,none⟩=some u5/\V.cell? ⟨b,6,none⟩=some u6/\V.cell? ⟨b,7,none⟩=some u7/\V.cell? ⟨b,8,none⟩=some u8/\V.cell? ⟨b,9,none⟩=some u9/\V.cell? ⟨b,10,none⟩=some u10/\V.cell? ⟨b,11,none⟩=some u11/\V.cell? ⟨b,12,none⟩=some u12/\V.cell? ⟨b,13,none⟩=some u13/\V.cell? ⟨b,14,none⟩=some u14:=by
 have hh:∀j,j<15->∃u,V.cell? ⟨b,j,none⟩=some u:=λj hj=>by
  have:=(h j hj).1
  rw[wav] at this;exact Option.isSome_iff_exists.1 this
 obtain⟨u0,e0⟩:=hh 0 Zo;obtain⟨u1,e1⟩:=hh 1 Zo;obtain⟨u2,e2⟩:=hh 2 Zo;obtain⟨u3,e3⟩:=hh 3 Zo;obtain⟨u4,e4⟩:=hh 4 Zo;obtain⟨u5,e5⟩:=hh 5 Zo;obtain⟨u6,e6⟩:=hh 6 Zo;obtain⟨u7,e7⟩:=hh 7 Zo;obtain⟨u8,e8⟩:=hh 8 Zo;obtain⟨u9,e9⟩:=hh 9 Zo;obtain⟨u10,e10⟩:=hh 10 Zo;obtain⟨u11,e11⟩:=hh 11 Zo;obtain⟨u12,e12⟩:=hh 12 Zo;obtain⟨u13,e13⟩:=hh 13 Zo;obtain⟨u14,e14⟩:=hh 14 Zo;exact⟨u0,u1,u2,u3,u4,u5,u6,u7,u8,u9,u10,u11,u12,u13,u14,e0,e1,e2,e3,e4,e5,e6,e7,e8,e9,e10,e11,e12,e13,e14⟩
theorem qpr(s l r:Int)(w:World)(hm:mayB s l r=true):Calls Tryz.prog 106 #[.agg #[.int .i64 s,.int .i64 l,.int .i64 r]] w λe w'=>e= .returned (qnk s l r)/\Below w.heap.size w w':=by
 obtain⟨⟨s0,s1⟩,⟨l0,l1⟩,r0,r1⟩:=mayB_iff.1 hm;have hm':=waa hm;clear hm;have hmay:∀w,Calls Tryz.prog 91 #[.agg #[.int .i64 s,.int .i64 l,.int .i64 r]] w λe w'=>e= .returned (.bool true)/\Below w.heap.size w w':=λw=>by
  have:=qha s l r w
  rw[hm'.out] at this;exact this
 go_enter Tryz.func106,Tryz.ntmps106;go_wp2_with fail;refine(hmay _).mono ?_;rintro e w1 ⟨rfl,hB⟩;obtain⟨hc,hf⟩:=qfk hB;have hz:w.heap.size+1<w1.heap.size:=by have:=hB.size;simp at this;omega
 go_wp2_with fail;have hx0:w1.drew.cell? ⟨w.heap.size,0,none⟩=some (.int .i64 s):=(hB.cell (p:=⟨w.heap.size,0,none⟩) Zx).trans Zs;have hx1:w1.drew.cell? ⟨w.heap.size,1,none⟩=some (.int .i64 l):=(hB.cell (p:=⟨w.heap.size,1,none⟩) Zx).trans Zs;have hx2:w1.drew.cell? ⟨w.heap.size,2,none⟩=some (.int .i64 r):=(hB.cell (p:=⟨w.heap.size,2,none⟩) Zx).trans Zs;have hx3:w1.drew.there (w.heap.size+1) 0 15:=by
  intro j hj;have h:=qc2 (W:=w.alloc (.cells #[.int .i64 s,.int .i64 l,.int .i64 r] 36)) (H:=w.heap.size+1) Zs #[.int .i64 0,.int .i64 0,.int .i64 0,.int .i64 0,.int .i64 0,.int .i64 0,.int .i64 0,.int .i64 0,.int .i64 0,.int .i64 0,.int .i64 0,.int .i64 0,.int .i64 0,.int .i64 0,.int .i64 0] 200 j hj;exact⟨by rw[show w1.drew.cell? ⟨w.heap.size+1,0+j,none⟩=_ from hB.cell (p:=⟨w.heap.size+1,0+j,none⟩) Zs];exact h.1,by rw[show w1.drew.frozen? ⟨w.heap.size+1,0+j,none⟩=_ from hB.frozen (p:=⟨w.heap.size+1,0+j,none⟩) Zs];exact h.2⟩
 have hal:∀(p e:Int) (V:World),Below (w.heap.size+1) w1.drew V->V.there (w.heap.size+1) 0 15->0<=p*e->p*e<=2000->Calls Tryz.prog 153 #[.int .i64 p,.int .i64 e] V (Alk w1.drew w.heap.size p e):=λp e V hV ht h0 h1=>
  (qvf p e V h0 h1).mono λx V' ⟨hx,hb⟩=>by
   have hs:=qx5 ht Zo;exact⟨hx,hV.trans (hb.mono Zo),qfl hb hs ht⟩
 have hkp:∀V:World,Below (w.heap.size+1) w1.drew V->V.there (w.heap.size+1) 0 15->V.cell? ⟨w.heap.size,0,none⟩=some (.int .i64 s)/\V.cell? ⟨w.heap.size,1,none⟩=some (.int .i64 l)/\V.cell? ⟨w.heap.size,2,none⟩=some (.int .i64 r)/\V.there (w.heap.size+1) 0 15/\Below (w.heap.size+1) w1.drew V:=λV hV ht=>
  ⟨qa8 hV Zo hx0,qa8 hV Zo hx1,qa8 hV Zo hx2,ht,hV⟩
 go_region_held3 (λV=>V.cell? ⟨w.heap.size,0,none⟩=some (.int .i64 s)/\V.cell? ⟨w.heap.size,1,none⟩=some (.int .i64 l)/\V.cell? ⟨w.heap.size,2,none⟩=some (.int .i64 r)/\V.there (w.heap.size+1) 0 15/\Below (w.heap.size+1) w1.drew V)
  (first|with_reducible exact hkp _ (wai _ _) hx3|with_reducible exact hkp _ hyB hy3|(refine hkp _ ?_ ?_;((iterate 15 with_reducible refine wca ?_ Zs _);exact hyB);((iterate 15 with_reducible refine qk6 ?_);exact hy3)))
  (first|(go_at_call 153;go_split_ands;refine(hal _ _ _ Za Za Zo Zo).mono ?_;rintro e w' ⟨rfl,hyB,hy3⟩;obtain⟨u0,u1,u2,u3,u4,u5,u6,u7,u8,u9,u10,u11,u12,u13,u14,hy4⟩:=qzq hy3;have hy5:=λo ho=>qlp hy3 o ho))
 go_wp2_with fail;refine bodyPost_ret (v:=qnk s l r) (by simp[results,Tryz.results106,go_sem,qnk,qdp,hy4]) rfl ⟨rfl,?_⟩;iterate 15 with_reducible refine wca ?_ Zs _
 exact((((wai _ _).alloc (wah _) _).alloc Zs _).trans (hB.mono Zx)).drew.trans (hyB.mono Zo)
def arP(s l r:Int):Nat->Int|0=>1|1=>r|2=>l|3=>s|_=>s
def arE(s l r:Int):Nat->Int|0=>8|1=>1|2=>40|3=>8|_=>64
def arW(s l r:Int):Nat->Int|0=>8|1=>8|2=>l*40|3=>s*8|_=>s*64
def sumW(f:Nat->Int):Nat->Int|0=>0|n+1=>sumW f n+f n
theorem qjn{f:Nat->Int}{n m:Nat}(h:∀j,j<n->0<=f j/\f j<=2000)(hm:m<=n):0<=sumW f m/\sumW f m<=2000*m:=by
 induction m with
 |zero=>exact⟨by show(0:Int)<=0;omega,by show(0:Int)<=2000*0;omega⟩
 |succ m ih=>
  have:=ih Zo
  have h2:=h m Zo;show 0<=sumW f m+f m/\sumW f m+f m<=2000*((m+1:Nat):Int)
  omega
def Areas(w:World)(p:Addr)(n:Nat)(a b c:Nat->Int):Prop:=∀j,j<n->w.cell? (p.add (j*3))=some (.int .i64 (a j))/\w.cell? ⟨(p.add (j*3)).block,(p.add (j*3)).off+1,none⟩=some (.int .i64 (b j))/\w.cell? ⟨(p.add (j*3)).block,(p.add (j*3)).off+2,none⟩=some (.int .i64 (c j))/\0<=c j/\c j<=2000
theorem Areas.below{w w':World}{p:Addr}{n:Nat}{a b c:Nat->Int}(h:Areas w p n a b c)(hB:Below w.heap.size w w'):Areas w' p n a b c:=λj hj=>by
 obtain⟨h0,h1,h2,h3⟩:=h j hj;exact⟨(hB.cell (wal w _ h0)).trans h0,(hB.cell (wal w _ h1)).trans h1,(hB.cell (wal w _ h2)).trans h2,h3⟩
theorem qvv(p:Addr)(n cap:Nat)(a b c:Nat->Int)(w:World)(h:Areas w p n a b c)(hn:n<=5):
  Calls Tryz.prog 107 #[.slice (some p) n cap] w λe w'=>e= .returned (.int .i64 (sumW c n))/\Below w.heap.size w w':=by
 have hbd:=λm (hm:m<=n)=>qjn (λj hj=>(h j hj).2.2.2) hm
 have hz:sumW c 0=0:=rfl;have hz':=waa hz;clear hz;go_enter Tryz.func107,Tryz.ntmps107;go_wp2
 go_loopw [3,8] (λt q wr=>∃(W:World) (j:Nat),W=wr/\t= .int .i64 (sumW c j)/\q= .int .i64 (j:Int)/\j<=n/\Below w.heap.size w W) (λ_ q _=>n - (intOf q).toNat)
 case atStart=>exact⟨w,0,rfl,by rw[hz'.out],rfl,wat _,wai _ _⟩
 case round=>
  obtain⟨W,j,rfl,rfl,rfl,hj,hB⟩:=hrel;by_cases hlt:j<n
  ·obtain⟨h0,h1,h2,h3,h4⟩:=h.below hB j hlt
   obtain⟨b0,b1⟩:=hbd j hj;have hB1:=hB.alloc hB.size (.cells #[.int .i64 (a j),.int .i64 (b j),.int .i64 (c j)] 199);go_wp2
   go_roundw
   case rel=>exact⟨_,j+1,rfl,rfl,by go_num,Zo,hB1⟩
   case measure=>simp[intOf];omega
  ·obtain rfl:j=n:=Zo
   go_wp2
   go_ret;exact⟨rfl,hB⟩
theorem qrp:(Tryz.prog.info? 200).map (·.size)=some 15:=by kernel_rfl
theorem qks{cs:List Value}(h:∀v∈cs,∃x:Int,v= .int .i64 x):cs.toArray.all (·.oneCell')=true:=all_oneCell_toArray λv hv=>by
 obtain⟨x,rfl⟩:=h v hv;rfl
theorem qve:layNoL.toArray.all (·.oneCell')=true:=qks (by simp[layNoL])
theorem qq1(s l r:Int):(qdp s l r).toArray.all (·.oneCell')=true:=qks (by simp[qdp])
theorem qlg{w:World}{b:Nat}{P E W:Nat->Int}{L:List Value}(h:w.rangeAt b 0 L)(hL:∀j,j<5->L[j*3]? =some (.int .i64 (P j))/\L[j*3+1]? =some (.int .i64 (E j))/\L[j*3+2]? =some (.int .i64 (W j))/\0<=W j/\W j<=2000):Areas w ⟨b,0,none⟩ 5 P E W:=by
 intro j hj;obtain⟨a0,a1,a2,a3⟩:=hL j hj;have e:(⟨b,0,none⟩:Addr).add (j*3)=⟨b,j*3,none⟩:=by rw[Addr.add_mid,wav]
 rw[e];exact⟨by have:=h _ _ a0;rwa [wav] at this,by have:=h _ _ a1;rwa [wav] at this,by have:=h _ _ a2;rwa [wav] at this,a3⟩
theorem qmz{w:World}{b j:Nat}{p e c:Int}{L:List Value}{Q:Prop}(h:w.rangeAt b 0 L)(hL:L[j*3]? =some (.int .i64 p)/\L[j*3+1]? =some (.int .i64 e)/\L[j*3+2]? =some (.int .i64 c)/\Q):w.cell? ⟨b,j*3,none⟩=some (.int .i64 p)/\w.cell? ⟨b,j*3+1,none⟩=some (.int .i64 e)/\w.cell? ⟨b,j*3+2,none⟩=some (.int .i64 c):=by
 obtain⟨a0,a1,a2,_⟩:=hL;exact⟨by have:=h _ _ a0;rwa [wav] at this,by have:=h _ _ a1;rwa [wav] at this,by have:=h _ _ a2;rwa [wav] at this⟩
theorem qtg{s l r:Int}(hm:mayB s l r=true):∀j,j<5->(qdp s l r)[j*3]? =some (.int .i64 (arP s l r j))/\(qdp s l r)[j*3+1]? =some (.int .i64 (arE s l r j))/\(qdp s l r)[j*3+2]? =some (.int .i64 (arW s l r j))/\0<=arW s l r j/\arW s l r j<=2000:=by
 obtain⟨⟨s0,s1⟩,⟨l0,l1⟩,r0,r1⟩:=mayB_iff.1 hm;intro j hj;match j,hj with
 |0,_=>exact⟨rfl,rfl,rfl,by simp only[arW];omega,by simp only[arW];omega⟩
 |1,_=>exact⟨rfl,rfl,rfl,by simp only[arW];omega,by simp only[arW];omega⟩
 |2,_=>exact⟨rfl,rfl,rfl,by simp only[arW];omega,by simp only[arW];omega⟩
 |3,_=>exact⟨rfl,rfl,rfl,by simp only[arW];omega,by simp only[arW];omega⟩
 |4,_=>exact⟨rfl,rfl,rfl,by simp only[arW];omega,by simp only[arW];omega⟩
theorem qxl:∀j,j<5->layNoL[j*3]? =some (.int .i64 ((λ_=>0:Nat->Int) j))/\layNoL[j*3+1]? =some (.int .i64 ((λ_=>0:Nat->Int) j))/\layNoL[j*3+2]? =some (.int .i64 ((λ_=>0:Nat->Int) j))/\0<=(λ_=>0:Nat->Int) j/\(λ_=>0:Nat->Int) j<=2000:=by
 intro j hj;match j,hj with
 |0,_=>exact⟨rfl,rfl,rfl,by simp,by simp⟩
 |1,_=>exact⟨rfl,rfl,rfl,by simp,by simp⟩
 |2,_=>exact⟨rfl,rfl,rfl,by simp,by simp⟩
 |3,_=>exact⟨rfl,rfl,rfl,by simp,by simp⟩
 |4,_=>exact⟨rfl,rfl,rfl,by simp,by simp⟩
theorem qc0{ops:Array Oper}{w:World}{Q:Exit->Act->World->Prop}{rest:List Oper}{op:Oper}{a:Act}{L:List Value}(hg:op.guard=none)(x y:Operand)(ho:op.op= .store 200 x y)(b:Nat)(hx:a.eval x= .pointer (some ⟨b,0,none⟩))(hy:a.eval y= .agg L.toArray)(ht:w.there b 0 15)(hl:L.length=15)(h1:L.toArray.all (·.oneCell')=true)(h:wpList Tryz.prog ops Q rest (a.put op.dst undef) (w.setCells b 0 L)):wpList Tryz.prog ops Q (op::rest) a w:=
 wpList_store_mid hg _ x y ho b 0 L.toArray hx hy (by rw[wa8,hl];exact ht) (by rw[wa8,hl];exact qrp) h1 h
def gL(s l r:Int):List Value:=if mayB s l r=true then qdp s l r else layNoL
def gP(s l r:Int)(j:Nat):Int:=if mayB s l r=true then arP s l r j else 0
def gE(s l r:Int)(j:Nat):Int:=if mayB s l r=true then arE s l r j else 0
def gW(s l r:Int)(j:Nat):Int:=if mayB s l r=true then arW s l r j else 0
theorem qfx(s l r:Int):∀j,j<5->(gL s l r)[j*3]? =some (.int .i64 (gP s l r j))/\(gL s l r)[j*3+1]? =some (.int .i64 (gE s l r j))/\(gL s l r)[j*3+2]? =some (.int .i64 (gW s l r j))/\0<=gW s l r j/\gW s l r j<=2000:=by
 intro j hj;unfold gL gP gE gW;by_cases h:mayB s l r=true
 ·simp only[if_pos h];exact qtg h j hj
 ·simp only[if_neg h];exact qxl j hj
theorem qlu(s l r:Int):(gL s l r).toArray.all (·.oneCell')=true:=by
 unfold gL;split
 ·exact qq1 s l r
 ·exact qve
theorem qfr(s l r:Int):(gL s l r).length=15:=by unfold gL;split<;>rfl
theorem qem(s l r:Int)(w:World):Calls Tryz.prog 106 #[.agg #[.int .i64 s,.int .i64 l,.int .i64 r]] w λe w'=>e= .returned (.agg (gL s l r).toArray)/\Below w.heap.size w w':=by
 unfold gL;by_cases h:mayB s l r=true
 ·simp only[if_pos h];exact qpr s l r w h
 ·simp only[if_neg h];exact qtt s l r w (by simpa using h)
def bgN(s l r:Int)(k:Nat)(i:Int):Int:=if 0<=i/\i<gP s l r k then sumW (gW s l r) k+i*gE s l r k else -1
theorem q0z{s l r i:Int}{k:Nat}(hk:k<5)(h0:0<=i)(h1:i<gP s l r k):0<=i*gE s l r k/\i*gE s l r k<=2000:=by
 unfold gP at h1;unfold gE;by_cases hm:mayB s l r=true
 ·obtain⟨⟨s0,s1⟩,⟨l0,l1⟩,r0,r1⟩:=mayB_iff.1 hm
  rw[if_pos hm] at h1;rw[if_pos hm];match k,hk with
  |0,_=>simp only[arP,arE] at*;omega
  |1,_=>simp only[arP,arE] at*;omega
  |2,_=>simp only[arP,arE] at*;omega
  |3,_=>simp only[arP,arE] at*;omega
  |4,_=>simp only[arP,arE] at*;omega
 ·rw[if_neg hm] at h1
  omega
theorem qe8(s l r i:Int)(k:Nat)(w:World)(hk:k<5):Calls Tryz.prog 55 #[.agg #[.int .i64 s,.int .i64 l,.int .i64 r],.int .i64 (k:Int),.int .i64 i] w λe w'=>e= .returned (.int .i64 (bgN s l r k i))/\Below w.heap.size w w':=by
 have k0:(0:Int)<=(k:Int):=Zo
 have k1:(k:Int)<5:=Zo
 by_cases h0:i<0
 ·have hb:bgN s l r k i= -1:=if_neg Zo
  rw[hb];clear hb;go_enter Tryz.func55,Tryz.ntmps55;go_wp2_with fail;refine(qem s l r _).mono ?_;rintro e w1 ⟨rfl,hB⟩;have hB2:=(((wai _ w).alloc (wah _) (.cells #[.int .i64 s,.int .i64 l,.int .i64 r] 36)).trans (hB.mono Zs)).trans ((qe4 (W:=w1) #[.int .i64 0,.int .i64 0,.int .i64 0,.int .i64 0,.int .i64 0,.int .i64 0,.int .i64 0,.int .i64 0,.int .i64 0,.int .i64 0,.int .i64 0,.int .i64 0,.int .i64 0,.int .i64 0,.int .i64 0] 200 (gL s l r)).mono (by have:=hB.size;simp at this;omega));go_wp2_with (first|(refine qc0 rfl _ _ rfl w1.heap.size rfl rfl (qc2 rfl #[.int .i64 0,.int .i64 0,.int .i64 0,.int .i64 0,.int .i64 0,.int .i64 0,.int .i64 0,.int .i64 0,.int .i64 0,.int .i64 0,.int .i64 0,.int .i64 0,.int .i64 0,.int .i64 0,.int .i64 0] _) (qfr s l r) (qlu s l r) ?_;generalize (w1.alloc (.cells #[.int .i64 0,.int .i64 0,.int .i64 0,.int .i64 0,.int .i64 0,.int .i64 0,.int .i64 0,.int .i64 0,.int .i64 0,.int .i64 0,.int .i64 0,.int .i64 0,.int .i64 0,.int .i64 0,.int .i64 0] 200)).setCells w1.heap.size 0 (gL s l r)=W2 at hB2 ⊢))
  go_ret;exact⟨rfl,hB2⟩
 ·by_cases h1:i<gP s l r k
  ·have hb:bgN s l r k i=sumW (gW s l r) k+i*gE s l r k:=if_pos Zo
   rw[hb];clear hb;have hs:=qjn (f:=gW s l r) (n:=5) (λj hj=>(qfx s l r j hj).2.2.2) (Nat.le_of_lt hk);obtain⟨hp0,hp1⟩:=q0z hk Zo h1;obtain⟨hs0,hs1⟩:=hs;have q1:IntKind.i64.wrap (i*gE s l r k)=i*gE s l r k:=wap _ Zo;have q2:IntKind.i64.wrap (sumW (gW s l r) k+i*gE s l r k)=sumW (gW s l r) k+i*gE s l r k:=wap _ Zo;have q1':=waa q1;have q2':=waa q2;clear q1 q2;go_enter Tryz.func55,Tryz.ntmps55;go_wp2_with fail;refine(qem s l r _).mono ?_;rintro e w1 ⟨rfl,hB⟩;have hB2:=(((wai _ w).alloc (wah _) (.cells #[.int .i64 s,.int .i64 l,.int .i64 r] 36)).trans (hB.mono Zs)).trans ((qe4 (W:=w1) #[.int .i64 0,.int .i64 0,.int .i64 0,.int .i64 0,.int .i64 0,.int .i64 0,.int .i64 0,.int .i64 0,.int .i64 0,.int .i64 0,.int .i64 0,.int .i64 0,.int .i64 0,.int .i64 0,.int .i64 0] 200 (gL s l r)).mono (by have:=hB.size;simp at this;omega));have hr2:=qgx (W:=w1) (C:=#[.int .i64 0,.int .i64 0,.int .i64 0,.int .i64 0,.int .i64 0,.int .i64 0,.int .i64 0,.int .i64 0,.int .i64 0,.int .i64 0,.int .i64 0,.int .i64 0,.int .i64 0,.int .i64 0,.int .i64 0]) (t:=200) (vs:=gL s l r) (qfr s l r);go_wp2_with (first|(refine qc0 rfl _ _ rfl w1.heap.size rfl rfl (qc2 rfl #[.int .i64 0,.int .i64 0,.int .i64 0,.int .i64 0,.int .i64 0,.int .i64 0,.int .i64 0,.int .i64 0,.int .i64 0,.int .i64 0,.int .i64 0,.int .i64 0,.int .i64 0,.int .i64 0,.int .i64 0] _) (qfr s l r) (qlu s l r) ?_;generalize (w1.alloc (.cells #[.int .i64 0,.int .i64 0,.int .i64 0,.int .i64 0,.int .i64 0,.int .i64 0,.int .i64 0,.int .i64 0,.int .i64 0,.int .i64 0,.int .i64 0,.int .i64 0,.int .i64 0,.int .i64 0,.int .i64 0] 200)).setCells w1.heap.size 0 (gL s l r)=W2 at hB2 hr2 ⊢;have hA:=qlg hr2 (qfx s l r);obtain⟨c0,c1,c2⟩:=qmz hr2 (qfx s l r k hk)))
   have hx:=show W2.drew.cell? ⟨w1.heap.size,k*3+1,none⟩=_ from c1
   have htot:∀V,Below W2.heap.size W2.drew V->Calls Tryz.prog 107 #[.slice (some ⟨w1.heap.size,0,none⟩) k 5] V λe V'=>e= .returned (.int .i64 (sumW (gW s l r) k))/\Below W2.heap.size W2.drew V':=λV hV=>
    (qvv ⟨w1.heap.size,0,none⟩ k 5 _ _ _ V (λj hj=>Areas.below (w:=W2.drew) hA hV j Zo) Zo).mono λe V' ⟨he,hb⟩=>⟨he,hV.trans (hb.mono hV.size)⟩
   have k2:(k:Int)<=5:=Zo
   have k3:k<=5:=Zo
   have q1:=q1'.out;have q2:=q2'.out;go_region_held3 (λV=>V.cell? ⟨w1.heap.size,k*3+1,none⟩=some (.int .i64 (gE s l r k))/\Below W2.heap.size W2.drew V)
    (first|with_reducible exact⟨hx,wai _ _⟩|with_reducible exact⟨hy,hyB⟩)
    (first|(go_at_call 107;go_split_ands;refine(htot _ Za).mono ?_;rintro e w' ⟨rfl,hyB⟩;have hy:=(hyB.cell (wal _ _ hx)).trans hx))
   clear q1 q2;go_wp2_with fail;go_ret;exact⟨rfl,hB2.drew.trans (hyB.mono hB2.size)⟩
  ·have hb:bgN s l r k i= -1:=if_neg Zo
   rw[hb];clear hb;go_enter Tryz.func55,Tryz.ntmps55;go_wp2_with fail;refine(qem s l r _).mono ?_;rintro e w1 ⟨rfl,hB⟩;have hB2:=(((wai _ w).alloc (wah _) (.cells #[.int .i64 s,.int .i64 l,.int .i64 r] 36)).trans (hB.mono Zs)).trans ((qe4 (W:=w1) #[.int .i64 0,.int .i64 0,.int .i64 0,.int .i64 0,.int .i64 0,.int .i64 0,.int .i64 0,.int .i64 0,.int .i64 0,.int .i64 0,.int .i64 0,.int .i64 0,.int .i64 0,.int .i64 0,.int .i64 0] 200 (gL s l r)).mono (by have:=hB.size;simp at this;omega));have hr2:=qgx (W:=w1) (C:=#[.int .i64 0,.int .i64 0,.int .i64 0,.int .i64 0,.int .i64 0,.int .i64 0,.int .i64 0,.int .i64 0,.int .i64 0,.int .i64 0,.int .i64 0,.int .i64 0,.int .i64 0,.int .i64 0,.int .i64 0]) (t:=200) (vs:=gL s l r) (qfr s l r);go_wp2_with (first|(refine qc0 rfl _ _ rfl w1.heap.size rfl rfl (qc2 rfl #[.int .i64 0,.int .i64 0,.int .i64 0,.int .i64 0,.int .i64 0,.int .i64 0,.int .i64 0,.int .i64 0,.int .i64 0,.int .i64 0,.int .i64 0,.int .i64 0,.int .i64 0,.int .i64 0,.int .i64 0] _) (qfr s l r) (qlu s l r) ?_;generalize (w1.alloc (.cells #[.int .i64 0,.int .i64 0,.int .i64 0,.int .i64 0,.int .i64 0,.int .i64 0,.int .i64 0,.int .i64 0,.int .i64 0,.int .i64 0,.int .i64 0,.int .i64 0,.int .i64 0,.int .i64 0,.int .i64 0] 200)).setCells w1.heap.size 0 (gL s l r)=W2 at hB2 hr2 ⊢;have hA:=qlg hr2 (qfx s l r);obtain⟨c0,c1,c2⟩:=qmz hr2 (qfx s l r k hk)))
   go_ret;exact⟨rfl,hB2⟩
end Go.Proofs.YtgjhkafggagniaaGreat
