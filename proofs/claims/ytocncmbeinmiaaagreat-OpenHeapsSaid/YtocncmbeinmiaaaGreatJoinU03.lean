/- Parts. No condition. -/
import Derived.Deep.RegionHeld3
import Derived.IntWalk
import Derived.Test.YtocncmbeinmiaaaGreatJoinU02
set_option linter.unusedVariables false
set_option maxRecDepth 100000
set_option maxHeartbeats 8000000
namespace Go.Proofs.YtocncmbeinmiaaaGreat
open Go Go.RowKit
def En(V:World)(b:Nat)(a:Int)(x:Nat):Prop:=V.heap[b]? =some (.cells #[.int .i64 a,.int .u64 (x:Int)] 152 (0,0))
theorem En.below{V V':World}{b B:Nat}{a:Int}{x:Nat}(h:En V b a x)(hb:Below B V V')(hB:b<B):En V' b a x:=(hb.block b hB).trans h
theorem En.lt{V:World}{b:Nat}{a:Int}{x:Nat}(h:En V b a x):b<V.heap.size:=(wal.1 h).1
theorem En.cells{V:World}{b:Nat}{a:Int}{x:Nat}(h:En V b a x):V.cell? ⟨b,0,none⟩=some (.int .i64 a)/\V.cell? ⟨b,1,none⟩=some (.int .u64 (x:Int))/\(∀o,V.frozen? ⟨b,o,none⟩=false):=
 ⟨by rw[qaa h];rfl,by rw[qaa h];rfl,λo=>qaj h o⟩
theorem En.new(W:World)(a:Int)(x:Nat):En (W.alloc (.cells #[.int .i64 a,.int .u64 (x:Int)] 152)) W.heap.size a x:=World.alloc_heap_new W _
theorem En.drew{V:World}{b:Nat}{a:Int}{x:Nat}(h:En V b a x):En V.drew b a x:=h
theorem qyy(w:World)(a:Int)(x:Nat):Below w.heap.size w (w.alloc (.cells #[.int .i64 a,.int .u64 (x:Int)] 152)):=(wac _ w).alloc (wab _) _
def EsRd(w:World)(A:Option Addr)(n:Nat)(l:List (Int×Nat)):Prop:=
 l.length=n/\(0<n->∃p,A=some p/\∀j e,l[j]? =some e->w.cell? (p.add (j*2))=some (.int .i64 e.1)/\w.cell? ⟨(p.add (j*2)).block,(p.add (j*2)).off+1,none⟩=some (.int .u64 (e.2:Int)))
theorem EsRd.below{w w':World}{A:Option Addr}{n:Nat}{l:List (Int×Nat)}(h:EsRd w A n l)(hB:Below w.heap.size w w'):EsRd w' A n l:=
 ⟨h.1,λhn=>by
  obtain⟨p,e,hp⟩:=h.2 hn;refine⟨p,e,λj x hx=>?_⟩;obtain⟨h0,h1⟩:=hp j x hx;exact⟨(hB.cell (wak w _ h0)).trans h0,(hB.cell (wak w _ h1)).trans h1⟩⟩
theorem EsRd.at_{w:World}{A:Option Addr}{n k:Nat}{l:List (Int×Nat)}(h:EsRd w A n l)(hk:k<n):∃p a x,A=some p/\l.drop k=(a,x)::l.drop (k+1)/\(a,x)∈l/\w.cell? (p.add (k*2))=some (.int .i64 a)/\w.cell? ⟨(p.add (k*2)).block,(p.add (k*2)).off+1,none⟩=some (.int .u64 (x:Int)):=by
 obtain⟨p,e,hp⟩:=h.2 Zo;have hl:k<l.length:=by rw[h.1];exact hk
 obtain⟨h0,h1⟩:=hp k l[k] (waj hl);exact⟨p,l[k].1,l[k].2,e,wbc hl,wb6 hl,h0,h1⟩
def eV(l:List (Int×Nat)):List Value:=l.flatMap (λe=>[.int .i64 e.1,.int .u64 (e.2:Int)])
theorem qacd(l:List (Int×Nat)):(eV l).length=l.length*2:=by
 induction l with
 |nil=>rfl
 |cons e r ih=>
  show(Value.int .i64 e.1::Value.int .u64 (e.2:Int)::eV r).length=_
  simp only[way,ih];omega
theorem qn8(l:List (Int×Nat))(a:Int)(x:Nat):eV (l++[(a,x)])=eV l++[.int .i64 a,.int .u64 (x:Int)]:=by simp[eV]
theorem qacx{l:List (Int×Nat)}{j:Nat}{e:Int×Nat}(h:l[j]? =some e):(eV l)[j*2]? =some (.int .i64 e.1)/\(eV l)[j*2+1]? =some (.int .u64 (e.2:Int)):=by
 induction l generalizing j with
 |nil=>simp at h
 |cons f r ih=>
  cases j with
  |zero=>
   obtain rfl:f=e:=by simpa using h
   exact⟨rfl,rfl⟩
  |succ k=>
   have:=ih (j:=k) (by simpa using h)
   rw[show(k+1)*2=k*2+1+1 by omega];exact this
theorem EsRd.of_own{w:World}{base n:Nat}{v:Value}{l:List (Int×Nat)}(h:w.ownsRow base 152 2 v n (eV l)):∃A cap,v= .slice A n cap/\EsRd w A n l:=by
 have hl:l.length=n:=by have:=h.1;rw[qacd] at this;omega
 rcases h.2 with ⟨rfl,h0⟩|⟨g,cap,cur,rfl,hb,hg,hn,hc,hs,ht⟩
 ·subst h0
  exact⟨none,0,rfl,hl,λh=>absurd h Zo⟩
 ·refine⟨_,_,rfl,hl,λ_=>⟨_,rfl,λj e he=>?_⟩⟩
  obtain⟨h0,h1⟩:=qacx he;have hj:j<n:=by rw[<-hl];exact(wan.1 he).1
  have ha:∀i,i<n*2->cur[i]? =(eV l)[i]?:=λi hi=>by
   rw[<-ht,wbh,if_pos hi,wb9]
  have e0:(⟨g,0,none⟩:Addr).add (j*2)=⟨g,j*2,none⟩:=by unfold Addr.add;split<;>simp_all
  rw[e0];exact⟨by rw[qaa hg,ha (j*2) Zo];exact h0,by rw[qaa hg,ha (j*2+1) Zo];exact h1⟩
theorem qi5:(Tryz.prog.info? 152).map (λi=>(i.zero,i.size,i.bytes))=some (some (.agg #[.int .i64 0,.int .u64 0]),2,16):=by kernel_rfl
theorem q8i{a b:Nat}(ha:a<4294967296)(hb:b<4294967296):qda 0 0 [32,32] [a,b]=some (a+4294967296*b):=by
 have e1:=qbw (x:=0) (a:=0) (ws:=[32]) (vs:=[b]) (k:=32) (qb7 Zo Zo) (show a<2 ^ 32 from ha);rw[qcv Zo Zo ha] at e1;have e2:=qbw (x:=0+a*2 ^ 0) (a:=0+32) (ws:=[]) (vs:=[]) (k:=32) (qb7 Zo Zo) (show b<2 ^ 32 from hb);rw[qcv Zo Zo hb] at e2;refine e1.trans (e2.trans ?_);show some _=some _
 congr 1
 omega
theorem qabm:endL 0 [32,32]=some 64:=by decide
theorem q2y{x:Nat}(h:x<18446744073709551616):qdg x [32,32]=some [x%4294967296,x/4294967296]:=by
 rw[qff qabm (wgx h)];have:x/4294967296<4294967296:=Zo
 simp[qd4,getN,Nat.mod_eq_of_lt this]
theorem qlm(w:World):Calls Tryz.prog 379 #[] w λe w'=>e= .returned (.slice (some ⟨w.heap.size,0,none⟩) 2 2)/\w.alloc (.cells #[.int .i64 32,.int .i64 32] 3)=w':=by
 go_enter Tryz.func379,Tryz.ntmps379;go_wp2
 go_ret;exact⟨rfl,rfl⟩
theorem qxo(a:Int)(x:Nat)(w:World):Calls Tryz.prog 412 #[.agg #[.int .i64 a,.int .u64 (x:Int)]] w λe w'=>e= .returned (.bool (entB (a,x)))/\Below w.heap.size w w':=by
 have hB:=qyy w a x;have hb:entB (a,x)=(decide (0<=a)&&decide (a<16384)):=by
  rw[wb8,entB_iff];simp only[wce,decide_eq_true_eq];omega
 rw[hb];by_cases h0:0<=a
 ·go_enter Tryz.func412,Tryz.ntmps412
  go_wp2
  go_ret;exact⟨qab (by simp[h0]),hB⟩
 ·go_enter Tryz.func412,Tryz.ntmps412
  go_wp2
  go_ret;exact⟨qab (by rw[decide_eq_false (p:=0<=a) Zo];rfl),hB⟩
theorem qso(A:Option Addr)(cap:Nat)(l:List (Int×Nat))(w:World)(h:EsRd w A l.length l)(hm:l.length<=9223372036854775807):
  Calls Tryz.prog 380 #[.slice A l.length cap] w λe w'=>e= .returned (.bool (logB l))/\Below w.heap.size w w':=by
 by_cases h1:l.length<1
 ·have hl:logB l=false:=by unfold logB;rw[decide_eq_false Zo];rfl
  rw[hl];clear hl;go_enter Tryz.func380,Tryz.ntmps380;go_wp2
  go_ret;exact⟨rfl,wac _ _⟩
 by_cases h2:16<l.length
 ·have hl:logB l=false:=by unfold logB;rw[decide_eq_false (p:=l.length<=16) Zo,wev];rfl
  rw[hl];clear hl;go_enter Tryz.func380,Tryz.ntmps380;go_wp2
  go_ret;exact⟨rfl,wac _ _⟩
 have hl:logB l=l.all entB:=by unfold logB;rw[decide_eq_true Zo,decide_eq_true Zo];rfl
 rw[hl];generalize hv:l.all entB=b;have hv':=waa hv;clear hv hl;go_enter Tryz.func380,Tryz.ntmps380;go_wp2
 go_loopw [15] (λk wr=>∃(W:World) (j:Nat),W=wr/\k= .int .i64 (j:Int)/\j<=l.length/\Hid ((l.drop j).all entB=b)/\Below w.heap.size w W) (λk _=>l.length - (intOf k).toNat)
 case atStart=>exact⟨_,0,rfl,rfl,wau _,hv',wac _ _⟩
 case round=>
  obtain⟨W,j,rfl,rfl,hj,hr,hB⟩:=hrel;by_cases hlt:j<l.length
  ·obtain⟨p,a,x,rfl,hd,-,c0,c1⟩:=(h.below hB).at_ hlt
   rw[hd,wdc] at hr;clear hd;have hB1:=hB.alloc hB.size (.cells #[.int .i64 a,.int .u64 (x:Int)] 152);have hi:=λV=>qxo a x V
   cases hx:entB (a,x) with
   |true=>
    rw[hx] at hi hr;have hr':Hid ((l.drop (j+1)).all entB=b):=waa (by simpa using hr.out);have hi':=waa hi;clear hi hr hx;go_wp2_with fail;refine(hi'.out _).mono ?_;rintro e w1 ⟨rfl,hC⟩;have hB2:=hB1.trans (hC.mono hB1.size);go_wp2_with fail;go_roundw
    case rel=>exact⟨_,j+1,rfl,by go_num,Zo,hr',hB2⟩
    case measure=>simp[intOf];omega
   |false=>
    rw[hx] at hi hr;have hr':Hid (b=false):=waa (by simpa using hr.out.symm);have hi':=waa hi;clear hi hr hx;go_wp2_with fail;refine(hi'.out _).mono ?_;rintro e w1 ⟨rfl,hC⟩;have hB2:=hB1.trans (hC.mono hB1.size);go_wp2_with fail;go_ret;exact⟨qab hr'.out.symm,hB2⟩
  ·have hr':Hid (b=true):=waa (by rw[<-hr.out,wbn Zo];rfl)
   clear hr;go_wp2_with fail;go_ret;exact⟨qab hr'.out.symm,hB⟩
structure Upd (F:Nat->Prop) (w w':World):Prop where
 os:w'.os=w.os
 tape:w'.tape=w.tape
 output:w'.output=w.output
 size:w.heap.size<=w'.heap.size
 block:∀k,k<w.heap.size->¬F k->w'.heap[k]? =w.heap[k]?
section
variable {F G:Nat->Prop} {a w w':World}
theorem Upd.refl(F:Nat->Prop)(w:World):Upd F w w:=⟨rfl,rfl,rfl,wab _,λ_ _ _=>rfl⟩
theorem Upd.trans{b c:World}(h:Upd F a b)(k:Upd F b c):Upd F a c:=
 ⟨k.os.trans h.os,k.tape.trans h.tape,k.output.trans h.output,wap h.size k.size,λi hi hn=>(k.block i (waw hi h.size) hn).trans (h.block i hi hn)⟩
theorem Upd.mono(h:Upd F w w')(hG:∀k,F k->G k):Upd G w w':=⟨h.os,h.tape,h.output,h.size,λk hk hn=>h.block k hk (λhf=>hn (hG k hf))⟩
theorem Upd.of_below{B:Nat}(h:Below B w w')(hB:w.heap.size<=B):Upd F w w':=⟨h.os,h.tape,h.output,h.size,λk hk _=>h.block k (waw hk hB)⟩
theorem Upd.below{B:Nat}(h:Upd F w w')(hF:∀k,F k->B<=k)(hB:B<=w.heap.size):Below B w w':=⟨h.os,h.tape,h.output,h.size,λk hk=>h.block k Zo (λhf=>by have:=hF k hf;omega)⟩
theorem Upd.drew(h:Upd F a w):Upd F a w.drew:=⟨h.os,h.tape,h.output,h.size,h.block⟩
theorem Upd.drewN(h:Upd F a w)(t:Nat):Upd F a (w.drewN t):=⟨h.os,h.tape,h.output,h.size,h.block⟩
theorem Upd.alloc(h:Upd F a w)(o:Obj):Upd F a (w.alloc o):=h.trans (.of_below ((wac _ w).alloc (wab _) o) (wab _))
theorem Upd.setCell(h:Upd F a w){p:Addr}(hp:F p.block\/a.heap.size<=p.block)(u:Value):Upd F a (w.setCell p u):=
 ⟨h.os,h.tape,h.output,by simp[World.setCell];exact h.size,λk hk hn=>(wat _ _ _ _ (λe=>by rcases hp with hp|hp;exact hn (e▸hp);omega)).trans (h.block k hk hn)⟩
theorem Upd.grown{row:Option Nat}(h:Upd F a w)(hg:w.grownBy w' row)(hr:∀k,row=some k->F k\/a.heap.size<=k):Upd F a w':=
 ⟨hg.os.trans h.os,hg.tape.trans h.tape,hg.output.trans h.output,wap h.size hg.size,λk hk hn=>(hg.block k (waw hk h.size) (λe=>by rcases hr k e.symm with hf|hf;exact hn hf;omega)).trans (h.block k hk hn)⟩
theorem Upd.cell(h:Upd F w w'){p:Addr}(hp:p.block<w.heap.size)(hF:¬F p.block):w'.cell? p=w.cell? p:=wdl (w:=w) (h.block p.block hp hF)
theorem Upd.after{F G:Nat->Prop}{a b c:World}(h:Upd F a b)(k:Upd G b c)(hG:∀j,G j->F j\/a.heap.size<=j):Upd F a c:=
 ⟨k.os.trans h.os,k.tape.trans h.tape,k.output.trans h.output,wap h.size k.size,λi hi hn=>(k.block i (waw hi h.size) (λe=>by rcases hG i e with f|f;exact hn f;omega)).trans (h.block i hi hn)⟩
end
theorem q88{w w':World}{base g n cap size:Nat}{e:TypeId}{xs:List Value}(h:w.ownsRow base e size (.slice (some ⟨g,0,none⟩) n cap) n xs)(hb:w'.heap[g]? =w.heap[g]?):w'.ownsRow base e size (.slice (some ⟨g,0,none⟩) n cap) n xs:=by
 obtain⟨e1,e2⟩:=h;refine⟨e1,?_⟩;rcases e2 with ⟨e2,e3⟩|⟨g',cap',cur,a1,a2,a3,a4⟩
 ·cases e2
 ·have a1':=a1
  injection a1' with eg;injection eg with eg;injection eg with eg;exact .inr ⟨g',cap',cur,a1,a2,by rw[<-eg,hb,eg];exact a3,a4⟩
def q9q(L:List Int)(n:Nat)(k who:Int):Int:=if k<0\/(n:Int)<=k\/who<0 then 1 else if 0<=L[k.toNat]?.getD 0 then 5 else 0
def qacu(L:List Int)(n:Nat)(k who:Int):List Int:=if q9q L n k who=0 then L.set k.toNat who else L
def qab3(L:List Int)(n:Nat)(k who:Int):Int:=if k<0\/(n:Int)<=k\/who<0 then 1 else if L[k.toNat]?.getD 0=who then 0 else 6
def qab6(L:List Int)(n:Nat)(k who:Int):List Int:=if qab3 L n k who=0 then L.set k.toNat (-1) else L
def tbF(p g:Nat)(k:Nat):Prop:=k=p\/k=g
section
variable {w w':World} {p g n:Nat} {L:List Int}
theorem q9k(L:List Int)(k:Nat)(x:Int):(i64V L).set k (.int .i64 x)=i64V (L.set k x):=by simp[i64V,List.map_set]
end
theorem q5d:(Tryz.prog.info? 3).map (λi=>(i.zero,i.size,i.bytes))=some (some (.int .i64 0),1,8):=by kernel_rfl
theorem q3v(t:Nat):madeCells #[Value.int .i64 0] t=(i64V (List.replicate t 0)).toArray:=by
 apply Array.ext'
 apply wa3
 intro j;by_cases hj:j<t
 ·simp[madeCells,i64V,hj,Nat.mod_one]
 ·simp[madeCells,i64V,hj]
theorem qoy(t:Nat)(ht:t<=2000)(w:World):(Instr.makeSlice 65 (.int .i64 (t:Int)) (.int .i64 (t:Int))).run Tryz.prog w= .ok (.slice (some ⟨w.heap.size,0,none⟩) t t) (w.alloc (.cells (i64V (List.replicate t 0)).toArray 3)):=by
 obtain⟨i,hi,hz,hs,hb⟩:=info_parts q5d;have h:=run_makeSlice (P:=Tryz.prog) w 65 3 i _ wbs hi hz .i64 .i64 (t:Int) (t:Int) Zo (wen _) (by rw[hs,wam];omega) (by rw[hb];omega) Zo;rw[hs,wam,wb7] at h;rw[h,<-q3v];rfl
theorem q6f{w:World}{t:Nat}(ht:t<=2000){g:Nat}(h:w.heap[g]? =some (.cells (i64V (List.replicate t 0)).toArray 3 (0,0))):w.ownsRow 0 3 1 (.slice (some ⟨g,0,none⟩) t t) t (i64V (List.replicate t 0)):=
 ⟨by simp[i64V],.inr ⟨g,t,_,rfl,wau _,h,wab _,by unfold maxLen;omega,by simp[i64V],by simp[i64V]⟩⟩
theorem q8j(l:List Nat)(a b:Nat):u64V (l++[a,b])=u64V l++[.int .u64 (a:Int),.int .u64 (b:Int)]:=by simp[u64V]
theorem qkd(A:Option Addr)(cap:Nat)(l:List (Int×Nat))(w:World)(h:EsRd w A l.length l)(hlog:logB l=true)(hx:∀e∈l,e.2<18446744073709551616):
  Calls Tryz.prog 381 #[.slice A l.length cap] w λe w'=>∃v,e= .returned v/\w'.ownsRow w.heap.size 27 1 v (2*l.length) (u64V (qbe 0 l))/\Below w.heap.size w w':=by
 obtain⟨h1,h2,h3⟩:=logB_iff.1 hlog;have hall:=waa h3;have hx':=waa hx;clear h3 hlog hx;obtain⟨i0,ii,iz0,iz1,iz2⟩:=info_parts qcg;go_enter Tryz.func381,Tryz.ntmps381;go_wp2_with fail;go_loopw [3,10] (λv k wr=>∃(W:World) (j:Nat) (out:List Nat),W=wr/\k= .int .i64 (j:Int)/\j<=l.length/\Hid (out++qbe j (l.drop j)=qbe 0 l)/\W.ownsRow w.heap.size 27 1 v (2*j) (u64V out)/\Below w.heap.size w W) (λ_ k _=>l.length - (intOf k).toNat)
 case atStart=>exact⟨_,0,[],rfl,rfl,wau _,waa rfl,wa9 _ _ _ _,wac _ _⟩
 case round=>
  obtain⟨W,j,out,rfl,rfl,hj,ho,hrow,hB⟩:=hrel;by_cases hlt:j<l.length
  ·obtain⟨p,a,x,rfl,hd,hmem,c0,c1⟩:=(h.below hB).at_ hlt
   have hab:=entB_iff.1 (wcp.1 hall.out _ hmem);have hxb:x<18446744073709551616:=hx'.out _ hmem;obtain⟨a0,a1⟩:0<=a/\a<=16383:=hab;obtain⟨n,rfl⟩:=waz a0;have ho2:Hid ((out++[n+4294967296*j,x])++qbe (j+1) (l.drop (j+1))=qbe 0 l):=waa (by have:=qzh ho.out hd rfl;simpa using this);have hj2:=q8i (a:=n) (b:=j) Zo Zo;have hjn:∀(A0 A1:Option Addr) (V:World),Rd V A0 2 (i64V [32,32])->Rd V A1 2 (u64V [n,j])->Calls Tryz.prog 178 #[.slice A0 2 2,.slice A1 2 2] V λe w'=>e= .returned (.tuple #[.int .u64 ((n+4294967296*j:Nat):Int),.bool true])/\Below V.heap.size V w':=λA0 A1 V g0 g1=>by
    have h:=qiq A0 A1 2 2 [32,32] [n,j] V g0 g1 Zd Zs Zd (by intro x hx;simp at hx;omega);rw[hj2] at h;exact h
   have hjn':=waa hjn;have k0:IntKind.u64.wrap (n:Int)=(n:Int):=by rw[wa5];omega
   have k1:IntKind.u64.wrap (j:Int)=(j:Int):=by rw[wa5];omega
   clear hd ho hjn hj2 hmem;generalize n+4294967296*j=y at ho2 hjn' ⊢;have hB1:=hB.alloc hB.size (.cells #[.int .i64 (n:Int),.int .u64 (x:Int)] 152);have hg:=En.new W (n:Int) x;have ho1:=hrow.alloc (.cells #[.int .i64 (n:Int),.int .u64 (x:Int)] 152);go_wp2_with fail;generalize (W.alloc (.cells #[.int .i64 (n:Int),.int .u64 (x:Int)] 152))=W1 at hB1 hg ho1 ⊢;obtain⟨x0,x1,x2⟩:=hg.drew.cells;have hl1:=hg.lt;obtain⟨d0,d1,d2⟩:=hg.cells;go_region_held3 (λV=>V.cell? ⟨W.heap.size,0,none⟩=some (.int .i64 (n:Int)))
    (first|with_reducible exact x0|go_keep|with_reducible exact y0)
    (first
     |(go_at_call 379;refine(qlm _).mono ?_;rintro e w' ⟨rfl,rfl⟩)
     |(go_at_call 178
       first
        |refine(hjn'.out _ _ _ (qch (qd0 (qbv Zr Zr Zs) _)) (qch (qbv Zr Zr Zs))).mono ?_
        |refine(hjn'.out _ _ _ (qch (qbv Zr Zr Zs)) (qch (qd0 (qbv Zr Zr Zs) _))).mono ?_
       rintro e w3 ⟨rfl,hC⟩;have hBx:=(((wac W1.heap.size W1).alloc Zs _).alloc Zs _).drew.trans (hC.mono (by simp<;>omega));have hg3:=hg.below hBx hg.lt;obtain⟨y0,y1,y2⟩:=hg3.cells;have hB3:=hB1.trans (hBx.mono hB1.size);have ho3:=qaf ho1 hBx))
   all_goals
    have hs3:=hB3.size;go_wp2_with (at_builtin;go_loud (refine wpList_append_own _ rfl _ _ 40 rfl w.heap.size 27 i0 (.int .u64 0) 1 8 wbi ii iz0 iz1 iz2 rfl Zd _ _ _ rfl (ho3.alloc _) ⟨w3.heap.size,0,none⟩ 2 2 [.int .u64 (y:Int),.int .u64 (x:Int)] rfl rfl (qb3 rfl _ rfl _) (by simp[Value.oneCell']) (by simp only[maxLen];omega) Zo Zx ?_);intro v' w4 hown' hgrow _;have hB4:=((hB3.alloc hs3 (.cells #[.int .u64 (y:Int),.int .u64 (x:Int)] 27)).grown hgrow Zx (qa0 ho3)))
    go_roundw
    case rel=>exact⟨_,j+1,_,rfl,by go_num,Zo,ho2,by rw[q8j];exact hown',hB4⟩
    case measure=>simp[intOf];omega
  ·obtain rfl:j=l.length:=Zo
   have ho2:Hid (out=qbe 0 l):=waa (by have:=ho.out;rw[List.drop_length,qbe,wbl] at this;exact this);clear ho;go_wp2_with fail;go_ret;exact⟨_,rfl,by rw[<-ho2.out];exact hrow,hB⟩
theorem qmf{l:List (Int×Nat)}(h:logB l=true):logW l=qbe 0 l:=if_pos h
theorem qww{l:List (Int×Nat)}(h:logB l=false):logW l=[]:=if_neg (by rw[h];decide)
theorem qph{l:List (Int×Nat)}(h:logB l=true):qiz l=qbo (qbe 0 l):=if_pos h
theorem qr8{l:List (Int×Nat)}(h:logB l=false):qiz l=0:=if_neg (by rw[h];decide)
theorem qm7(A:Option Addr)(cap:Nat)(l:List (Int×Nat))(w:World)(h:EsRd w A l.length l)(hm:l.length<=9223372036854775807)(hx:∀e∈l,e.2<18446744073709551616):
  Calls Tryz.prog 339 #[.slice A l.length cap] w λe w'=>∃v,e= .returned v/\w'.ownsRow w.heap.size 27 1 v (logW l).length (u64V (logW l))/\Below w.heap.size w w':=by
 have hmay:=qso A cap l w h hm;cases hb:logB l with
 |true=>
  rw[hb] at hmay;rw[qmf hb,qgu];have hmay':=waa hmay;have ht:=waa (λ(V:World) (hV:Below w.heap.size w V)=>qkd A cap l V (h.below hV) hb hx);clear hmay hb hx;go_enter Tryz.func339,Tryz.ntmps339;go_wp2_with fail;refine hmay'.out.mono ?_;rintro e w1 ⟨rfl,hB⟩;go_wp2_with fail;refine(ht.out w1 hB).mono ?_;rintro e w2 ⟨v,rfl,hrow,hC⟩;go_wp2_with fail;go_ret;exact⟨v,rfl,qax hrow hB.size,hB.trans (hC.mono hB.size)⟩
 |false=>
  rw[hb] at hmay;rw[qww hb];have hmay':=waa hmay;clear hmay hb hx;go_enter Tryz.func339,Tryz.ntmps339;go_wp2_with fail;refine hmay'.out.mono ?_;rintro e w1 ⟨rfl,hB⟩;go_wp2_with fail;go_ret;exact⟨_,rfl,wa9 _ _ _ _,hB⟩
theorem qxi{A:Option Addr}{c n:Nat}{l:List Nat}{w:World}(hr:Rd w A n (u64V l))(hn:Keep (l.length=n))(hm:n<=300)(hl:Keep (∀b∈l,b<18446744073709551616)):
  Calls Tryz.prog 172 #[.slice A n c] w λe w'=>e= .returned (.int .u64 (qbo l:Nat))/\w=w':=by
 have e1:=hn.out;subst e1;exact qn0 A c l w hr Zo hl.out
theorem q4a(A:Option Addr)(cap:Nat)(l:List (Int×Nat))(w:World)(h:EsRd w A l.length l)(hm:l.length<=9223372036854775807)(hx:∀e∈l,e.2<18446744073709551616):
  Calls Tryz.prog 340 #[.slice A l.length cap] w λe w'=>e= .returned (.int .u64 ((qiz l:Nat):Int))/\Below w.heap.size w w':=by
 have hmay:=qso A cap l w h hm;cases hb:logB l with
 |true=>
  rw[hb] at hmay;rw[qph hb];obtain⟨h1,h2,h3⟩:=logB_iff.1 hb;have hmay':=waa hmay;have ht:=waa (λ(V:World) (hV:Below w.heap.size w V)=>qkd A cap l V (h.below hV) hb hx);have hs:=waa (λ(V:World) (B:Option Addr) (c:Nat) (hR:Rd V B (2*l.length) (u64V (qbe 0 l)))=>qxi (c:=c) hR (keep (qgu 0 l)) Zo (keep (q8m (k:=0) h3 hx Zo)));clear hmay hb hx h1 h2 h3;generalize qbo (qbe 0 l)=s at hs ⊢;go_enter Tryz.func340,Tryz.ntmps340;go_wp2_with fail;refine hmay'.out.mono ?_;rintro e w1 ⟨rfl,hB⟩;go_wp2_with fail;refine(ht.out w1 hB).mono ?_;rintro e w2 ⟨v,rfl,hrow,hC⟩;obtain⟨B,c,rfl,hR⟩:=Rd.of_own hrow;go_wp2_with fail;refine(hs.out w2 B c hR).mono ?_;rintro e w3 ⟨rfl,rfl⟩;go_wp2_with fail;go_ret;exact⟨rfl,hB.trans (hC.mono hB.size)⟩
 |false=>
  rw[hb] at hmay;rw[qr8 hb];have hmay':=waa hmay;clear hmay hb hx;go_enter Tryz.func340,Tryz.ntmps340;go_wp2_with fail;refine hmay'.out.mono ?_;rintro e w1 ⟨rfl,hB⟩;go_wp2_with fail;go_ret;exact⟨rfl,hB⟩
theorem qtv(s:Nat)(w:World)(hs:s<18446744073709551616):Calls Tryz.prog 337 #[.int .u64 (s:Int)] w λe w'=>e= .returned (.int .i64 ((qa9 s:Nat):Int))/\∃t,w.drewN t=w':=by
 have hg:=waa (qws s 32 31 w hs Zo Zo);have hn:qa9 s<2147483648:=wcn _ Zo;have he:getN s 32 31=qa9 s:=rfl;rw[he] at hg;clear he;generalize qa9 s=n at hg hn ⊢;go_enter Tryz.func337,Tryz.ntmps337;go_wp2_with fail;refine hg.out.mono ?_;rintro e w1 ⟨rfl,t,rfl⟩;go_wp2_with fail;go_ret;exact⟨qbz (by first|rfl|(rw[wao _ Zo])),t,rfl⟩
theorem qacb{w:World}{A:Option Addr}{a b:Nat}(h:Rd w A 2 (u64V [a,b])):∃p:Addr,A=some p/\w.cell? p=some (.int .u64 (a:Int)):=by
 obtain⟨p,rfl,hc⟩:=h.2 Zo;exact⟨p,rfl,hc 0 _ rfl⟩
theorem q3m(A:Option Addr)(cap:Nat)(ws:List Nat)(w:World)(hr:Rd w A ws.length (u64V ws))(hm:ws.length<=300)(hl:∀b∈ws,b<18446744073709551616):
  Calls Tryz.prog 338 #[.slice A ws.length cap] w λe w'=>∃v,e= .returned v/\w'.ownsRow w.heap.size 152 2 v (ws.length/2) (eV (qa2 ws))/\Below w.heap.size w w':=by
 obtain⟨i0,ii,iz0,iz1,iz2⟩:=info_parts qi5;have hl':=waa hl;clear hl;have hend:=waa (qt7 ws);generalize qa2 ws=T at hend ⊢;have hn:2*(ws.length/2)<=ws.length:=Zo
 have hn2:((ws.length:Int)).tdiv 2=((ws.length/2:Nat):Int):=by rw[wew Zo];omega
 generalize ws.length/2=n at hend hn hn2 ⊢;go_enter Tryz.func338,Tryz.ntmps338;go_wp2_with fail;go_loopw [3,10] (λv k wr=>∃(W:World) (j:Nat),W=wr/\k= .int .i64 (j:Int)/\j<=n/\W.ownsRow w.heap.size 152 2 v j (eV (qa2 (ws.take (2*j))))/\Below w.heap.size w W) (λ_ k _=>n - (intOf k).toNat)
 case atStart=>exact⟨_,0,rfl,rfl,wau _,wa9 _ _ _ _,wac _ _⟩
 case round=>
  obtain⟨W,j,rfl,rfl,hj,hrow,hB⟩:=hrel;by_cases hlt:j<n
  ·obtain⟨a,x,ha,hxx,hd⟩:=qrv (ws:=ws) (j:=j) Zo
   have hal:=hl'.out a (waq ha);have hsn:=(qkj hd).1;obtain⟨p,rfl,hp⟩:=hr.2 Zo;have b0:w.cell? (p.add (2*j))=some (.int .u64 (a:Int)):=hp _ _ (by simp[u64V,ha]);have b1:w.cell? ⟨p.block,p.off+(2*j+1),none⟩=some (.int .u64 (x:Int)):=hp (2*j+1) _ (by simp[u64V,hxx]);have hk0:=waa (show ∀V,Below w.heap.size w V->V.cell? (p.add (2*j))=some (.int .u64 (a:Int))/\V.cell? ⟨p.block,p.off+(2*j+1),none⟩=some (.int .u64 (x:Int)) from λV hV=>⟨(hV.cell (wak w _ b0)).trans b0,(hV.cell (wak w _ b1)).trans b1⟩);obtain⟨c0,-⟩:=hk0.out W hB;have hspl:=q2y hal;have hsp:∀(A:Option Addr) (V:World),Rd V A 2 (i64V [32,32])->Calls Tryz.prog 169 #[.slice A 2 2,.int .u64 (a:Int)] V λe w'=>(∃B d,e= .returned (.tuple #[.slice B 2 d,.bool true])/\Rd w' B 2 (u64V [a%4294967296,a/4294967296])/\∀p,B=some p->V.heap.size<=p.block)/\Below V.heap.size V w':=λA V h0=>
    (qlr A 2 [32,32] a V h0 Zd Zd hal).mono λe w' ⟨h1,h2⟩=>⟨h1.is hspl,h2⟩
   have hsp':=waa hsp;have hb2:a%4294967296<4294967296:=wcn _ Zo;clear hsp hspl b0 b1 hp ha hxx hd hal;generalize a%4294967296=y at hsp' hb2 hsn;generalize a/4294967296=z at hsp';have hsn':=waa hsn;clear hsn;have hz:(0:Int)<=2*(j:Int):=Zo
   have hz2:2*(j:Int)<(ws.length:Int):=Zo
   have hz3:(0:Int)<=2*(j:Int)+1:=Zo
   have hz4:2*(j:Int)+1<(ws.length:Int):=Zo
   have kw0:IntKind.i64.wrap (2*(j:Int))=2*(j:Int):=wao _ Zo;have kw1:IntKind.i64.wrap (2*(j:Int)+1)=2*(j:Int)+1:=wao _ Zo;have kt0:(2*(j:Int)).toNat=2*j:=Zo
   have kt1:(2*(j:Int)+1).toNat=2*j+1:=Zo
   have hs:=hB.size;have x0:W.drew.cell? (p.add (2*j))=some (.int .u64 (a:Int)):=c0;go_wp2_with fail;go_region_held3 (λV=>V.cell? (p.add (2*j))=some (.int .u64 (a:Int)))
    (first|with_reducible exact x0|go_keep|with_reducible exact y0)
    (first
     |(go_at_call 379;refine(qlm _).mono ?_;rintro e w' ⟨rfl,rfl⟩)
     |(go_at_call 169
       refine(hsp'.out _ _ (qch (qbv Zr Zr Zs))).mono ?_;rintro e w3 ⟨⟨B,d,rfl,hrd,hfr⟩,hC⟩;have hBx:=((wac W.heap.size W).alloc (wab _) _).drew.trans (hC.mono Zs);have hB3:=hB.trans (hBx.mono hB.size);obtain⟨y0,y1⟩:=hk0.out w3 hB3))
   all_goals
    obtain⟨q,rfl,r0⟩:=qacb hrd;have hq:W.heap.size<q.block:=by have:=hfr q rfl;simp at this;omega
    have hql:q.block<w3.heap.size:=wak w3 _ r0;have hqn:¬q.block=w3.heap.size:=Zo
    have hne:=waa (show some q.block≠u3.ownBlock from λe=>by have:=(hrow.lt q.block e.symm).2;omega);have ho3:=qaf hrow hBx;have hs3:=hB3.size;have ky:IntKind.i64.wrap (y:Int)=(y:Int):=wao _ Zo;have hr0:=waa r0;obtain⟨d0,d1⟩:w3.drew.cell? q=some (.int .u64 (y:Int))/\w3.drew.cell? ⟨p.block,p.off+(2*j+1),none⟩=some (.int .u64 (x:Int)):=⟨r0,y1⟩
    clear hrd hfr;go_wp2_with fail;go_region_held3 (λV=>V.cell? q=some (.int .u64 (y:Int))/\V.cell? ⟨p.block,p.off+(2*j+1),none⟩=some (.int .u64 (x:Int)))
     (first|with_reducible exact⟨d0,d1⟩|go_keep|with_reducible exact⟨z0,z1⟩)
     ((refine step_append_lies _ Zr _ _ 138 Zr w.heap.size 152 i0 (.agg #[.int .i64 0,.int .u64 0]) 2 16 wgy ii iz0 iz1 iz2 Zr Zd _ _ _ Zr (qfa (ho3.alloc _) 1) ⟨w3.heap.size,0,none⟩ 1 1 [.int .i64 (y:Int),.int .u64 (x:Int)] Zr Zr (qb3 rfl _ Zr _) (by simp[Value.oneCell']) Zd (by simp only[maxLen];omega) Zo Zx _ Zr ?_;intro g cap1 w4 hown' hgrow hat hlg;have hB4:=qp3 hB3 hgrow (qa0 ho3);obtain⟨z2,z1⟩:=hk0.out w4 hB4;have z0:=qaav hgrow hr0.out hne.out))
    go_wp2_with fail;go_roundw
    case rel=>exact⟨_,j+1,rfl,by go_num,Zo,by rw[hsn'.out,qn8];exact hown',hB4⟩
    case measure=>simp[intOf];omega
  ·obtain rfl:j=n:=Zo
   go_wp2_with fail;go_ret;exact⟨_,rfl,by rw[<-hend.out];exact hrow,hB⟩
def cntB(n m:Int):Bool:=decide (1<=n/\n<=m)
theorem q9b{n m:Int}:cntB n m=true↔1<=n/\n<=m:=by simp[cntB]
def mayB(s l r:Int):Bool:=cntB s 16&&(cntB l 4&&cntB r 8)
theorem mayB_iff{s l r:Int}:mayB s l r=true↔(1<=s/\s<=16)/\(1<=l/\l<=4)/\1<=r/\r<=8:=by simp[mayB,q9b]
theorem qve(n m:Int)(w:World):Calls Tryz.prog 143 #[.int .i64 n,.int .i64 m] w λe w'=>e= .returned (.bool (cntB n m))/\w=w':=by
 by_cases h1:1<=n<;>by_cases h2:n<=m
 all_goals
  go_enter Tryz.func143,Tryz.ntmps143;go_wp2
  go_ret;exact⟨qab (by unfold cntB;first|(exact(decide_eq_true Zo).symm)|(exact(decide_eq_false Zo).symm)),rfl⟩
theorem qd7(s l r:Int)(w:World):Calls Tryz.prog 100 #[.agg #[.int .i64 s,.int .i64 l,.int .i64 r]] w λe w'=>e= .returned (.bool (mayB s l r))/\Below w.heap.size w w':=by
 cases h1:cntB s 16<;>cases h2:cntB l 4<;>cases h3:cntB r 8
 all_goals
  have hm:mayB s l r=_:=(by rw[mayB,h1,h2,h3]:mayB s l r=(_&&(_&&_)))
  have hm':=waa hm;clear hm;go_enter Tryz.func100,Tryz.ntmps100;go_wp2_with (go_at_call 143;refine(qve _ _ _).mono ?_;rintro e w' ⟨rfl,rfl⟩)
  go_ret;exact⟨qab (by rw[hm'.out];rfl),(wac _ _).alloc (wab _) _⟩
theorem qacy(s l r:Int):mayB s l r=decide (1<=s/\s<=16/\1<=l/\l<=4/\1<=r/\r<=8):=by
 rw[wb8,mayB_iff];simp;omega
theorem qa1(s l r:Int)(w:World):Calls Tryz.prog 10 #[.agg #[.int .i64 s,.int .i64 l,.int .i64 r]] w λe w'=>e= .returned (.bool (mayB s l r))/\Below w.heap.size w w':=by
 have hB:=(wac w.heap.size w).alloc (wab _) (.cells #[.int .i64 s,.int .i64 l,.int .i64 r] 23);rw[qacy];generalize hd:decide (1<=s/\s<=16/\1<=l/\l<=4/\1<=r/\r<=8)=d;have hd':=waa hd;clear hd;by_cases h1:1<=s
 ·by_cases h2:s<=16
  ·by_cases h3:1<=l
   ·by_cases h4:l<=4
    ·by_cases h5:1<=r
     ·by_cases h6:r<=8
      all_goals
       go_enter wd0,wd1;go_wp2
       go_ret;exact⟨qab (by rw[<-hd'.out];first|(exact(decide_eq_true Zo).symm)|(exact(decide_eq_false Zo).symm)),hB⟩
     all_goals
      go_enter wd0,wd1;go_wp2
      go_ret;exact⟨qab (by rw[<-hd'.out];exact(decide_eq_false Zo).symm),hB⟩
    all_goals
     go_enter wd0,wd1;go_wp2
     go_ret;exact⟨qab (by rw[<-hd'.out];exact(decide_eq_false Zo).symm),hB⟩
   all_goals
    go_enter wd0,wd1;go_wp2
    go_ret;exact⟨qab (by rw[<-hd'.out];exact(decide_eq_false Zo).symm),hB⟩
  all_goals
   go_enter wd0,wd1;go_wp2
   go_ret;exact⟨qab (by rw[<-hd'.out];exact(decide_eq_false Zo).symm),hB⟩
 all_goals
  go_enter wd0,wd1;go_wp2
  go_ret;exact⟨qab (by rw[<-hd'.out];exact(decide_eq_false Zo).symm),hB⟩
theorem q21(p e:Int)(w:World)(h0:0<=p*e)(h1:p*e<=2000):
  Calls Tryz.prog 232 #[.int .i64 p,.int .i64 e] w λx w'=>x= .returned (.agg #[.int .i64 p,.int .i64 e,.int .i64 (p*e)])/\Below w.heap.size w w':=by
 go_enter Tryz.func232,Tryz.ntmps232;go_wp2
 exact bodyPost_ret (v:= .agg #[.int .i64 p,.int .i64 e,.int .i64 (p*e)]) (by simp[results,Tryz.results232,go_sem]) rfl ⟨rfl,((wac _ _).alloc (wab _) _)⟩
def layNoL:List Value:=[.int .i64 0,.int .i64 0,.int .i64 0,.int .i64 0,.int .i64 0,.int .i64 0,.int .i64 0,.int .i64 0,.int .i64 0,.int .i64 0,.int .i64 0,.int .i64 0,.int .i64 0,.int .i64 0,.int .i64 0]
def qy1:Value:= .agg layNoL.toArray
theorem q12(s l r:Int)(w:World)(hm:mayB s l r=false):Calls Tryz.prog 173 #[.agg #[.int .i64 s,.int .i64 l,.int .i64 r]] w λe w'=>e= .returned qy1/\Below w.heap.size w w':=by
 have hm':=waa hm;clear hm;have hmay:∀w,Calls Tryz.prog 100 #[.agg #[.int .i64 s,.int .i64 l,.int .i64 r]] w λe w'=>e= .returned (.bool false)/\Below w.heap.size w w':=λw=>by
  have:=qd7 s l r w
  rw[hm'.out] at this;exact this
 go_enter Tryz.func173,Tryz.ntmps173;go_wp2_with fail;refine(hmay _).mono ?_;rintro e w1 ⟨rfl,hB⟩;obtain⟨hc,hf⟩:=qam hB;have hz:w.heap.size+1<w1.heap.size:=by have:=hB.size;simp at this;omega
 go_wp2_with fail;refine bodyPost_ret (v:=qy1) (by simp[results,Tryz.results173,go_sem,qy1,layNoL,hc]) rfl ⟨rfl,?_⟩;iterate 15 refine wa7 ?_ Zs _
 exact(((wac _ _).alloc (wab _) _).alloc Zs _).trans (hB.mono Zx)
def qfc(s l r:Int):List Value:=[.int .i64 1,.int .i64 8,.int .i64 8,.int .i64 r,.int .i64 1,.int .i64 8,.int .i64 l,.int .i64 40,.int .i64 (l*40),.int .i64 s,.int .i64 8,.int .i64 (s*8),.int .i64 s,.int .i64 64,.int .i64 (s*64)]
def qr3(s l r:Int):Value:= .agg (qfc s l r).toArray
def Alk(W:World)(b:Nat)(p e:Int)(x:Ending)(V:World):Prop:=x= .returned (.agg #[.int .i64 p,.int .i64 e,.int .i64 (p*e)])/\Below (b+1) W V/\V.there (b+1) 0 15
theorem qaas{V:World}{b:Nat}(h:V.there b 0 15):∃u0 u1 u2 u3 u4 u5 u6 u7 u8 u9 u10 u11 u12 u13 u14:Value,V.cell? ⟨b,0,none⟩=some u0/\V.cell? ⟨b,1,none⟩=some u1/\V.cell? ⟨b,2,none⟩=some u2/\V.cell? ⟨b,3,none⟩=some u3/\V.cell? ⟨b,4,none⟩=some u4/\V.cell? ⟨b,5,none⟩=some u5/\V.cell? ⟨b,6,none⟩=some u6/\V.cell? ⟨b,7,none⟩=some u7/\V.cell? ⟨b,8,none⟩=some u8/\V.cell? ⟨b,9,none⟩=some u9/\V.cell? ⟨b,10,none⟩=some u10/\V.cell? ⟨b,11,none⟩=some u11/\V.cell? ⟨b,12,none⟩=some u12/\V.cell? ⟨b,13,none⟩=some u13/\V.cell? ⟨b,14,none⟩=some u14:=by
 have hh:∀j,j<15->∃u,V.cell? ⟨b,j,none⟩=some u:=λj hj=>by
  have:=(h j hj).1
  rw[wa4] at this;exact Option.isSome_iff_exists.1 this
 obtain⟨u0,e0⟩:=hh 0 Zo;obtain⟨u1,e1⟩:=hh 1 Zo;obtain⟨u2,e2⟩:=hh 2 Zo;obtain⟨u3,e3⟩:=hh 3 Zo;obtain⟨u4,e4⟩:=hh 4 Zo;obtain⟨u5,e5⟩:=hh 5 Zo;obtain⟨u6,e6⟩:=hh 6 Zo;obtain⟨u7,e7⟩:=hh 7 Zo;obtain⟨u8,e8⟩:=hh 8 Zo;obtain⟨u9,e9⟩:=hh 9 Zo;obtain⟨u10,e10⟩:=hh 10 Zo;obtain⟨u11,e11⟩:=hh 11 Zo;obtain⟨u12,e12⟩:=hh 12 Zo;obtain⟨u13,e13⟩:=hh 13 Zo;obtain⟨u14,e14⟩:=hh 14 Zo;exact⟨u0,u1,u2,u3,u4,u5,u6,u7,u8,u9,u10,u11,u12,u13,u14,e0,e1,e2,e3,e4,e5,e6,e7,e8,e9,e10,e11,e12,e13,e14⟩
theorem qx1(s l r:Int)(w:World)(hm:mayB s l r=true):Calls Tryz.prog 173 #[.agg #[.int .i64 s,.int .i64 l,.int .i64 r]] w λe w'=>e= .returned (qr3 s l r)/\Below w.heap.size w w':=by
 obtain⟨⟨s0,s1⟩,⟨l0,l1⟩,r0,r1⟩:=mayB_iff.1 hm;have hm':=waa hm;clear hm;have hmay:∀w,Calls Tryz.prog 100 #[.agg #[.int .i64 s,.int .i64 l,.int .i64 r]] w λe w'=>e= .returned (.bool true)/\Below w.heap.size w w':=λw=>by
  have:=qd7 s l r w
  rw[hm'.out] at this;exact this
 go_enter Tryz.func173,Tryz.ntmps173;go_wp2_with fail;refine(hmay _).mono ?_;rintro e w1 ⟨rfl,hB⟩;obtain⟨hc,hf⟩:=qam hB;have hz:w.heap.size+1<w1.heap.size:=by have:=hB.size;simp at this;omega
 go_wp2_with fail;have hx0:w1.drew.cell? ⟨w.heap.size,0,none⟩=some (.int .i64 s):=(hB.cell (p:=⟨w.heap.size,0,none⟩) Zx).trans Zs;have hx1:w1.drew.cell? ⟨w.heap.size,1,none⟩=some (.int .i64 l):=(hB.cell (p:=⟨w.heap.size,1,none⟩) Zx).trans Zs;have hx2:w1.drew.cell? ⟨w.heap.size,2,none⟩=some (.int .i64 r):=(hB.cell (p:=⟨w.heap.size,2,none⟩) Zx).trans Zs;have hx3:w1.drew.there (w.heap.size+1) 0 15:=by
  intro j hj;have h:=qb0 (W:=w.alloc (.cells #[.int .i64 s,.int .i64 l,.int .i64 r] 23)) (H:=w.heap.size+1) Zs #[.int .i64 0,.int .i64 0,.int .i64 0,.int .i64 0,.int .i64 0,.int .i64 0,.int .i64 0,.int .i64 0,.int .i64 0,.int .i64 0,.int .i64 0,.int .i64 0,.int .i64 0,.int .i64 0,.int .i64 0] 236 j hj;exact⟨by rw[show w1.drew.cell? ⟨w.heap.size+1,0+j,none⟩=_ from hB.cell (p:=⟨w.heap.size+1,0+j,none⟩) Zs];exact h.1,by rw[show w1.drew.frozen? ⟨w.heap.size+1,0+j,none⟩=_ from hB.frozen (p:=⟨w.heap.size+1,0+j,none⟩) Zs];exact h.2⟩
 have hal:∀(p e:Int) (V:World),Below (w.heap.size+1) w1.drew V->V.there (w.heap.size+1) 0 15->0<=p*e->p*e<=2000->Calls Tryz.prog 232 #[.int .i64 p,.int .i64 e] V (Alk w1.drew w.heap.size p e):=λp e V hV ht h0 h1=>
  (q21 p e V h0 h1).mono λx V' ⟨hx,hb⟩=>by
   have hs:=q7k ht Zo;exact⟨hx,hV.trans (hb.mono Zo),qhw hb hs ht⟩
 have hkp:∀V:World,Below (w.heap.size+1) w1.drew V->V.there (w.heap.size+1) 0 15->V.cell? ⟨w.heap.size,0,none⟩=some (.int .i64 s)/\V.cell? ⟨w.heap.size,1,none⟩=some (.int .i64 l)/\V.cell? ⟨w.heap.size,2,none⟩=some (.int .i64 r)/\V.there (w.heap.size+1) 0 15/\Below (w.heap.size+1) w1.drew V:=λV hV ht=>
  ⟨qbr hV Zo hx0,qbr hV Zo hx1,qbr hV Zo hx2,ht,hV⟩
 go_region_held3 (λV=>V.cell? ⟨w.heap.size,0,none⟩=some (.int .i64 s)/\V.cell? ⟨w.heap.size,1,none⟩=some (.int .i64 l)/\V.cell? ⟨w.heap.size,2,none⟩=some (.int .i64 r)/\V.there (w.heap.size+1) 0 15/\Below (w.heap.size+1) w1.drew V)
  (first|with_reducible exact hkp _ (wac _ _) hx3|with_reducible exact hkp _ hyB hy3|(refine hkp _ ?_ ?_;((iterate 15 with_reducible refine wa7 ?_ Zs _);exact hyB);((iterate 15 with_reducible refine qq2 ?_);exact hy3)))
  (first|(go_at_call 232;go_split_ands;refine(hal _ _ _ Za Za Zo Zo).mono ?_;rintro e w' ⟨rfl,hyB,hy3⟩;obtain⟨u0,u1,u2,u3,u4,u5,u6,u7,u8,u9,u10,u11,u12,u13,u14,hy4⟩:=qaas hy3;have hy5:=λo ho=>qtf hy3 o ho))
 go_wp2_with fail;refine bodyPost_ret (v:=qr3 s l r) (by simp[results,Tryz.results173,go_sem,qr3,qfc,hy4]) rfl ⟨rfl,?_⟩;iterate 15 with_reducible refine wa7 ?_ Zs _
 exact((((wac _ _).alloc (wab _) _).alloc Zs _).trans (hB.mono Zx)).drew.trans (hyB.mono Zo)
def arP(s l r:Int):Nat->Int|0=>1|1=>r|2=>l|3=>s|_=>s
def arE(s l r:Int):Nat->Int|0=>8|1=>1|2=>40|3=>8|_=>64
def arW(s l r:Int):Nat->Int|0=>8|1=>8|2=>l*40|3=>s*8|_=>s*64
def sumW(f:Nat->Int):Nat->Int|0=>0|n+1=>sumW f n+f n
theorem qoj{f:Nat->Int}{n m:Nat}(h:∀j,j<n->0<=f j/\f j<=2000)(hm:m<=n):0<=sumW f m/\sumW f m<=2000*m:=by
 induction m with
 |zero=>exact⟨by show(0:Int)<=0;omega,by show(0:Int)<=2000*0;omega⟩
 |succ m ih=>
  have:=ih Zo
  have h2:=h m Zo;show 0<=sumW f m+f m/\sumW f m+f m<=2000*((m+1:Nat):Int)
  omega
def Areas(w:World)(p:Addr)(n:Nat)(a b c:Nat->Int):Prop:=∀j,j<n->w.cell? (p.add (j*3))=some (.int .i64 (a j))/\w.cell? ⟨(p.add (j*3)).block,(p.add (j*3)).off+1,none⟩=some (.int .i64 (b j))/\w.cell? ⟨(p.add (j*3)).block,(p.add (j*3)).off+2,none⟩=some (.int .i64 (c j))/\0<=c j/\c j<=2000
theorem Areas.below{w w':World}{p:Addr}{n:Nat}{a b c:Nat->Int}(h:Areas w p n a b c)(hB:Below w.heap.size w w'):Areas w' p n a b c:=λj hj=>by
 obtain⟨h0,h1,h2,h3⟩:=h j hj;exact⟨(hB.cell (wak w _ h0)).trans h0,(hB.cell (wak w _ h1)).trans h1,(hB.cell (wak w _ h2)).trans h2,h3⟩
theorem qpc(p:Addr)(n cap:Nat)(a b c:Nat->Int)(w:World)(h:Areas w p n a b c)(hn:n<=5):
  Calls Tryz.prog 174 #[.slice (some p) n cap] w λe w'=>e= .returned (.int .i64 (sumW c n))/\Below w.heap.size w w':=by
 have hbd:=λm (hm:m<=n)=>qoj (λj hj=>(h j hj).2.2.2) hm
 have hz:sumW c 0=0:=rfl;have hz':=waa hz;clear hz;go_enter Tryz.func174,Tryz.ntmps174;go_wp2
 go_loopw [3,8] (λt q wr=>∃(W:World) (j:Nat),W=wr/\t= .int .i64 (sumW c j)/\q= .int .i64 (j:Int)/\j<=n/\Below w.heap.size w W) (λ_ q _=>n - (intOf q).toNat)
 case atStart=>exact⟨w,0,rfl,by rw[hz'.out],rfl,wau _,wac _ _⟩
 case round=>
  obtain⟨W,j,rfl,rfl,rfl,hj,hB⟩:=hrel;by_cases hlt:j<n
  ·obtain⟨h0,h1,h2,h3,h4⟩:=h.below hB j hlt
   obtain⟨b0,b1⟩:=hbd j hj;have hB1:=hB.alloc hB.size (.cells #[.int .i64 (a j),.int .i64 (b j),.int .i64 (c j)] 235);go_wp2
   go_roundw
   case rel=>exact⟨_,j+1,rfl,rfl,by go_num,Zo,hB1⟩
   case measure=>simp[intOf];omega
  ·obtain rfl:j=n:=Zo
   go_wp2
   go_ret;exact⟨rfl,hB⟩
end Go.Proofs.YtocncmbeinmiaaaGreat
