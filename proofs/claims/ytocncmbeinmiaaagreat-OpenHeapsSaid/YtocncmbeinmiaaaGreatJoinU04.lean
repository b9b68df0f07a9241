/- Parts. No condition. -/
import Derived.Test.YtocncmbeinmiaaaGreatJoinU03
set_option linter.unusedVariables false
set_option maxRecDepth 100000
set_option maxHeartbeats 8000000
namespace Go.Proofs.YtocncmbeinmiaaaGreat
open Go Go.RowKit
theorem qzo:(Tryz.prog.info? 236).map (·.size)=some 15:=by kernel_rfl
theorem qo7{cs:List Value}(h:∀v∈cs,∃x:Int,v= .int .i64 x):cs.toArray.all (·.oneCell')=true:=all_oneCell_toArray λv hv=>by
 obtain⟨x,rfl⟩:=h v hv;rfl
theorem q13:layNoL.toArray.all (·.oneCell')=true:=qo7 (by simp[layNoL])
theorem qx8(s l r:Int):(qfc s l r).toArray.all (·.oneCell')=true:=qo7 (by simp[qfc])
theorem qlz{w:World}{b:Nat}{P E W:Nat->Int}{L:List Value}(h:w.rangeAt b 0 L)(hL:∀j,j<5->L[j*3]? =some (.int .i64 (P j))/\L[j*3+1]? =some (.int .i64 (E j))/\L[j*3+2]? =some (.int .i64 (W j))/\0<=W j/\W j<=2000):Areas w ⟨b,0,none⟩ 5 P E W:=by
 intro j hj;obtain⟨a0,a1,a2,a3⟩:=hL j hj;have e:(⟨b,0,none⟩:Addr).add (j*3)=⟨b,j*3,none⟩:=by rw[Addr.add_mid,wa4]
 rw[e];exact⟨by have:=h _ _ a0;rwa [wa4] at this,by have:=h _ _ a1;rwa [wa4] at this,by have:=h _ _ a2;rwa [wa4] at this,a3⟩
theorem qsi{w:World}{b j:Nat}{p e c:Int}{L:List Value}{Q:Prop}(h:w.rangeAt b 0 L)(hL:L[j*3]? =some (.int .i64 p)/\L[j*3+1]? =some (.int .i64 e)/\L[j*3+2]? =some (.int .i64 c)/\Q):w.cell? ⟨b,j*3,none⟩=some (.int .i64 p)/\w.cell? ⟨b,j*3+1,none⟩=some (.int .i64 e)/\w.cell? ⟨b,j*3+2,none⟩=some (.int .i64 c):=by
 obtain⟨a0,a1,a2,_⟩:=hL;exact⟨by have:=h _ _ a0;rwa [wa4] at this,by have:=h _ _ a1;rwa [wa4] at this,by have:=h _ _ a2;rwa [wa4] at this⟩
theorem q3w{s l r:Int}(hm:mayB s l r=true):∀j,j<5->(qfc s l r)[j*3]? =some (.int .i64 (arP s l r j))/\(qfc s l r)[j*3+1]? =some (.int .i64 (arE s l r j))/\(qfc s l r)[j*3+2]? =some (.int .i64 (arW s l r j))/\0<=arW s l r j/\arW s l r j<=2000:=by
 obtain⟨⟨s0,s1⟩,⟨l0,l1⟩,r0,r1⟩:=mayB_iff.1 hm;intro j hj;match j,hj with
 |0,_=>exact⟨rfl,rfl,rfl,by simp only[arW];omega,by simp only[arW];omega⟩
 |1,_=>exact⟨rfl,rfl,rfl,by simp only[arW];omega,by simp only[arW];omega⟩
 |2,_=>exact⟨rfl,rfl,rfl,by simp only[arW];omega,by simp only[arW];omega⟩
 |3,_=>exact⟨rfl,rfl,rfl,by simp only[arW];omega,by simp only[arW];omega⟩
 |4,_=>exact⟨rfl,rfl,rfl,by simp only[arW];omega,by simp only[arW];omega⟩
theorem q7z:∀j,j<5->layNoL[j*3]? =some (.int .i64 ((λ_=>0:Nat->Int) j))/\layNoL[j*3+1]? =some (.int .i64 ((λ_=>0:Nat->Int) j))/\layNoL[j*3+2]? =some (.int .i64 ((λ_=>0:Nat->Int) j))/\0<=(λ_=>0:Nat->Int) j/\(λ_=>0:Nat->Int) j<=2000:=by
 intro j hj;match j,hj with
 |0,_=>exact⟨rfl,rfl,rfl,by simp,by simp⟩
 |1,_=>exact⟨rfl,rfl,rfl,by simp,by simp⟩
 |2,_=>exact⟨rfl,rfl,rfl,by simp,by simp⟩
 |3,_=>exact⟨rfl,rfl,rfl,by simp,by simp⟩
 |4,_=>exact⟨rfl,rfl,rfl,by simp,by simp⟩
theorem qdp{ops:Array Oper}{w:World}{Q:Exit->Act->World->Prop}{rest:List Oper}{op:Oper}{a:Act}{L:List Value}(hg:op.guard=none)(x y:Operand)(ho:op.op= .store 236 x y)(b:Nat)(hx:a.eval x= .pointer (some ⟨b,0,none⟩))(hy:a.eval y= .agg L.toArray)(ht:w.there b 0 15)(hl:L.length=15)(h1:L.toArray.all (·.oneCell')=true)(h:wpList Tryz.prog ops Q rest (a.put op.dst undef) (w.setCells b 0 L)):wpList Tryz.prog ops Q (op::rest) a w:=
 wpList_store_mid hg _ x y ho b 0 L.toArray hx hy (by rw[wbj,hl];exact ht) (by rw[wbj,hl];exact qzo) h1 h
def gL(s l r:Int):List Value:=if mayB s l r=true then qfc s l r else layNoL
def gP(s l r:Int)(j:Nat):Int:=if mayB s l r=true then arP s l r j else 0
def gE(s l r:Int)(j:Nat):Int:=if mayB s l r=true then arE s l r j else 0
def gW(s l r:Int)(j:Nat):Int:=if mayB s l r=true then arW s l r j else 0
theorem qhj(s l r:Int):∀j,j<5->(gL s l r)[j*3]? =some (.int .i64 (gP s l r j))/\(gL s l r)[j*3+1]? =some (.int .i64 (gE s l r j))/\(gL s l r)[j*3+2]? =some (.int .i64 (gW s l r j))/\0<=gW s l r j/\gW s l r j<=2000:=by
 intro j hj;unfold gL gP gE gW;by_cases h:mayB s l r=true
 ·simp only[if_pos h];exact q3w h j hj
 ·simp only[if_neg h];exact q7z j hj
theorem qna(s l r:Int):(gL s l r).toArray.all (·.oneCell')=true:=by
 unfold gL;split
 ·exact qx8 s l r
 ·exact q13
theorem qgc(s l r:Int):(gL s l r).length=15:=by unfold gL;split<;>rfl
theorem qfo(s l r:Int)(w:World):Calls Tryz.prog 173 #[.agg #[.int .i64 s,.int .i64 l,.int .i64 r]] w λe w'=>e= .returned (.agg (gL s l r).toArray)/\Below w.heap.size w w':=by
 unfold gL;by_cases h:mayB s l r=true
 ·simp only[if_pos h];exact qx1 s l r w h
 ·simp only[if_neg h];exact q12 s l r w (by simpa using h)
theorem qyu(s l r:Int)(w:World):Calls Tryz.prog 131 #[.agg #[.int .i64 s,.int .i64 l,.int .i64 r]] w λe w'=>e= .returned (.int .i64 (sumW (gW s l r) 5))/\Below w.heap.size w w':=by
 go_enter Tryz.func131,Tryz.ntmps131;go_wp2_with fail;refine(qfo s l r _).mono ?_;rintro e w1 ⟨rfl,hB⟩;have hB2:=(((wac _ w).alloc (wab _) (.cells #[.int .i64 s,.int .i64 l,.int .i64 r] 23)).trans (hB.mono Zs)).trans ((qdc (W:=w1) #[.int .i64 0,.int .i64 0,.int .i64 0,.int .i64 0,.int .i64 0,.int .i64 0,.int .i64 0,.int .i64 0,.int .i64 0,.int .i64 0,.int .i64 0,.int .i64 0,.int .i64 0,.int .i64 0,.int .i64 0] 236 (gL s l r)).mono (by have:=hB.size;simp at this;omega));have hr2:=qdq (W:=w1) (C:=#[.int .i64 0,.int .i64 0,.int .i64 0,.int .i64 0,.int .i64 0,.int .i64 0,.int .i64 0,.int .i64 0,.int .i64 0,.int .i64 0,.int .i64 0,.int .i64 0,.int .i64 0,.int .i64 0,.int .i64 0]) (t:=236) (vs:=gL s l r) (qgc s l r);go_wp2_with (first|(refine qdp rfl _ _ rfl w1.heap.size rfl rfl (qb0 rfl #[.int .i64 0,.int .i64 0,.int .i64 0,.int .i64 0,.int .i64 0,.int .i64 0,.int .i64 0,.int .i64 0,.int .i64 0,.int .i64 0,.int .i64 0,.int .i64 0,.int .i64 0,.int .i64 0,.int .i64 0] _) (qgc s l r) (qna s l r) ?_;generalize (w1.alloc (.cells #[.int .i64 0,.int .i64 0,.int .i64 0,.int .i64 0,.int .i64 0,.int .i64 0,.int .i64 0,.int .i64 0,.int .i64 0,.int .i64 0,.int .i64 0,.int .i64 0,.int .i64 0,.int .i64 0,.int .i64 0] 236)).setCells w1.heap.size 0 (gL s l r)=W2 at hB2 hr2 ⊢))
 refine(qpc _ 5 5 _ _ _ W2 (qlz hr2 (qhj s l r)) Zo).mono ?_;rintro e W3 ⟨rfl,hB3⟩;go_wp2_with fail;go_ret;exact⟨rfl,hB2.trans (hB3.mono hB2.size)⟩
def bgN(s l r:Int)(k:Nat)(i:Int):Int:=if 0<=i/\i<gP s l r k then sumW (gW s l r) k+i*gE s l r k else -1
theorem qaai{s l r i:Int}{k:Nat}(hk:k<5)(h0:0<=i)(h1:i<gP s l r k):0<=i*gE s l r k/\i*gE s l r k<=2000:=by
 unfold gP at h1;unfold gE;by_cases hm:mayB s l r=true
 ·obtain⟨⟨s0,s1⟩,⟨l0,l1⟩,r0,r1⟩:=mayB_iff.1 hm
  rw[if_pos hm] at h1;rw[if_pos hm];match k,hk with
  |0,_=>simp only[arP,arE] at*;omega
  |1,_=>simp only[arP,arE] at*;omega
  |2,_=>simp only[arP,arE] at*;omega
  |3,_=>simp only[arP,arE] at*;omega
  |4,_=>simp only[arP,arE] at*;omega
 ·rw[if_neg hm] at h1
  omega
theorem qhs(s l r i:Int)(k:Nat)(w:World)(hk:k<5):Calls Tryz.prog 146 #[.agg #[.int .i64 s,.int .i64 l,.int .i64 r],.int .i64 (k:Int),.int .i64 i] w λe w'=>e= .returned (.int .i64 (bgN s l r k i))/\Below w.heap.size w w':=by
 have k0:(0:Int)<=(k:Int):=Zo
 have k1:(k:Int)<5:=Zo
 by_cases h0:i<0
 ·have hb:bgN s l r k i= -1:=if_neg Zo
  rw[hb];clear hb;go_enter Tryz.func146,Tryz.ntmps146;go_wp2_with fail;refine(qfo s l r _).mono ?_;rintro e w1 ⟨rfl,hB⟩;have hB2:=(((wac _ w).alloc (wab _) (.cells #[.int .i64 s,.int .i64 l,.int .i64 r] 23)).trans (hB.mono Zs)).trans ((qdc (W:=w1) #[.int .i64 0,.int .i64 0,.int .i64 0,.int .i64 0,.int .i64 0,.int .i64 0,.int .i64 0,.int .i64 0,.int .i64 0,.int .i64 0,.int .i64 0,.int .i64 0,.int .i64 0,.int .i64 0,.int .i64 0] 236 (gL s l r)).mono (by have:=hB.size;simp at this;omega));go_wp2_with (first|(refine qdp rfl _ _ rfl w1.heap.size rfl rfl (qb0 rfl #[.int .i64 0,.int .i64 0,.int .i64 0,.int .i64 0,.int .i64 0,.int .i64 0,.int .i64 0,.int .i64 0,.int .i64 0,.int .i64 0,.int .i64 0,.int .i64 0,.int .i64 0,.int .i64 0,.int .i64 0] _) (qgc s l r) (qna s l r) ?_;generalize (w1.alloc (.cells #[.int .i64 0,.int .i64 0,.int .i64 0,.int .i64 0,.int .i64 0,.int .i64 0,.int .i64 0,.int .i64 0,.int .i64 0,.int .i64 0,.int .i64 0,.int .i64 0,.int .i64 0,.int .i64 0,.int .i64 0] 236)).setCells w1.heap.size 0 (gL s l r)=W2 at hB2 ⊢))
  go_ret;exact⟨rfl,hB2⟩
 ·by_cases h1:i<gP s l r k
  ·have hb:bgN s l r k i=sumW (gW s l r) k+i*gE s l r k:=if_pos Zo
   rw[hb];clear hb;have hs:=qoj (f:=gW s l r) (n:=5) (λj hj=>(qhj s l r j hj).2.2.2) (wbb hk);obtain⟨hp0,hp1⟩:=qaai hk Zo h1;obtain⟨hs0,hs1⟩:=hs;have q1:IntKind.i64.wrap (i*gE s l r k)=i*gE s l r k:=wao _ Zo;have q2:IntKind.i64.wrap (sumW (gW s l r) k+i*gE s l r k)=sumW (gW s l r) k+i*gE s l r k:=wao _ Zo;have q1':=waa q1;have q2':=waa q2;clear q1 q2;go_enter Tryz.func146,Tryz.ntmps146;go_wp2_with fail;refine(qfo s l r _).mono ?_;rintro e w1 ⟨rfl,hB⟩;have hB2:=(((wac _ w).alloc (wab _) (.cells #[.int .i64 s,.int .i64 l,.int .i64 r] 23)).trans (hB.mono Zs)).trans ((qdc (W:=w1) #[.int .i64 0,.int .i64 0,.int .i64 0,.int .i64 0,.int .i64 0,.int .i64 0,.int .i64 0,.int .i64 0,.int .i64 0,.int .i64 0,.int .i64 0,.int .i64 0,.int .i64 0,.int .i64 0,.int .i64 0] 236 (gL s l r)).mono (by have:=hB.size;simp at this;omega));have hr2:=qdq (W:=w1) (C:=#[.int .i64 0,.int .i64 0,.int .i64 0,.int .i64 0,.int .i64 0,.int .i64 0,.int .i64 0,.int .i64 0,.int .i64 0,.int .i64 0,.int .i64 0,.int .i64 0,.int .i64 0,.int .i64 0,.int .i64 0]) (t:=236) (vs:=gL s l r) (qgc s l r);go_wp2_with (first|(refine qdp rfl _ _ rfl w1.heap.size rfl rfl (qb0 rfl #[.int .i64 0,.int .i64 0,.int .i64 0,.int .i64 0,.int .i64 0,.int .i64 0,.int .i64 0,.int .i64 0,.int .i64 0,.int .i64 0,.int .i64 0,.int .i64 0,.int .i64 0,.int .i64 0,.int .i64 0] _) (qgc s l r) (qna s l r) ?_;generalize (w1.alloc (.cells #[.int .i64 0,.int .i64 0,.int .i64 0,.int .i64 0,.int .i64 0,.int .i64 0,.int .i64 0,.int .i64 0,.int .i64 0,.int .i64 0,.int .i64 0,.int .i64 0,.int .i64 0,.int .i64 0,.int .i64 0] 236)).setCells w1.heap.size 0 (gL s l r)=W2 at hB2 hr2 ⊢;have hA:=qlz hr2 (qhj s l r);obtain⟨c0,c1,c2⟩:=qsi hr2 (qhj s l r k hk)))
   have hx:=show W2.drew.cell? ⟨w1.heap.size,k*3+1,none⟩=_ from c1
   have htot:∀V,Below W2.heap.size W2.drew V->Calls Tryz.prog 174 #[.slice (some ⟨w1.heap.size,0,none⟩) k 5] V λe V'=>e= .returned (.int .i64 (sumW (gW s l r) k))/\Below W2.heap.size W2.drew V':=λV hV=>
    (qpc ⟨w1.heap.size,0,none⟩ k 5 _ _ _ V (λj hj=>Areas.below (w:=W2.drew) hA hV j Zo) Zo).mono λe V' ⟨he,hb⟩=>⟨he,hV.trans (hb.mono hV.size)⟩
   have k2:(k:Int)<=5:=Zo
   have k3:k<=5:=Zo
   have q1:=q1'.out;have q2:=q2'.out;go_region_held3 (λV=>V.cell? ⟨w1.heap.size,k*3+1,none⟩=some (.int .i64 (gE s l r k))/\Below W2.heap.size W2.drew V)
    (first|with_reducible exact⟨hx,wac _ _⟩|with_reducible exact⟨hy,hyB⟩)
    (first|(go_at_call 174;go_split_ands;refine(htot _ Za).mono ?_;rintro e w' ⟨rfl,hyB⟩;have hy:=(hyB.cell (wak _ _ hx)).trans hx))
   clear q1 q2;go_wp2_with fail;go_ret;exact⟨rfl,hB2.drew.trans (hyB.mono hB2.size)⟩
  ·have hb:bgN s l r k i= -1:=if_neg Zo
   rw[hb];clear hb;go_enter Tryz.func146,Tryz.ntmps146;go_wp2_with fail;refine(qfo s l r _).mono ?_;rintro e w1 ⟨rfl,hB⟩;have hB2:=(((wac _ w).alloc (wab _) (.cells #[.int .i64 s,.int .i64 l,.int .i64 r] 23)).trans (hB.mono Zs)).trans ((qdc (W:=w1) #[.int .i64 0,.int .i64 0,.int .i64 0,.int .i64 0,.int .i64 0,.int .i64 0,.int .i64 0,.int .i64 0,.int .i64 0,.int .i64 0,.int .i64 0,.int .i64 0,.int .i64 0,.int .i64 0,.int .i64 0] 236 (gL s l r)).mono (by have:=hB.size;simp at this;omega));have hr2:=qdq (W:=w1) (C:=#[.int .i64 0,.int .i64 0,.int .i64 0,.int .i64 0,.int .i64 0,.int .i64 0,.int .i64 0,.int .i64 0,.int .i64 0,.int .i64 0,.int .i64 0,.int .i64 0,.int .i64 0,.int .i64 0,.int .i64 0]) (t:=236) (vs:=gL s l r) (qgc s l r);go_wp2_with (first|(refine qdp rfl _ _ rfl w1.heap.size rfl rfl (qb0 rfl #[.int .i64 0,.int .i64 0,.int .i64 0,.int .i64 0,.int .i64 0,.int .i64 0,.int .i64 0,.int .i64 0,.int .i64 0,.int .i64 0,.int .i64 0,.int .i64 0,.int .i64 0,.int .i64 0,.int .i64 0] _) (qgc s l r) (qna s l r) ?_;generalize (w1.alloc (.cells #[.int .i64 0,.int .i64 0,.int .i64 0,.int .i64 0,.int .i64 0,.int .i64 0,.int .i64 0,.int .i64 0,.int .i64 0,.int .i64 0,.int .i64 0,.int .i64 0,.int .i64 0,.int .i64 0,.int .i64 0] 236)).setCells w1.heap.size 0 (gL s l r)=W2 at hB2 hr2 ⊢;have hA:=qlz hr2 (qhj s l r);obtain⟨c0,c1,c2⟩:=qsi hr2 (qhj s l r k hk)))
   go_ret;exact⟨rfl,hB2⟩
def totN(s l r:Int):Int:=if mayB s l r=true then 16+40*l+72*s else 0
def qf6(s l r i:Int):Int:=if mayB s l r=true/\0<=i/\i<r then 8+i else -1
def qbl(s l r i:Int):Int:=if mayB s l r=true/\0<=i/\i<l then 16+40*i else -1
def headN(s l r i:Int):Int:=if mayB s l r=true/\0<=i/\i<s then 16+40*l+8*i else -1
def qby(s l r i:Int):Int:=if mayB s l r=true/\0<=i/\i<s then 16+40*l+8*s+64*i else -1
def entN(s l r i k:Int):Int:=if mayB s l r=true/\(0<=i/\i<l)/\0<=k/\k<=15 then 16+40*i+8+2*k else -1
theorem qug{s l r:Int}(hm:mayB s l r=true):gW s l r=arW s l r:=funext λj=>if_pos hm
theorem q9p{s l r:Int}(hm:¬mayB s l r=true):gW s l r=λ_=>0:=funext λj=>if_neg hm
theorem qnm{s l r i:Int}{k:Nat}(hm:mayB s l r=true):bgN s l r k i=if 0<=i/\i<arP s l r k then sumW (arW s l r) k+i*arE s l r k else -1:=by
 unfold bgN gP gE;rw[qug hm,if_pos hm,if_pos hm]
theorem qq7{s l r i:Int}{k:Nat}(hm:¬mayB s l r=true):bgN s l r k i= -1:=by
 unfold bgN gP;rw[if_neg hm];exact if_neg Zo
theorem qtp:∀n,sumW (λ_=>0) n=0
 |0=>rfl
 |n+1=>by show sumW _ n+0=0;rw[qtp n];rfl
theorem q1p(s l r:Int):sumW (gW s l r) 5=totN s l r:=by
 unfold totN;by_cases hm:mayB s l r=true
 ·rw[qug hm,if_pos hm];simp only[sumW,arW];omega
 ·rw[q9p hm,if_neg hm];rfl
theorem qaa0(s l r i:Int):bgN s l r 1 i=qf6 s l r i:=by
 unfold qf6;by_cases hm:mayB s l r=true
 ·rw[qnm hm]
  by_cases h:0<=i/\i<arP s l r 1
  ·rw[if_pos h,if_pos ⟨hm,h⟩];simp only[sumW,arW,arE];omega
  ·rw[if_neg h,if_neg (λx=>h x.2)]
 ·rw[qq7 hm,if_neg (λx=>hm x.1)]
theorem qabs(s l r i:Int):bgN s l r 2 i=qbl s l r i:=by
 unfold qbl;by_cases hm:mayB s l r=true
 ·rw[qnm hm]
  by_cases h:0<=i/\i<arP s l r 2
  ·rw[if_pos h,if_pos ⟨hm,h⟩];simp only[sumW,arW,arE];omega
  ·rw[if_neg h,if_neg (λx=>h x.2)]
 ·rw[qq7 hm,if_neg (λx=>hm x.1)]
theorem qabg(s l r i:Int):bgN s l r 3 i=headN s l r i:=by
 unfold headN;by_cases hm:mayB s l r=true
 ·rw[qnm hm]
  by_cases h:0<=i/\i<arP s l r 3
  ·rw[if_pos h,if_pos ⟨hm,h⟩];simp only[sumW,arW,arE];omega
  ·rw[if_neg h,if_neg (λx=>h x.2)]
 ·rw[qq7 hm,if_neg (λx=>hm x.1)]
theorem qaa4(s l r i:Int):bgN s l r 4 i=qby s l r i:=by
 unfold qby;by_cases hm:mayB s l r=true
 ·rw[qnm hm]
  by_cases h:0<=i/\i<arP s l r 4
  ·rw[if_pos h,if_pos ⟨hm,h⟩];simp only[sumW,arW,arE];omega
  ·rw[if_neg h,if_neg (λx=>h x.2)]
 ·rw[qq7 hm,if_neg (λx=>hm x.1)]
theorem qje(s l r:Int)(w:World):Calls Tryz.prog 131 #[.agg #[.int .i64 s,.int .i64 l,.int .i64 r]] w λe w'=>e= .returned (.int .i64 (totN s l r))/\Below w.heap.size w w':=by
 rw[<-q1p];exact qyu s l r w
theorem q79(s l r i:Int)(w:World):Calls Tryz.prog 181 #[.agg #[.int .i64 s,.int .i64 l,.int .i64 r],.int .i64 i] w λe w'=>e= .returned (.int .i64 (qf6 s l r i))/\Below w.heap.size w w':=by
 have hb:=λW=>qhs s l r i 1 W Zo
 rw[qaa0] at hb;go_enter Tryz.func181,Tryz.ntmps181;go_wp2_with fail;refine(hb _).mono ?_;rintro e w1 ⟨rfl,hB⟩;go_wp2_with fail;go_ret;exact⟨rfl,((wac _ w).alloc (wab _) _).trans (hB.mono Zs)⟩
theorem qfx(s l r i:Int)(w:World):Calls Tryz.prog 108 #[.agg #[.int .i64 s,.int .i64 l,.int .i64 r],.int .i64 i] w λe w'=>e= .returned (.int .i64 (qbl s l r i))/\Below w.heap.size w w':=by
 have hb:=λW=>qhs s l r i 2 W Zo
 rw[qabs] at hb;go_enter Tryz.func108,Tryz.ntmps108;go_wp2_with fail;refine(hb _).mono ?_;rintro e w1 ⟨rfl,hB⟩;go_wp2_with fail;go_ret;exact⟨rfl,((wac _ w).alloc (wab _) _).trans (hB.mono Zs)⟩
theorem qse(s l r i:Int)(w:World):Calls Tryz.prog 133 #[.agg #[.int .i64 s,.int .i64 l,.int .i64 r],.int .i64 i] w λe w'=>e= .returned (.int .i64 (headN s l r i))/\Below w.heap.size w w':=by
 have hb:=λW=>qhs s l r i 3 W Zo
 rw[qabg] at hb;go_enter Tryz.func133,Tryz.ntmps133;go_wp2_with fail;refine(hb _).mono ?_;rintro e w1 ⟨rfl,hB⟩;go_wp2_with fail;go_ret;exact⟨rfl,((wac _ w).alloc (wab _) _).trans (hB.mono Zs)⟩
theorem qrc(s l r i:Int)(w:World):Calls Tryz.prog 103 #[.agg #[.int .i64 s,.int .i64 l,.int .i64 r],.int .i64 i] w λe w'=>e= .returned (.int .i64 (qby s l r i))/\Below w.heap.size w w':=by
 have hb:=λW=>qhs s l r i 4 W Zo
 rw[qaa4] at hb;go_enter Tryz.func103,Tryz.ntmps103;go_wp2_with fail;refine(hb _).mono ?_;rintro e w1 ⟨rfl,hB⟩;go_wp2_with fail;go_ret;exact⟨rfl,((wac _ w).alloc (wab _) _).trans (hB.mono Zs)⟩
theorem qfr(s l r:Int)(w:World):Calls Tryz.prog 62 #[.agg #[.int .i64 s,.int .i64 l,.int .i64 r]] w λe w'=>e= .returned (.int .i64 (totN s l r))/\Below w.heap.size w w':=by
 cases hm:mayB s l r with
 |false=>
  have ht:totN s l r=0:=if_neg (by rw[hm];simp);rw[ht];clear ht;go_enter Tryz.func62,Tryz.ntmps62;go_wp2_with fail;refine(qa1 s l r _).mono ?_;rintro e w1 ⟨rfl,hB⟩;go_wp2_with fail;go_ret;exact⟨rfl,((wac _ w).alloc (wab _) _).trans (hB.mono Zs)⟩
 |true=>
  have ht:totN s l r=16+40*l+72*s:=if_pos hm;rw[ht];clear ht;obtain⟨⟨s0,s1⟩,⟨l0,l1⟩,r0,r1⟩:=mayB_iff.1 hm;go_enter Tryz.func62,Tryz.ntmps62;go_wp2_with fail;refine(qa1 s l r _).mono ?_;rintro e w1 ⟨rfl,hB⟩;obtain⟨hc,hf⟩:=qam hB;go_wp2_with fail;go_ret;exact⟨rfl,((wac _ w).alloc (wab _) _).trans (hB.mono Zs)⟩
theorem qki(s l r i:Int)(w:World):Calls Tryz.prog 82 #[.agg #[.int .i64 s,.int .i64 l,.int .i64 r],.int .i64 i] w λe w'=>e= .returned (.int .i64 (headN s l r i))/\Below w.heap.size w w':=by
 cases hm:mayB s l r with
 |false=>
  have ht:headN s l r i= -1:=if_neg (by rw[hm];simp);rw[ht];clear ht;go_enter wfh,wfi;go_wp2_with fail;refine(qa1 s l r _).mono ?_;rintro e w1 ⟨rfl,hB⟩;obtain⟨hc,hf⟩:=qam hB;go_wp2_with fail;go_ret;exact⟨rfl,((wac _ w).alloc (wab _) _).trans (hB.mono Zs)⟩
 |true=>
  obtain⟨⟨s0,s1⟩,⟨l0,l1⟩,r0,r1⟩:=mayB_iff.1 hm;by_cases h0:i<0
  ·have ht:headN s l r i= -1:=if_neg Zo
   rw[ht];clear ht;go_enter wfh,wfi;go_wp2_with fail;refine(qa1 s l r _).mono ?_;rintro e w1 ⟨rfl,hB⟩;obtain⟨hc,hf⟩:=qam hB;go_wp2_with fail;go_ret;exact⟨rfl,((wac _ w).alloc (wab _) _).trans (hB.mono Zs)⟩
  ·by_cases h1:i<s
   ·have ht:headN s l r i=16+40*l+8*i:=if_pos ⟨hm,Zo,h1⟩
    rw[ht];clear ht;go_enter wfh,wfi;go_wp2_with fail;refine(qa1 s l r _).mono ?_;rintro e w1 ⟨rfl,hB⟩;obtain⟨hc,hf⟩:=qam hB;go_wp2_with fail;go_ret;exact⟨rfl,((wac _ w).alloc (wab _) _).trans (hB.mono Zs)⟩
   ·have ht:headN s l r i= -1:=if_neg Zo
    rw[ht];clear ht;go_enter wfh,wfi;go_wp2_with fail;refine(qa1 s l r _).mono ?_;rintro e w1 ⟨rfl,hB⟩;obtain⟨hc,hf⟩:=qam hB;go_wp2_with fail;go_ret;exact⟨rfl,((wac _ w).alloc (wab _) _).trans (hB.mono Zs)⟩
theorem q1f(s l r i:Int)(w:World):Calls Tryz.prog 138 #[.agg #[.int .i64 s,.int .i64 l,.int .i64 r],.int .i64 i] w λe w'=>e= .returned (.int .i64 (qby s l r i))/\Below w.heap.size w w':=by
 cases hm:mayB s l r with
 |false=>
  have ht:qby s l r i= -1:=if_neg (by rw[hm];simp);rw[ht];clear ht;go_enter wfj,wfk;go_wp2_with fail;refine(qa1 s l r _).mono ?_;rintro e w1 ⟨rfl,hB⟩;obtain⟨hc,hf⟩:=qam hB;go_wp2_with fail;go_ret;exact⟨rfl,((wac _ w).alloc (wab _) _).trans (hB.mono Zs)⟩
 |true=>
  obtain⟨⟨s0,s1⟩,⟨l0,l1⟩,r0,r1⟩:=mayB_iff.1 hm;by_cases h0:i<0
  ·have ht:qby s l r i= -1:=if_neg Zo
   rw[ht];clear ht;go_enter wfj,wfk;go_wp2_with fail;refine(qa1 s l r _).mono ?_;rintro e w1 ⟨rfl,hB⟩;obtain⟨hc,hf⟩:=qam hB;go_wp2_with fail;go_ret;exact⟨rfl,((wac _ w).alloc (wab _) _).trans (hB.mono Zs)⟩
  ·by_cases h1:i<s
   ·have ht:qby s l r i=16+40*l+8*s+64*i:=if_pos ⟨hm,Zo,h1⟩
    rw[ht];clear ht;go_enter wfj,wfk;go_wp2_with fail;refine(qa1 s l r _).mono ?_;rintro e w1 ⟨rfl,hB⟩;obtain⟨hc,hf⟩:=qam hB;go_wp2_with fail;go_ret;exact⟨rfl,((wac _ w).alloc (wab _) _).trans (hB.mono Zs)⟩
   ·have ht:qby s l r i= -1:=if_neg Zo
    rw[ht];clear ht;go_enter wfj,wfk;go_wp2_with fail;refine(qa1 s l r _).mono ?_;rintro e w1 ⟨rfl,hB⟩;obtain⟨hc,hf⟩:=qam hB;go_wp2_with fail;go_ret;exact⟨rfl,((wac _ w).alloc (wab _) _).trans (hB.mono Zs)⟩
theorem qpa(s l r i k:Int)(w:World):Calls Tryz.prog 277 #[.agg #[.int .i64 s,.int .i64 l,.int .i64 r],.int .i64 i,.int .i64 k] w λe w'=>e= .returned (.int .i64 (entN s l r i k))/\Below w.heap.size w w':=by
 by_cases h:mayB s l r=true/\0<=i/\i<l
 ·have hl:qbl s l r i=16+40*i:=if_pos h
  obtain⟨⟨s0,s1⟩,⟨l0,l1⟩,r0,r1⟩:=mayB_iff.1 h.1;obtain⟨hm,i0,i1⟩:=h;have hm':=waa hm;have hL:∀W,Calls Tryz.prog 108 #[.agg #[.int .i64 s,.int .i64 l,.int .i64 r],.int .i64 i] W λe w'=>e= .returned (.int .i64 (16+40*i))/\Below W.heap.size W w':=λW=>by
   have:=qfx s l r i W
   rwa [hl] at this
  clear hm hl;by_cases h0:k<0
  ·have ht:entN s l r i k= -1:=if_neg Zo
   rw[ht];clear ht;go_enter wfl,wfm;go_wp2_with fail;refine(hL _).mono ?_;rintro e w1 ⟨rfl,hB⟩;go_wp2_with fail;go_ret;exact⟨rfl,((wac _ w).alloc (wab _) _).trans (hB.mono Zs)⟩
  ·by_cases h1:k<16
   ·have ht:entN s l r i k=16+40*i+8+2*k:=if_pos ⟨hm'.out,⟨i0,i1⟩,Zo,Zo⟩
    rw[ht];clear ht;go_enter wfl,wfm;go_wp2_with fail;refine(hL _).mono ?_;rintro e w1 ⟨rfl,hB⟩;go_wp2_with fail;go_ret;exact⟨qbz Zo,((wac _ w).alloc (wab _) _).trans (hB.mono Zs)⟩
   ·have ht:entN s l r i k= -1:=if_neg Zo
    rw[ht];clear ht;go_enter wfl,wfm;go_wp2_with fail;refine(hL _).mono ?_;rintro e w1 ⟨rfl,hB⟩;go_wp2_with fail;go_ret;exact⟨rfl,((wac _ w).alloc (wab _) _).trans (hB.mono Zs)⟩
 ·have hl:qbl s l r i= -1:=if_neg h
  have hL:∀W,Calls Tryz.prog 108 #[.agg #[.int .i64 s,.int .i64 l,.int .i64 r],.int .i64 i] W λe w'=>e= .returned (.int .i64 (-1))/\Below W.heap.size W w':=λW=>by
   have:=qfx s l r i W
   rwa [hl] at this
  have ht:entN s l r i k= -1:=if_neg (λx=>h ⟨x.1,x.2.1⟩);rw[ht];clear ht hl h;go_enter wfl,wfm;go_wp2_with fail;refine(hL _).mono ?_;rintro e w1 ⟨rfl,hB⟩;go_wp2_with fail;go_ret;exact⟨rfl,((wac _ w).alloc (wab _) _).trans (hB.mono Zs)⟩
theorem qoh{w:World}{L:List Value}{j:Nat}{a b c:Value}(hl:L.length=15)(hj:j<5)(h0:L[j*3]? =some a)(h1:L[j*3+1]? =some b)(h2:L[j*3+2]? =some c):
  (Instr.index 236 (.agg L.toArray) (.int .i64 (j:Int))).run Tryz.prog w= .ok (.agg #[a,b,c]) w:=by
 match L,hl with
 |[x0,x1,x2,x3,x4,x5,x6,x7,x8,x9,x10,x11,x12,x13,x14],_=>
  match j,hj with
  |0,_=>
   injection h0 with h0;injection h1 with h1;injection h2 with h2;subst h0 h1 h2;show _=Result.ok (Value.agg #[_,_,_]) w
   rfl
  |1,_=>
   injection h0 with h0;injection h1 with h1;injection h2 with h2;subst h0 h1 h2;show _=Result.ok (Value.agg #[_,_,_]) w
   rfl
  |2,_=>
   injection h0 with h0;injection h1 with h1;injection h2 with h2;subst h0 h1 h2;show _=Result.ok (Value.agg #[_,_,_]) w
   rfl
  |3,_=>
   injection h0 with h0;injection h1 with h1;injection h2 with h2;subst h0 h1 h2;show _=Result.ok (Value.agg #[_,_,_]) w
   rfl
  |4,_=>
   injection h0 with h0;injection h1 with h1;injection h2 with h2;subst h0 h1 h2;show _=Result.ok (Value.agg #[_,_,_]) w
   rfl
theorem qd2{ops:Array Oper}{rest:List Oper}{o:Oper}{ac:Act}{Q:Exit->Act->World->Prop}{w:World}{L:List Value}{j:Nat}{a b c:Value}(hg:o.guard=none)(u v:Operand)(hop:o.op=Op.index 236 u v)(hu:ac.eval u= .agg L.toArray)(hv:ac.eval v= .int .i64 (j:Int))(hl:L.length=15)(hj:j<5)(h0:L[j*3]? =some a)(h1:L[j*3+1]? =some b)(h2:L[j*3+2]? =some c)(hK:wpList Tryz.prog ops Q rest (ac.put o.dst (.agg #[a,b,c])) w):wpList Tryz.prog ops Q (o::rest) ac w:=by
 refine wpList_plain hg λK' hK'=>?_
 unfold Oper.wp;simp[execOp,hop,hu,hv,qoh hl hj h0 h1 h2,Result.andThen]
 exact hK' _ _ hK
def plc(s l r a:Int):Int×Int×Int:=
 if ¬(mayB s l r=true/\0<=a/\a<16+40*l+72*s) then(5,-1,0)
 else if a<8 then(0,0,a)
 else if a<8+r then(1,a - 8,0)
 else if a<16 then(1,-1,a - 8)
 else if a - 16<40*l then(2,(a - 16)/40,(a - 16)%40)
 else if a - 16 - 40*l<8*s then(3,(a - 16 - 40*l)/8,(a - 16 - 40*l)%8)
 else(4,(a - 16 - 40*l - 8*s)/64,(a - 16 - 40*l - 8*s)%64)
def plV(p:Int×Int×Int):Value:= .agg #[.int .i64 p.1,.int .i64 p.2.1,.int .i64 p.2.2]
def cntN(s l r:Int):Nat:=s.toNat+65536*l.toNat+4294967296*r.toNat
def sevL(s l r:Int):List Nat:=[8390880580533249394,3,cntN s l r,(totN s l r).toNat,0,0,0]
def supL(s l r:Int):List Nat:=sevL s l r++[qbo (sevL s l r)]
def cntS(x:Nat):Int:=if x/281474976710656=0 then((x%65536:Nat):Int) else 0
def cntL(x:Nat):Int:=if x/281474976710656=0 then((x/65536%65536:Nat):Int) else 0
def cntR(x:Nat):Int:=if x/281474976710656=0 then((x/4294967296%65536:Nat):Int) else 0
theorem w16(a:Nat)(h:a+16<=64):qcb (a:Int) ((16:Nat):Int)=true:=qb7 Zo h
theorem qvt{a b c:Nat}(ha:a<65536)(hb:b<65536)(hc:c<65536):qda 0 0 [16,16,16] [a,b,c]=some (a+65536*b+4294967296*c):=by
 have e1:=qbw (x:=0) (ws:=[16,16]) (vs:=[b,c]) (w16 0 Zo) (show a<2 ^ 16 from ha);rw[qcv Zo Zo ha] at e1;have e2:=qbw (x:=0+a*2 ^ 0) (ws:=[16]) (vs:=[c]) (w16 (0+16) Zo) (show b<2 ^ 16 from hb);rw[qcv Zo Zo hb] at e2;have e3:=qbw (x:=0+a*2 ^ 0+b*2 ^ (0+16)) (ws:=[]) (vs:=[]) (w16 (0+16+16) Zo) (show c<2 ^ 16 from hc);rw[qcv Zo Zo hc] at e3;refine e1.trans (e2.trans (e3.trans ?_));show some _=some _
 congr 1
 omega
theorem qmy:endL 0 [16,16,16]=some 48:=by decide
theorem q5j{x:Nat}(h:x/281474976710656=0):qdg x [16,16,16]=some [x%65536,x/65536%65536,x/4294967296%65536]:=by
 rw[qff qmy h];simp[qd4,getN]
theorem q68{x:Nat}(h:¬x/281474976710656=0):qdg x [16,16,16]=none:=qhv qmy h
theorem qcc{s l r:Int}(hm:mayB s l r=true):1<=s/\s<=16/\1<=l/\l<=4/\1<=r/\r<=8:=by
 obtain⟨⟨s0,s1⟩,⟨l0,l1⟩,r0,r1⟩:=mayB_iff.1 hm;omega
theorem qdo{s l r:Int}(hm:mayB s l r=true):totN s l r=16+40*l+72*s/\128<=totN s l r/\totN s l r<=1328:=by
 have:=qcc hm
 have e:totN s l r=16+40*l+72*s:=if_pos hm;omega
theorem qab7{s l r:Int}(hm:mayB s l r=true):cntN s l r<18446744073709551616:=by have:=qcc hm;unfold cntN;omega
theorem q7q{s l r:Int}(hm:mayB s l r=true):cntS (cntN s l r)=s/\cntL (cntN s l r)=l/\cntR (cntN s l r)=r:=by
 have:=qcc hm
 have e:cntN s l r/281474976710656=0:=by unfold cntN;omega
 unfold cntS cntL cntR;rw[if_pos e,if_pos e,if_pos e];unfold cntN;omega
theorem qco(s l r:Int):(supL s l r).length=8:=rfl
theorem qr1{s l r:Int}(hm:mayB s l r=true):∀b∈sevL s l r,b<18446744073709551616:=by
 have h1:=qab7 hm;have h2:=qdo hm;intro b hb;simp only[sevL,wbg,wgz,or_false] at hb;omega
theorem qacc{s l r:Int}(hm:mayB s l r=true):∀b∈supL s l r,b<18446744073709551616:=by
 intro b hb;rcases wa6.1 hb with h|h
 ·exact qr1 hm b h
 ·rw[wbx] at h;rw[h];exact q5w _
def Hit(ws:List Nat)(s l r:Int):Prop:=mayB s l r=true/\(ws.length:Int)=totN s l r/\ws.take 8=supL s l r
theorem Hit.third{ws:List Nat}{s l r:Int}(h:ws.take 8=supL s l r):ws.getD 2 0=cntN s l r:=by
 have e:(ws.take 8)[2]? =some (cntN s l r):=by rw[h];rfl
 rw[wbh] at e;simp at e
 simp[e]
theorem Hit.geo{ws:List Nat}{s l r:Int}(hm:mayB s l r=true)(h:ws.take 8=supL s l r):cntS (ws.getD 2 0)=s/\cntL (ws.getD 2 0)=l/\cntR (ws.getD 2 0)=r:=by
 rw[Hit.third h];exact q7q hm
theorem Hit.one{ws:List Nat}{s l r s' l' r':Int}(h:Hit ws s l r)(h':Hit ws s' l' r'):s'=s/\l'=l/\r'=r:=by
 obtain⟨a,b,c⟩:=Hit.geo h.1 h.2.2;obtain⟨a',b',c'⟩:=Hit.geo h'.1 h'.2.2;exact⟨a'.symm.trans a,b'.symm.trans b,c'.symm.trans c⟩
def SupE(ws:List Nat)(e:Ending):Prop:=(∃s l r,Hit ws s l r/\e= .returned (.tuple #[.agg #[.int .i64 s,.int .i64 l,.int .i64 r],.int .i64 0]))\/((∀s l r,¬Hit ws s l r)/\e= .returned (.tuple #[.agg #[.int .i64 0,.int .i64 0,.int .i64 0],.int .i64 11]))
def RSupE(ws:List Nat)(e:Ending):Prop:=(∃s l r,Hit ws s l r/\e= .returned (.tuple #[.agg #[.int .i64 s,.int .i64 l,.int .i64 r],.bool true]))\/((∀s l r,¬Hit ws s l r)/\e= .returned (.tuple #[.agg #[.int .i64 0,.int .i64 0,.int .i64 0],.bool false]))
theorem SupE.is{ws:List Nat}{e:Ending}{s l r:Int}(h:SupE ws e)(hh:Hit ws s l r):e= .returned (.tuple #[.agg #[.int .i64 s,.int .i64 l,.int .i64 r],.int .i64 0]):=by
 rcases h with ⟨s',l',r',h',rfl⟩|⟨h',_⟩
 ·obtain⟨rfl,rfl,rfl⟩:=hh.one h';rfl
 ·exact absurd hh (h' s l r)
theorem SupE.no{ws:List Nat}{e:Ending}(h:SupE ws e)(hh:∀s l r,¬Hit ws s l r):e= .returned (.tuple #[.agg #[.int .i64 0,.int .i64 0,.int .i64 0],.int .i64 11]):=by
 rcases h with ⟨s',l',r',h',rfl⟩|⟨_,h'⟩
 ·exact absurd h' (hh s' l' r')
 ·exact h'
theorem RSupE.is{ws:List Nat}{e:Ending}{s l r:Int}(h:RSupE ws e)(hh:Hit ws s l r):e= .returned (.tuple #[.agg #[.int .i64 s,.int .i64 l,.int .i64 r],.bool true]):=by
 rcases h with ⟨s',l',r',h',rfl⟩|⟨h',_⟩
 ·obtain⟨rfl,rfl,rfl⟩:=hh.one h';rfl
 ·exact absurd hh (h' s l r)
theorem RSupE.no{ws:List Nat}{e:Ending}(h:RSupE ws e)(hh:∀s l r,¬Hit ws s l r):e= .returned (.tuple #[.agg #[.int .i64 0,.int .i64 0,.int .i64 0],.bool false]):=by
 rcases h with ⟨s',l',r',h',rfl⟩|⟨_,h'⟩
 ·exact absurd h' (hh s' l' r')
 ·exact h'
theorem q7u{ws:List Nat}(h:ws.length<128):∀s l r,¬Hit ws s l r:=λs l r hh=>by have:=qdo hh.1;have:=hh.2.1;omega
theorem qacf{ws:List Nat}(h:mayB (cntS (ws.getD 2 0)) (cntL (ws.getD 2 0)) (cntR (ws.getD 2 0))=false):∀s l r,¬Hit ws s l r:=λs l r hh=>by
 obtain⟨a,b,c⟩:=Hit.geo hh.1 hh.2.2;rw[a,b,c,hh.1] at h;cases h
theorem q6d{ws:List Nat}(h:ws.take 8≠supL (cntS (ws.getD 2 0)) (cntL (ws.getD 2 0)) (cntR (ws.getD 2 0))):∀s l r,¬Hit ws s l r:=λs l r hh=>by
 obtain⟨a,b,c⟩:=Hit.geo hh.1 hh.2.2;rw[a,b,c] at h;exact h hh.2.2
theorem q85{ws:List Nat}(h:(ws.length:Int)≠totN (cntS (ws.getD 2 0)) (cntL (ws.getD 2 0)) (cntR (ws.getD 2 0))):∀s l r,¬Hit ws s l r:=λs l r hh=>by
 obtain⟨a,b,c⟩:=Hit.geo hh.1 hh.2.2;rw[a,b,c] at h;exact h hh.2.1
def qav(k c n:Int):Bool:=decide ((k=0/\c=0/\n=0)\/(k=1/\0<=c/\c<=3/\n=0)\/(k=2/\c=4/\1<=n/\n<=4)\/(k=3/\c=4/\1<=n/\n<=3))
theorem hmay_iff{k c n:Int}:qav k c n=true↔(k=0/\c=0/\n=0)\/(k=1/\0<=c/\c<=3/\n=0)\/(k=2/\c=4/\1<=n/\n<=4)\/(k=3/\c=4/\1<=n/\n<=3):=by simp[qav]
theorem qd6{k c n:Int}(h:qav k c n=true):0<=k/\k<=3/\0<=c/\c<=4/\0<=n/\n<=4:=by
 have:=hmay_iff.1 h
 omega
def qeg(k c n:Int):Nat:=(k+4*c+32*n).toNat
def qce(k c n:Int):Nat:=if k=0 then 0 else qeg k c n+4294967296*crcW [qeg k c n]
theorem qjh(c n:Int):qce 0 c n=0:=rfl
theorem qgq{k:Int}(h:k≠0)(c n:Int):qce k c n=qeg k c n+4294967296*crcW [qeg k c n]:=if_neg h
theorem qv9{k c n:Int}(h:qav k c n=true):qeg k c n<256:=by
 have:=qd6 h
 unfold qeg;omega
theorem q8q{k c n:Int}(h:qav k c n=true):qce k c n<18446744073709551616:=by
 by_cases hk:k=0
 ·subst hk;rw[qjh];omega
 ·rw[qgq hk]
  have:=qv9 h
  have:=qf0 [qeg k c n]
  omega
theorem qms{k c n:Int}(h:qav k c n=true):((qce k c n%4:Nat):Int)=k/\((qce k c n/4%8:Nat):Int)=c/\((qce k c n/32%8:Nat):Int)=n:=by
 by_cases hk:k=0
 ·subst hk
  rw[qjh];have:=hmay_iff.1 h
  omega
 ·rw[qgq hk]
  have h1:=qv9 h;have h2:=qd6 h;have h3:(qeg k c n:Int)=k+4*c+32*n:=by unfold qeg;omega
  generalize crcW [qeg k c n]=s;generalize qeg k c n=x at h1 h3;omega
theorem q05{a b c s:Nat}(ha:a<4)(hb:b<8)(hc:c<8)(hs:s<4294967296):qda 0 0 [2,3,3,24,32] [a,b,c,0,s]=some (a+4*b+32*c+4294967296*s):=by
 have e1:=qbw (x:=0) (a:=0) (ws:=[3,3,24,32]) (vs:=[b,c,0,s]) (k:=2) (qb7 Zo Zo) (show a<2 ^ 2 from ha);rw[qcv Zo Zo ha] at e1;have e2:=qbw (x:=0+a*2 ^ 0) (a:=0+2) (ws:=[3,24,32]) (vs:=[c,0,s]) (k:=3) (qb7 Zo Zo) (show b<2 ^ 3 from hb);rw[qcv Zo Zo hb] at e2;have e3:=qbw (x:=0+a*2 ^ 0+b*2 ^ (0+2)) (a:=0+2+3) (ws:=[24,32]) (vs:=[0,s]) (k:=3) (qb7 Zo Zo) (show c<2 ^ 3 from hc);rw[qcv Zo Zo hc] at e3;have e4:=qbw (x:=0+a*2 ^ 0+b*2 ^ (0+2)+c*2 ^ (0+2+3)) (a:=0+2+3+3) (ws:=[32]) (vs:=[s]) (k:=24) (qb7 Zo Zo) (show 0<2 ^ 24 by decide);rw[qcv Zo Zo Zd] at e4;have e5:=qbw (x:=0+a*2 ^ 0+b*2 ^ (0+2)+c*2 ^ (0+2+3)+0*2 ^ (0+2+3+3)) (a:=0+2+3+3+24) (ws:=[]) (vs:=[]) (k:=32) (qb7 Zo Zo) (show s<2 ^ 32 from hs);rw[qcv Zo Zo hs] at e5;refine e1.trans (e2.trans (e3.trans (e4.trans (e5.trans ?_))));show some _=some _
 congr 1
 omega
theorem q8l:endL 0 [2,3,3,24,32]=some 64:=by decide
theorem qxv{x:Nat}(h:x<18446744073709551616):qdg x [2,3,3,24,32]=some [x%4,x/4%8,x/32%8,x/256%16777216,x/4294967296%4294967296]:=by
 rw[qff q8l (wgx h)];simp[qd4,getN]
def HHit(x:Nat)(k c n:Int):Prop:=qav k c n=true/\qce k c n=x
theorem HHit.told{x:Nat}{k c n:Int}(h:HHit x k c n):((x%4:Nat):Int)=k/\((x/4%8:Nat):Int)=c/\((x/32%8:Nat):Int)=n:=by
 rw[<-h.2];exact qms h.1
theorem HHit.one{x:Nat}{k c n k' c' n':Int}(h:HHit x k c n)(h':HHit x k' c' n'):k'=k/\c'=c/\n'=n:=by
 obtain⟨a,b,d⟩:=h.told;obtain⟨a',b',d'⟩:=h'.told;exact⟨a'.symm.trans a,b'.symm.trans b,d'.symm.trans d⟩
theorem HHit.no{x:Nat}(h:¬HHit x ((x%4:Nat):Int) ((x/4%8:Nat):Int) ((x/32%8:Nat):Int)):∀k c n,¬HHit x k c n:=λk c n hh=>by
 obtain⟨a,b,d⟩:=hh.told;rw[a,b,d] at h;exact h hh
def HeadE(x:Nat)(e:Ending):Prop:=(∃k c n,HHit x k c n/\e= .returned (.tuple #[.agg #[.int .i64 k,.int .i64 c,.int .i64 n],.int .i64 0]))\/((∀k c n,¬HHit x k c n)/\e= .returned (.tuple #[.agg #[.int .i64 0,.int .i64 0,.int .i64 0],.int .i64 11]))
def RHeadE(x:Nat)(e:Ending):Prop:=(∃k c n,HHit x k c n/\e= .returned (.tuple #[.agg #[.int .i64 k,.int .i64 c,.int .i64 n],.bool true]))\/((∀k c n,¬HHit x k c n)/\e= .returned (.tuple #[.agg #[.int .i64 0,.int .i64 0,.int .i64 0],.bool false]))
theorem HeadE.is{x:Nat}{e:Ending}{k c n:Int}(h:HeadE x e)(hh:HHit x k c n):e= .returned (.tuple #[.agg #[.int .i64 k,.int .i64 c,.int .i64 n],.int .i64 0]):=by
 rcases h with ⟨k',c',n',h',rfl⟩|⟨h',_⟩
 ·obtain⟨rfl,rfl,rfl⟩:=hh.one h';rfl
 ·exact absurd hh (h' k c n)
theorem HeadE.isno{x:Nat}{e:Ending}(h:HeadE x e)(hh:∀k c n,¬HHit x k c n):e= .returned (.tuple #[.agg #[.int .i64 0,.int .i64 0,.int .i64 0],.int .i64 11]):=by
 rcases h with ⟨k',c',n',h',rfl⟩|⟨_,h'⟩
 ·exact absurd h' (hh k' c' n')
 ·exact h'
theorem RHeadE.is{x:Nat}{e:Ending}{k c n:Int}(h:RHeadE x e)(hh:HHit x k c n):e= .returned (.tuple #[.agg #[.int .i64 k,.int .i64 c,.int .i64 n],.bool true]):=by
 rcases h with ⟨k',c',n',h',rfl⟩|⟨h',_⟩
 ·obtain⟨rfl,rfl,rfl⟩:=hh.one h';rfl
 ·exact absurd hh (h' k c n)
theorem RHeadE.isno{x:Nat}{e:Ending}(h:RHeadE x e)(hh:∀k c n,¬HHit x k c n):e= .returned (.tuple #[.agg #[.int .i64 0,.int .i64 0,.int .i64 0],.bool false]):=by
 rcases h with ⟨k',c',n',h',rfl⟩|⟨_,h'⟩
 ·exact absurd h' (hh k' c' n')
 ·exact h'
end Go.Proofs.YtocncmbeinmiaaaGreat
