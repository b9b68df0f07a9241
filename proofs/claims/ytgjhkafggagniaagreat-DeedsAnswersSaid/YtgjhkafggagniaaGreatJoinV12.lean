/- Parts. No condition. -/
import Derived.WalkMore
import Derived.Test.YtgjhkafggagniaaGreatJoinV11
set_option linter.unusedVariables false
set_option maxRecDepth 100000
set_option maxHeartbeats 8000000
namespace Go.Proofs.YtgjhkafggagniaaGreat
open Go Go.RowKit
def totN(s l r:Int):Int:=if mayB s l r=true then 16+40*l+72*s else 0
def qco(s l r i:Int):Int:=if mayB s l r=true/\0<=i/\i<r then 8+i else -1
def qa3(s l r i:Int):Int:=if mayB s l r=true/\0<=i/\i<l then 16+40*i else -1
def headN(s l r i:Int):Int:=if mayB s l r=true/\0<=i/\i<s then 16+40*l+8*i else -1
def qci(s l r i:Int):Int:=if mayB s l r=true/\0<=i/\i<s then 16+40*l+8*s+64*i else -1
def entN(s l r i k:Int):Int:=if mayB s l r=true/\(0<=i/\i<l)/\0<=k/\k<=15 then 16+40*i+8+2*k else -1
theorem ql6{s l r:Int}(hm:mayB s l r=true):gW s l r=arW s l r:=funext λj=>if_pos hm
theorem qyz{s l r:Int}(hm:¬mayB s l r=true):gW s l r=λ_=>0:=funext λj=>if_neg hm
theorem qiv{s l r i:Int}{k:Nat}(hm:mayB s l r=true):bgN s l r k i=if 0<=i/\i<arP s l r k then sumW (arW s l r) k+i*arE s l r k else -1:=by
 unfold bgN gP gE;rw[ql6 hm,if_pos hm,if_pos hm]
theorem qlc{s l r i:Int}{k:Nat}(hm:¬mayB s l r=true):bgN s l r k i= -1:=by
 unfold bgN gP;rw[if_neg hm];exact if_neg Zo
theorem qlt:∀n,sumW (λ_=>0) n=0
 |0=>rfl
 |n+1=>by show sumW _ n+0=0;rw[qlt n];rfl
theorem q1x(s l r:Int):sumW (gW s l r) 5=totN s l r:=by
 unfold totN;by_cases hm:mayB s l r=true
 ·rw[ql6 hm,if_pos hm];simp only[sumW,arW];omega
 ·rw[qyz hm,if_neg hm];rfl
theorem q08(s l r i:Int):bgN s l r 1 i=qco s l r i:=by
 unfold qco;by_cases hm:mayB s l r=true
 ·rw[qiv hm]
  by_cases h:0<=i/\i<arP s l r 1
  ·rw[if_pos h,if_pos ⟨hm,h⟩];simp only[sumW,arW,arE];omega
  ·rw[if_neg h,if_neg (λx=>h x.2)]
 ·rw[qlc hm,if_neg (λx=>hm x.1)]
theorem q00(s l r i:Int):bgN s l r 2 i=qa3 s l r i:=by
 unfold qa3;by_cases hm:mayB s l r=true
 ·rw[qiv hm]
  by_cases h:0<=i/\i<arP s l r 2
  ·rw[if_pos h,if_pos ⟨hm,h⟩];simp only[sumW,arW,arE];omega
  ·rw[if_neg h,if_neg (λx=>h x.2)]
 ·rw[qlc hm,if_neg (λx=>hm x.1)]
theorem qz7(s l r i:Int):bgN s l r 3 i=headN s l r i:=by
 unfold headN;by_cases hm:mayB s l r=true
 ·rw[qiv hm]
  by_cases h:0<=i/\i<arP s l r 3
  ·rw[if_pos h,if_pos ⟨hm,h⟩];simp only[sumW,arW,arE];omega
  ·rw[if_neg h,if_neg (λx=>h x.2)]
 ·rw[qlc hm,if_neg (λx=>hm x.1)]
theorem q06(s l r i:Int):bgN s l r 4 i=qci s l r i:=by
 unfold qci;by_cases hm:mayB s l r=true
 ·rw[qiv hm]
  by_cases h:0<=i/\i<arP s l r 4
  ·rw[if_pos h,if_pos ⟨hm,h⟩];simp only[sumW,arW,arE];omega
  ·rw[if_neg h,if_neg (λx=>h x.2)]
 ·rw[qlc hm,if_neg (λx=>hm x.1)]
theorem qm3(s l r i:Int)(w:World):Calls Tryz.prog 28 #[.agg #[.int .i64 s,.int .i64 l,.int .i64 r],.int .i64 i] w λe w'=>e= .returned (.int .i64 (qco s l r i))/\Below w.heap.size w w':=by
 have hb:=λW=>qe8 s l r i 1 W Zo
 rw[q08] at hb;go_enter Tryz.func28,Tryz.ntmps28;go_wp2_with fail;refine(hb _).mono ?_;rintro e w1 ⟨rfl,hB⟩;go_wp2_with fail;go_ret;exact⟨rfl,((wai _ w).alloc (wah _) _).trans (hB.mono Zs)⟩
theorem qez(s l r i:Int)(w:World):Calls Tryz.prog 127 #[.agg #[.int .i64 s,.int .i64 l,.int .i64 r],.int .i64 i] w λe w'=>e= .returned (.int .i64 (qa3 s l r i))/\Below w.heap.size w w':=by
 have hb:=λW=>qe8 s l r i 2 W Zo
 rw[q00] at hb;go_enter Tryz.func127,Tryz.ntmps127;go_wp2_with fail;refine(hb _).mono ?_;rintro e w1 ⟨rfl,hB⟩;go_wp2_with fail;go_ret;exact⟨rfl,((wai _ w).alloc (wah _) _).trans (hB.mono Zs)⟩
theorem qm2(s l r i:Int)(w:World):Calls Tryz.prog 142 #[.agg #[.int .i64 s,.int .i64 l,.int .i64 r],.int .i64 i] w λe w'=>e= .returned (.int .i64 (headN s l r i))/\Below w.heap.size w w':=by
 have hb:=λW=>qe8 s l r i 3 W Zo
 rw[qz7] at hb;go_enter Tryz.func142,Tryz.ntmps142;go_wp2_with fail;refine(hb _).mono ?_;rintro e w1 ⟨rfl,hB⟩;go_wp2_with fail;go_ret;exact⟨rfl,((wai _ w).alloc (wah _) _).trans (hB.mono Zs)⟩
theorem qnj(s l r i:Int)(w:World):Calls Tryz.prog 122 #[.agg #[.int .i64 s,.int .i64 l,.int .i64 r],.int .i64 i] w λe w'=>e= .returned (.int .i64 (qci s l r i))/\Below w.heap.size w w':=by
 have hb:=λW=>qe8 s l r i 4 W Zo
 rw[q06] at hb;go_enter Tryz.func122,Tryz.ntmps122;go_wp2_with fail;refine(hb _).mono ?_;rintro e w1 ⟨rfl,hB⟩;go_wp2_with fail;go_ret;exact⟨rfl,((wai _ w).alloc (wah _) _).trans (hB.mono Zs)⟩
theorem qje(s l r:Int)(w:World):Calls Tryz.prog 44 #[.agg #[.int .i64 s,.int .i64 l,.int .i64 r]] w λe w'=>e= .returned (.int .i64 (totN s l r))/\Below w.heap.size w w':=by
 cases hm:mayB s l r with
 |false=>
  have ht:totN s l r=0:=if_neg (by rw[hm];simp);rw[ht];clear ht;go_enter Tryz.func44,Tryz.ntmps44;go_wp2_with fail;refine(qh8 s l r _).mono ?_;rintro e w1 ⟨rfl,hB⟩;go_wp2_with fail;go_ret;exact⟨rfl,((wai _ w).alloc (wah _) _).trans (hB.mono Zs)⟩
 |true=>
  have ht:totN s l r=16+40*l+72*s:=if_pos hm;rw[ht];clear ht;obtain⟨⟨s0,s1⟩,⟨l0,l1⟩,r0,r1⟩:=mayB_iff.1 hm;go_enter Tryz.func44,Tryz.ntmps44;go_wp2_with fail;refine(qh8 s l r _).mono ?_;rintro e w1 ⟨rfl,hB⟩;obtain⟨hc,hf⟩:=qfk hB;go_wp2_with fail;go_ret;exact⟨rfl,((wai _ w).alloc (wah _) _).trans (hB.mono Zs)⟩
theorem qtj(s l r i k:Int)(w:World):Calls Tryz.prog 385 #[.agg #[.int .i64 s,.int .i64 l,.int .i64 r],.int .i64 i,.int .i64 k] w λe w'=>e= .returned (.int .i64 (entN s l r i k))/\Below w.heap.size w w':=by
 by_cases h:mayB s l r=true/\0<=i/\i<l
 ·have hl:qa3 s l r i=16+40*i:=if_pos h
  obtain⟨⟨s0,s1⟩,⟨l0,l1⟩,r0,r1⟩:=mayB_iff.1 h.1;obtain⟨hm,i0,i1⟩:=h;have hm':=waa hm;have hL:∀W,Calls Tryz.prog 127 #[.agg #[.int .i64 s,.int .i64 l,.int .i64 r],.int .i64 i] W λe w'=>e= .returned (.int .i64 (16+40*i))/\Below W.heap.size W w':=λW=>by
   have:=qez s l r i W
   rwa [hl] at this
  clear hm hl;by_cases h0:k<0
  ·have ht:entN s l r i k= -1:=if_neg Zo
   rw[ht];clear ht;go_enter wdy,wdz;go_wp2_with fail;refine(hL _).mono ?_;rintro e w1 ⟨rfl,hB⟩;go_wp2_with fail;go_ret;exact⟨rfl,((wai _ w).alloc (wah _) _).trans (hB.mono Zs)⟩
  ·by_cases h1:k<16
   ·have ht:entN s l r i k=16+40*i+8+2*k:=if_pos ⟨hm'.out,⟨i0,i1⟩,Zo,Zo⟩
    rw[ht];clear ht;go_enter wdy,wdz;go_wp2_with fail;refine(hL _).mono ?_;rintro e w1 ⟨rfl,hB⟩;go_wp2_with fail;go_ret;exact⟨qb2 Zo,((wai _ w).alloc (wah _) _).trans (hB.mono Zs)⟩
   ·have ht:entN s l r i k= -1:=if_neg Zo
    rw[ht];clear ht;go_enter wdy,wdz;go_wp2_with fail;refine(hL _).mono ?_;rintro e w1 ⟨rfl,hB⟩;go_wp2_with fail;go_ret;exact⟨rfl,((wai _ w).alloc (wah _) _).trans (hB.mono Zs)⟩
 ·have hl:qa3 s l r i= -1:=if_neg h
  have hL:∀W,Calls Tryz.prog 127 #[.agg #[.int .i64 s,.int .i64 l,.int .i64 r],.int .i64 i] W λe w'=>e= .returned (.int .i64 (-1))/\Below W.heap.size W w':=λW=>by
   have:=qez s l r i W
   rwa [hl] at this
  have ht:entN s l r i k= -1:=if_neg (λx=>h ⟨x.1,x.2.1⟩);rw[ht];clear ht hl h;go_enter wdy,wdz;go_wp2_with fail;refine(hL _).mono ?_;rintro e w1 ⟨rfl,hB⟩;go_wp2_with fail;go_ret;exact⟨rfl,((wai _ w).alloc (wah _) _).trans (hB.mono Zs)⟩
theorem qjk{w:World}{L:List Value}{j:Nat}{a b c:Value}(hl:L.length=15)(hj:j<5)(h0:L[j*3]? =some a)(h1:L[j*3+1]? =some b)(h2:L[j*3+2]? =some c):
  (Instr.index 200 (.agg L.toArray) (.int .i64 (j:Int))).run Tryz.prog w= .ok (.agg #[a,b,c]) w:=by
 match L,hl with
 |[x0,x1,x2,x3,x4,x5,x6,x7,x8,x9,x10,x11,x12,x13,x14],_=>
  match j,hj with
  |0,_=>
   injection h0 with h0;injection h1 with h1;injection h2 with h2;subst h0 h1 h2;show _=Result.ok (Value.agg #[_,_,_]) w
   rfl
  |1,_=>
   injection h0 with h0;injection h1 with h1;injection h2 with h2;subst h0 h1 h2;show _=Result.ok (Value.agg #[_,_,_]) w
   rfl
  |2,_=>
   injection h0 with h0;injection h1 with h1;injection h2 with h2;subst h0 h1 h2;show _=Result.ok (Value.agg #[_,_,_]) w
   rfl
  |3,_=>
   injection h0 with h0;injection h1 with h1;injection h2 with h2;subst h0 h1 h2;show _=Result.ok (Value.agg #[_,_,_]) w
   rfl
  |4,_=>
   injection h0 with h0;injection h1 with h1;injection h2 with h2;subst h0 h1 h2;show _=Result.ok (Value.agg #[_,_,_]) w
   rfl
theorem qch{ops:Array Oper}{rest:List Oper}{o:Oper}{ac:Act}{Q:Exit->Act->World->Prop}{w:World}{L:List Value}{j:Nat}{a b c:Value}(hg:o.guard=none)(u v:Operand)(hop:o.op=Op.index 200 u v)(hu:ac.eval u= .agg L.toArray)(hv:ac.eval v= .int .i64 (j:Int))(hl:L.length=15)(hj:j<5)(h0:L[j*3]? =some a)(h1:L[j*3+1]? =some b)(h2:L[j*3+2]? =some c)(hK:wpList Tryz.prog ops Q rest (ac.put o.dst (.agg #[a,b,c])) w):wpList Tryz.prog ops Q (o::rest) ac w:=by
 refine wpList_plain hg λK' hK'=>?_
 unfold Oper.wp;simp[execOp,hop,hu,hv,qjk hl hj h0 h1 h2,Result.andThen]
 exact hK' _ _ hK
def plc(s l r a:Int):Int×Int×Int:=
 if ¬(mayB s l r=true/\0<=a/\a<16+40*l+72*s) then(5,-1,0)
 else if a<8 then(0,0,a)
 else if a<8+r then(1,a - 8,0)
 else if a<16 then(1,-1,a - 8)
 else if a - 16<40*l then(2,(a - 16)/40,(a - 16)%40)
 else if a - 16 - 40*l<8*s then(3,(a - 16 - 40*l)/8,(a - 16 - 40*l)%8)
 else(4,(a - 16 - 40*l - 8*s)/64,(a - 16 - 40*l - 8*s)%64)
def plV(p:Int×Int×Int):Value:= .agg #[.int .i64 p.1,.int .i64 p.2.1,.int .i64 p.2.2]
theorem q2l(s l r:Int){k:Nat}(hk:k<5):0<=gP s l r k*gE s l r k/\gP s l r k*gE s l r k<=2000/\(0<gP s l r k*gE s l r k->0<gE s l r k/\gE s l r k<=64)/\0<=gE s l r k:=by
 unfold gP gE;by_cases hm:mayB s l r=true
 ·obtain⟨⟨s0,s1⟩,⟨l0,l1⟩,r0,r1⟩:=mayB_iff.1 hm
  rw[if_pos hm,if_pos hm];match k,hk with
  |0,_=>simp only[arP,arE];omega
  |1,_=>simp only[arP,arE];omega
  |2,_=>simp only[arP,arE];omega
  |3,_=>simp only[arP,arE];omega
  |4,_=>simp only[arP,arE];omega
 ·rw[if_neg hm,if_neg hm]
  omega
theorem q0f{s l r a:Int}(h:a<0):plc s l r a=(5,-1,0):=if_pos Zo
theorem qxw{s l r a:Int}(h:sumW (gW s l r) 5<=a):plc s l r a=(5,-1,0):=by
 rw[q1x] at h;unfold totN at h;refine if_pos λ⟨hm,h0,h1⟩=>?_
 rw[if_pos hm] at h;omega
theorem q2c{s l r a:Int}{k:Nat}(hk:k<5)(h0:sumW (gW s l r) k<=a)(h1:a - sumW (gW s l r) k<gW s l r k):
  plc s l r a=if gP s l r k*gE s l r k<=a - sumW (gW s l r) k then((k:Int),-1,a - sumW (gW s l r) k) else((k:Int),(a - sumW (gW s l r) k)/gE s l r k,(a - sumW (gW s l r) k)%gE s l r k):=by
 by_cases hm:mayB s l r=true
 ·obtain⟨⟨s0,s1⟩,⟨l0,l1⟩,r0,r1⟩:=mayB_iff.1 hm
  have e1:gE s l r k=arE s l r k:=if_pos hm;have e2:gP s l r k=arP s l r k:=if_pos hm;rw[ql6 hm] at h0 h1 ⊢;rw[e1,e2];unfold plc;match k,hk with
  |0,_=>simp only[sumW,arW,arP,arE] at*;rw[if_neg (by simp only[hm,true_and];omega),if_pos Zo,if_neg Zo];refine wbe rfl (wbe ?_ ?_)<;>simp<;>omega
  |1,_=>
   simp only[sumW,arW,arP,arE] at*;rw[if_neg (by simp only[hm,true_and];omega),if_neg Zo];by_cases c:a<8+r
   ·rw[if_pos c,if_neg Zo];refine wbe rfl (wbe ?_ ?_)<;>simp<;>omega
   ·rw[if_neg c,if_pos Zo,if_pos Zo];refine wbe rfl (wbe ?_ ?_)<;>simp<;>omega
  |2,_=>simp only[sumW,arW,arP,arE] at*;rw[if_neg (by simp only[hm,true_and];omega),if_neg Zo,if_neg Zo,if_neg Zo,if_pos Zo,if_neg Zo];refine wbe rfl (wbe ?_ ?_)<;>simp<;>omega
  |3,_=>simp only[sumW,arW,arP,arE] at*;rw[if_neg (by simp only[hm,true_and];omega),if_neg Zo,if_neg Zo,if_neg Zo,if_neg Zo,if_pos Zo,if_neg Zo];refine wbe rfl (wbe ?_ ?_)<;>simp<;>omega
  |4,_=>simp only[sumW,arW,arP,arE] at*;rw[if_neg (by simp only[hm,true_and];omega),if_neg Zo,if_neg Zo,if_neg Zo,if_neg Zo,if_neg Zo,if_neg Zo];refine wbe rfl (wbe ?_ ?_)<;>simp<;>omega
 ·rw[qyz hm] at h0 h1
  simp only[qlt] at h0 h1;omega
theorem qj3(s l r a:Int)(w:World)(a0:-9223372036854775808<=a)(a1:a<=9223372036854775807):Calls Tryz.prog 340 #[.agg #[.int .i64 s,.int .i64 l,.int .i64 r],.int .i64 a] w λe w'=>e= .returned (plV (plc s l r a))/\Below w.heap.size w w':=by
 have hgl:=qfr s l r;have hga:=qfx s l r;have hsb:=λm (hm:m<=5)=>qjn (f:=gW s l r) (n:=5) (λj hj=>(qfx s l r j hj).2.2.2) hm
 have hgl':=waa hgl;have hga':=waa hga;clear hgl hga;go_enter Tryz.func340,Tryz.ntmps340;go_wp2_with fail;go_step3
 go_wp2_with fail;go_step3
 go_wp2_with fail;refine(qem s l r _).mono ?_;rintro e w1 ⟨rfl,hB⟩;have hB1:=((((wai _ w).alloc (wah _) (.cells #[.int .i64 s,.int .i64 l,.int .i64 r] 36)).alloc Zs (.cells #[.int .i64 0,.int .i64 0,.int .i64 0] 227)).alloc Zx (.cells #[.int .i64 5,.int .i64 (-1),.int .i64 0] 227)).trans (hB.mono Zx);have hz:w.heap.size+1+1<w1.heap.size:=by have:=hB.size;simp at this;omega
 have p0:w1.cell? ⟨w.heap.size+1+1,0,none⟩=some (.int .i64 5):=(hB.cell (p:=⟨w.heap.size+1+1,0,none⟩) Zs).trans (by simp[go_sem]);have p1:w1.cell? ⟨w.heap.size+1+1,1,none⟩=some (.int .i64 (-1)):=(hB.cell (p:=⟨w.heap.size+1+1,1,none⟩) Zs).trans (by simp[go_sem]);have p2:w1.cell? ⟨w.heap.size+1+1,2,none⟩=some (.int .i64 0):=(hB.cell (p:=⟨w.heap.size+1+1,2,none⟩) Zs).trans (by simp[go_sem]);have r0:w1.cell? ⟨w.heap.size+1,0,none⟩=some (.int .i64 0):=(hB.cell (p:=⟨w.heap.size+1,0,none⟩) Zs).trans (by simp[go_sem]);have r1:w1.cell? ⟨w.heap.size+1,1,none⟩=some (.int .i64 0):=(hB.cell (p:=⟨w.heap.size+1,1,none⟩) Zs).trans (by simp[go_sem]);have r2:w1.cell? ⟨w.heap.size+1,2,none⟩=some (.int .i64 0):=(hB.cell (p:=⟨w.heap.size+1,2,none⟩) Zs).trans (by simp[go_sem]);have f0:∀o,w1.frozen? ⟨w.heap.size+1,o,none⟩=false:=λo=>(hB.frozen (p:=⟨w.heap.size+1,o,none⟩) Zs).trans (by simp[go_sem])
 have f1:∀o,w1.frozen? ⟨w.heap.size+1+1,o,none⟩=false:=λo=>(hB.frozen (p:=⟨w.heap.size+1+1,o,none⟩) Zs).trans (by simp[go_sem])
 clear hB;go_wp2_with fail;go_loopw [6,13] (λt q wr=>∃(W:World) (j:Nat) (A:Int),W=wr/\t= .int .i64 A/\q= .int .i64 (j:Int)/\j<=5/\Hid (A=sumW (gW s l r) j)/\(j=0/\A=0\/A<=a)/\0<=A/\A<=10000/\Below w1.heap.size w1 W) (λ_ q _=>5 - (intOf q).toNat)
 case atStart=>exact⟨_,0,0,rfl,rfl,rfl,Zo,waa rfl,.inl ⟨rfl,rfl⟩,Zo,Zo,wai _ _⟩
 case round=>
  obtain⟨W,j,A,rfl,rfl,rfl,hj,hA,hor,hA0,hA1,hBW⟩:=hrel;have P0:=qa8 hBW Zo p0;have P1:=qa8 hBW Zo p1;have P2:=qa8 hBW Zo p2;have R0:=qa8 hBW Zo r0;have R1:=qa8 hBW Zo r1;have R2:=qa8 hBW Zo r2;have F0:∀o,W.frozen? ⟨w.heap.size+1,o,none⟩=false:=λo=>(hBW.frozen (p:=⟨w.heap.size+1,o,none⟩) (by show w.heap.size+1<_;omega)).trans (f0 o)
  have F1:∀o,W.frozen? ⟨w.heap.size+1+1,o,none⟩=false:=λo=>(hBW.frozen (p:=⟨w.heap.size+1+1,o,none⟩) (by show w.heap.size+1+1<_;omega)).trans (f1 o)
  have hzW:w.heap.size+1+1<W.heap.size:=wak hz hBW.size;have hzW1:w.heap.size+1<W.heap.size:=Zo
  have hzn:W.heap.size≠w.heap.size+1+1:=Zo
  have hzm:W.heap.size≠w.heap.size+1:=Zo
  have hBx:=hB1.trans (hBW.mono hB1.size);clear p0 p1 p2 r0 r1 r2 f0 f1;by_cases hlt:j<5
  ·obtain⟨g0,g1,g2,g3,g4⟩:=hga'.out j hlt
   obtain⟨q0,q1,q2,q3⟩:=q2l s l r hlt;have hb0:-9223372036854775808<=a - A/\a - A<=9223372036854775807:=Zo
   obtain⟨hb1,hb2⟩:=hb0;have hin:=λ(x:sumW (gW s l r) j<=a) (y:a - sumW (gW s l r) j<gW s l r j)=>q2c hlt x y
   have hA2:A+gW s l r j<=10000:=by
    have h:=(hsb (j+1) Zo).2;have e:sumW (gW s l r) (j+1)=A+gW s l r j:=by rw[hA.out];rfl
    omega
   have z0:(0:Int)<=(j:Int):=Zo
   have z1:(j:Int)<5:=Zo
   by_cases c0:a - A<0
   ·have hp:=waa (q0f (s:=s) (l:=l) (r:=r) (a:=a) Zo)
    clear hin;go_wp2_with (first|(refine qch rfl _ _ rfl rfl rfl hgl'.out hlt g0 g1 g2 ?_))
    try rw[wbd]
    refine bodyPost_ret (v:= .agg #[.int .i64 5,.int .i64 (-1),.int .i64 0]) (by simp[results,Tryz.results340,go_sem,R0,R1,R2,hzW1]) rfl ⟨by rw[hp.out];rfl,?_⟩;repeat (first|with_reducible refine wca ?_ (by simp<;>omega) _|with_reducible refine wd1 ?_ (by simp<;>omega) _)
    with_reducible exact hBx
   ·by_cases c1:gW s l r j<=a - A
    ·go_wp2_with (first|(refine qch rfl _ _ rfl rfl rfl hgl'.out hlt g0 g1 g2 ?_))
     go_roundw
     case rel=>exact⟨_,j+1,A+gW s l r j,rfl,rfl,by go_num,Zo,waa (by rw[hA.out];rfl),.inr Zo,Zo,hA2,hBW.alloc hBW.size _⟩
     case measure=>simp[intOf];omega
    ·by_cases c2:gP s l r j*gE s l r j<=a - A
     ·have hp:=waa (hin (by rw[<-hA.out];omega) (by rw[<-hA.out];omega))
      clear hin;go_wp2_with (first|(refine qch rfl _ _ rfl rfl rfl hgl'.out hlt g0 g1 g2 ?_))
      try rw[wbd]
      refine bodyPost_ret (v:= .agg #[.int .i64 (j:Int),.int .i64 (-1),.int .i64 (a - A)]) (by simp[results,Tryz.results340,go_sem,R0,R1,R2,hzW1]) rfl ⟨by rw[hp.out,<-hA.out,if_pos c2];rfl,?_⟩;repeat (first|with_reducible refine wca ?_ (by simp<;>omega) _|with_reducible refine wd1 ?_ (by simp<;>omega) _)
      with_reducible exact hBx
     ·have hp:=waa (hin (by rw[<-hA.out];omega) (by rw[<-hA.out];omega))
      clear hin;have e0:0<gE s l r j:=(q2 Zo).1;have e1:gE s l r j≠0:=Zo
      go_wp2_with (first|(refine qch rfl _ _ rfl rfl rfl hgl'.out hlt g0 g1 g2 ?_))
      have hBV:=hBx.alloc Zo (.cells #[.int .i64 (gP s l r j),.int .i64 (gE s l r j),.int .i64 (gW s l r j)] 199);have hAl:=(wai W.heap.size W).alloc (wah _) (.cells #[.int .i64 (gP s l r j),.int .i64 (gE s l r j),.int .i64 (gW s l r j)] 199);have V1:(W.alloc (.cells #[.int .i64 (gP s l r j),.int .i64 (gE s l r j),.int .i64 (gW s l r j)] 199)).cell? ⟨W.heap.size,1,none⟩=some (.int .i64 (gE s l r j)):=by simp
      have S0:=qa8 hAl Zo P0;have S1:=qa8 hAl Zo P1;have S2:=qa8 hAl Zo P2;have T0:=qa8 hAl Zo R0;have T1:=qa8 hAl Zo R1;have T2:=qa8 hAl Zo R2;have G0:∀o,(W.alloc (.cells #[.int .i64 (gP s l r j),.int .i64 (gE s l r j),.int .i64 (gW s l r j)] 199)).frozen? ⟨w.heap.size+1,o,none⟩=false:=λo=>by simp[go_sem,F0,hzW1]
      have G1:∀o,(W.alloc (.cells #[.int .i64 (gP s l r j),.int .i64 (gE s l r j),.int .i64 (gW s l r j)] 199)).frozen? ⟨w.heap.size+1+1,o,none⟩=false:=λo=>by simp[go_sem,F1,hzW]
      generalize (W.alloc (.cells #[.int .i64 (gP s l r j),.int .i64 (gE s l r j),.int .i64 (gW s l r j)] 199))=V at hBV hAl V1 S0 S1 S2 T0 T1 T2 G0 G1 ⊢;clear P0 P1 P2 R0 R1 R2 F0 F1 hBx hBW;go_still_tail 10,Zk
      change wpList _ _ _ _ _ (World.drew _);go_wp2_with fail;try rw[wbd]
      refine bodyPost_ret (v:= .agg #[.int .i64 (j:Int),.int .i64 ((a - A)/gE s l r j),.int .i64 ((a - A)%gE s l r j)]) (by simp[results,Tryz.results340,go_sem,T0,T1,T2]) rfl ⟨by rw[hp.out,<-hA.out,if_neg Zo];rfl,?_⟩;with_reducible refine Below.drew ?_
      repeat (first|with_reducible refine wca ?_ (by simp<;>omega) _|with_reducible refine wd1 ?_ (by simp<;>omega) _)
      with_reducible exact hBV
  ·obtain rfl:j=5:=Zo
   have hp:=waa (qxw (s:=s) (l:=l) (r:=r) (a:=a) (by rw[<-hA.out];omega));go_wp2_with fail;try rw[wbd]
   refine bodyPost_ret (v:= .agg #[.int .i64 5,.int .i64 (-1),.int .i64 0]) (by simp[results,Tryz.results340,go_sem,R0,R1,R2]) rfl ⟨by rw[hp.out];rfl,?_⟩;repeat (first|with_reducible refine wca ?_ (by simp<;>omega) _|with_reducible refine wd1 ?_ (by simp<;>omega) _)
   with_reducible exact hBx
theorem qx0(l:List Nat)(a b:Nat):u64V (l++[a,b])=u64V l++[.int .u64 (a:Int),.int .u64 (b:Int)]:=by simp[u64V]
theorem qgl(A:Option Addr)(cap:Nat)(l:List (Int×Nat))(w:World)(h:EsRd w A l.length l)(hlog:logB l=true)(hx:∀e∈l,e.2<18446744073709551616):
  Calls Tryz.prog 388 #[.slice A l.length cap] w λe w'=>∃v,e= .returned v/\w'.ownsRow w.heap.size 40 1 v (2*l.length) (u64V (qa2 0 l))/\Below w.heap.size w w':=by
 obtain⟨h1,h2,h3⟩:=logB_iff.1 hlog;have hall:=waa h3;have hx':=waa hx;clear h3 hlog hx;obtain⟨i0,ii,iz0,iz1,iz2⟩:=info_parts qe1;go_enter Tryz.func388,Tryz.ntmps388;go_wp2_with fail;go_loopw [3,10] (λv k wr=>∃(W:World) (j:Nat) (out:List Nat),W=wr/\k= .int .i64 (j:Int)/\j<=l.length/\Hid (out++qa2 j (l.drop j)=qa2 0 l)/\W.ownsRow w.heap.size 40 1 v (2*j) (u64V out)/\Below w.heap.size w W) (λ_ k _=>l.length - (intOf k).toNat)
 case atStart=>exact⟨_,0,[],rfl,rfl,wat _,waa rfl,wbx _ _ _ _,wai _ _⟩
 case round=>
  obtain⟨W,j,out,rfl,rfl,hj,ho,hrow,hB⟩:=hrel;by_cases hlt:j<l.length
  ·obtain⟨p,a,x,rfl,hd,hmem,c0,c1⟩:=(h.below hB).at_ hlt
   have hab:=entB_iff.1 (wb0.1 hall.out _ hmem);have hxb:x<18446744073709551616:=hx'.out _ hmem;obtain⟨a0,a1⟩:0<=a/\a<=16383:=hab;obtain⟨n,rfl⟩:=waq a0;have ho2:Hid ((out++[n+4294967296*j,x])++qa2 (j+1) (l.drop (j+1))=qa2 0 l):=waa (by have:=qqx ho.out hd rfl;simpa using this);have hj2:=qxt (a:=n) (b:=j) Zo Zo;have hjn:∀(A0 A1:Option Addr) (V:World),Rd V A0 2 (i64V [32,32])->Rd V A1 2 (u64V [n,j])->Calls Tryz.prog 180 #[.slice A0 2 2,.slice A1 2 2] V λe w'=>e= .returned (.tuple #[.int .u64 ((n+4294967296*j:Nat):Int),.bool true])/\Below V.heap.size V w':=λA0 A1 V g0 g1=>by
    have h:=qh7 A0 A1 2 2 [32,32] [n,j] V g0 g1 Zd Zs Zd (by intro x hx;simp at hx;omega);rw[hj2] at h;exact h
   have hjn':=waa hjn;have k0:IntKind.u64.wrap (n:Int)=(n:Int):=by rw[wa4];omega
   have k1:IntKind.u64.wrap (j:Int)=(j:Int):=by rw[wa4];omega
   clear hd ho hjn hj2 hmem;generalize n+4294967296*j=y at ho2 hjn' ⊢;have hB1:=hB.alloc hB.size (.cells #[.int .i64 (n:Int),.int .u64 (x:Int)] 169);have hg:=En.new W (n:Int) x;have ho1:=hrow.alloc (.cells #[.int .i64 (n:Int),.int .u64 (x:Int)] 169);go_wp2_with fail;generalize (W.alloc (.cells #[.int .i64 (n:Int),.int .u64 (x:Int)] 169))=W1 at hB1 hg ho1 ⊢;obtain⟨x0,x1,x2⟩:=hg.drew.cells;have hl1:=hg.lt;obtain⟨d0,d1,d2⟩:=hg.cells;go_region_held3 (λV=>V.cell? ⟨W.heap.size,0,none⟩=some (.int .i64 (n:Int)))
    (first|with_reducible exact x0|go_keep|with_reducible exact y0)
    (first
     |(go_at_call 392;refine(qoc _).mono ?_;rintro e w' ⟨rfl,rfl⟩)
     |(go_at_call 180
       first
        |refine(hjn'.out _ _ _ (qb9 (qd7 (qb3 Zr Zr Zs) _)) (qb9 (qb3 Zr Zr Zs))).mono ?_
        |refine(hjn'.out _ _ _ (qb9 (qb3 Zr Zr Zs)) (qb9 (qd7 (qb3 Zr Zr Zs) _))).mono ?_
       rintro e w3 ⟨rfl,hC⟩;have hBx:=(((wai W1.heap.size W1).alloc Zs _).alloc Zs _).drew.trans (hC.mono (by simp<;>omega));have hg3:=hg.below hBx hg.lt;obtain⟨y0,y1,y2⟩:=hg3.cells;have hB3:=hB1.trans (hBx.mono hB1.size);have ho3:=qa1 ho1 hBx))
   all_goals
    have hs3:=hB3.size;go_wp2_with (at_builtin;go_loud (refine wpList_append_own _ rfl _ _ 22 rfl w.heap.size 40 i0 (.int .u64 0) 1 8 wbq ii iz0 iz1 iz2 rfl Zd _ _ _ rfl (ho3.alloc _) ⟨w3.heap.size,0,none⟩ 2 2 [.int .u64 (y:Int),.int .u64 (x:Int)] rfl rfl (qdj rfl _ rfl _) (by simp[Value.oneCell']) (by simp only[maxLen];omega) Zo Zx ?_);intro v' w4 hown' hgrow _;have hB4:=((hB3.alloc hs3 (.cells #[.int .u64 (y:Int),.int .u64 (x:Int)] 40)).grown hgrow Zx (qbv ho3)))
    go_roundw
    case rel=>exact⟨_,j+1,_,rfl,by go_num,Zo,ho2,by rw[qx0];exact hown',hB4⟩
    case measure=>simp[intOf];omega
  ·obtain rfl:j=l.length:=Zo
   have ho2:Hid (out=qa2 0 l):=waa (by have:=ho.out;rw[List.drop_length,qa2,wba] at this;exact this);clear ho;go_wp2_with fail;go_ret;exact⟨_,rfl,by rw[<-ho2.out];exact hrow,hB⟩
theorem qw9{l:List (Int×Nat)}(h:logB l=true):logW l=qa2 0 l:=if_pos h
theorem q1g{l:List (Int×Nat)}(h:logB l=false):logW l=[]:=if_neg (by rw[h];decide)
theorem qu9{l:List (Int×Nat)}(h:logB l=true):qc5 l=qc7 (qa2 0 l):=if_pos h
theorem qw3{l:List (Int×Nat)}(h:logB l=false):qc5 l=0:=if_neg (by rw[h];decide)
theorem qin(A:Option Addr)(cap:Nat)(l:List (Int×Nat))(w:World)(h:EsRd w A l.length l)(hm:l.length<=9223372036854775807)(hx:∀e∈l,e.2<18446744073709551616):
  Calls Tryz.prog 383 #[.slice A l.length cap] w λe w'=>∃v,e= .returned v/\w'.ownsRow w.heap.size 40 1 v (logW l).length (u64V (logW l))/\Below w.heap.size w w':=by
 have hmay:=qll A cap l w h hm;cases hb:logB l with
 |true=>
  rw[hb] at hmay;rw[qw9 hb,qic];have hmay':=waa hmay;have ht:=waa (λ(V:World) (hV:Below w.heap.size w V)=>qgl A cap l V (h.below hV) hb hx);clear hmay hb hx;go_enter Tryz.func383,Tryz.ntmps383;go_wp2_with fail;refine hmay'.out.mono ?_;rintro e w1 ⟨rfl,hB⟩;go_wp2_with fail;refine(ht.out w1 hB).mono ?_;rintro e w2 ⟨v,rfl,hrow,hC⟩;go_wp2_with fail;go_ret;exact⟨v,rfl,qbb hrow hB.size,hB.trans (hC.mono hB.size)⟩
 |false=>
  rw[hb] at hmay;rw[q1g hb];have hmay':=waa hmay;clear hmay hb hx;go_enter Tryz.func383,Tryz.ntmps383;go_wp2_with fail;refine hmay'.out.mono ?_;rintro e w1 ⟨rfl,hB⟩;go_wp2_with fail;go_ret;exact⟨_,rfl,wbx _ _ _ _,hB⟩
theorem qpq{A:Option Addr}{c n:Nat}{l:List Nat}{w:World}(hr:Rd w A n (u64V l))(hn:Keep (l.length=n))(hm:n<=300)(hl:Keep (∀b∈l,b<18446744073709551616)):
  Calls Tryz.prog 140 #[.slice A n c] w λe w'=>e= .returned (.int .u64 (qc7 l:Nat))/\w=w':=by
 have e1:=hn.out;subst e1;exact qqe A c l w hr Zo hl.out
theorem qut(A:Option Addr)(cap:Nat)(l:List (Int×Nat))(w:World)(h:EsRd w A l.length l)(hm:l.length<=9223372036854775807)(hx:∀e∈l,e.2<18446744073709551616):
  Calls Tryz.prog 364 #[.slice A l.length cap] w λe w'=>e= .returned (.int .u64 ((qc5 l:Nat):Int))/\Below w.heap.size w w':=by
 have hmay:=qll A cap l w h hm;cases hb:logB l with
 |true=>
  rw[hb] at hmay;rw[qu9 hb];obtain⟨h1,h2,h3⟩:=logB_iff.1 hb;have hmay':=waa hmay;have ht:=waa (λ(V:World) (hV:Below w.heap.size w V)=>qgl A cap l V (h.below hV) hb hx);have hs:=waa (λ(V:World) (B:Option Addr) (c:Nat) (hR:Rd V B (2*l.length) (u64V (qa2 0 l)))=>qpq (c:=c) hR (keep (qic 0 l)) Zo (keep (qxa (k:=0) h3 hx Zo)));clear hmay hb hx h1 h2 h3;generalize qc7 (qa2 0 l)=s at hs ⊢;go_enter Tryz.func364,Tryz.ntmps364;go_wp2_with fail;refine hmay'.out.mono ?_;rintro e w1 ⟨rfl,hB⟩;go_wp2_with fail;refine(ht.out w1 hB).mono ?_;rintro e w2 ⟨v,rfl,hrow,hC⟩;obtain⟨B,c,rfl,hR⟩:=Rd.of_own hrow;go_wp2_with fail;refine(hs.out w2 B c hR).mono ?_;rintro e w3 ⟨rfl,rfl⟩;go_wp2_with fail;go_ret;exact⟨rfl,hB.trans (hC.mono hB.size)⟩
 |false=>
  rw[hb] at hmay;rw[qw3 hb];have hmay':=waa hmay;clear hmay hb hx;go_enter Tryz.func364,Tryz.ntmps364;go_wp2_with fail;refine hmay'.out.mono ?_;rintro e w1 ⟨rfl,hB⟩;go_wp2_with fail;go_ret;exact⟨rfl,hB⟩
end Go.Proofs.YtgjhkafggagniaaGreat
