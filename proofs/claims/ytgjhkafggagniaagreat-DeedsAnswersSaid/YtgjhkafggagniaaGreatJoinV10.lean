/- Parts. No condition. -/
import Derived.Test.YtgjhkafggagniaaGreatJoinV09
set_option linter.unusedVariables false
set_option maxRecDepth 100000
set_option maxHeartbeats 8000000
namespace Go.Proofs.YtgjhkafggagniaaGreat
open Go Go.RowKit
theorem qas(w:World)(k c n:Int):Below w.heap.size w (w.alloc (.cells #[.int .i64 k,.int .i64 c,.int .i64 n] 134)):=(wai _ w).alloc (wah _) _
theorem qnx(w:World):Calls Tryz.prog 181 #[] w λe w'=>e= .returned (.slice (some ⟨w.heap.size,0,none⟩) 5 5)/\w.alloc (.cells #[.int .i64 2,.int .i64 3,.int .i64 3,.int .i64 24,.int .i64 32] 3)=w':=by
 go_enter Tryz.func181,Tryz.ntmps181;go_wp2
 go_ret;exact⟨rfl,rfl⟩
theorem qj4(m:Int)(w:World):
  Calls Tryz.prog 244 #[.int .i64 m] w λe w'=>e= .returned (.func (.func 292) #[] #[.pointer (some ⟨w.heap.size,0,none⟩)])/\w.alloc (.cells #[.int .i64 m] 3)=w':=by
 have hmf:∀(fn:Fn) (first cap:Array Value) (w:World),(Instr.makeFunc fn first cap).run Tryz.prog w= .ok (.func fn first cap) w:=λ_ _ _ _=>rfl
 go_enter Tryz.func244,Tryz.ntmps244;go_wp2
 go_ret;exact⟨rfl,rfl⟩
theorem qqw(c n:Int)(w:World):Calls Tryz.prog 242 #[.agg #[.int .i64 0,.int .i64 c,.int .i64 n]] w λe w'=>e= .returned (.bool (qav 0 c n))/\Below w.heap.size w w':=by
 by_cases h1:c=0
 ·by_cases h2:n=0
  ·subst h1 h2
   have hm:=waa (show qav 0 0 0=true by decide);go_enter Tryz.func242,Tryz.ntmps242;go_wp2
   go_ret;exact⟨qae (by rw[hm.out]),qas _ _ _ _⟩
  ·subst h1
   have h3:¬0=n:=λe=>h2 e.symm
   have hm:=waa (show qav 0 0 n=false by rw[<-wby,hmay_iff];omega);go_enter Tryz.func242,Tryz.ntmps242;go_wp2
   go_ret;exact⟨qae (by rw[hm.out]),qas _ _ _ _⟩
 ·have h3:¬0=c:=λe=>h1 e.symm
  have hm:=waa (show qav 0 c n=false by rw[<-wby,hmay_iff];omega);go_enter Tryz.func242,Tryz.ntmps242;go_wp2
  go_ret;exact⟨qae (by rw[hm.out]),qas _ _ _ _⟩
theorem qrh(c n:Int)(w:World):Calls Tryz.prog 243 #[.agg #[.int .i64 1,.int .i64 c,.int .i64 n]] w λe w'=>e= .returned (.bool (qav 1 c n))/\Below w.heap.size w w':=by
 by_cases h1:0<=c
 ·by_cases h2:c<4
  ·by_cases h3:n=0
   ·subst h3
    have hm:=waa (show qav 1 c 0=true by rw[hmay_iff];omega);go_enter wdu,wdv;go_wp2
    go_ret;exact⟨qae (by rw[hm.out]),qas _ _ _ _⟩
   ·have h4:(n==0)=false:=beq_eq_false_iff_ne.2 h3
    have hm:=waa (show qav 1 c n=false by rw[<-wby,hmay_iff];omega);clear h3;go_enter wdu,wdv;go_wp2
    go_ret;exact⟨qae (by rw[hm.out]),qas _ _ _ _⟩
  ·have hm:=waa (show qav 1 c n=false by rw[<-wby,hmay_iff];omega)
   go_enter wdu,wdv;go_wp2
   go_ret;exact⟨qae (by rw[hm.out]),qas _ _ _ _⟩
 ·have hm:=waa (show qav 1 c n=false by rw[<-wby,hmay_iff];omega)
  go_enter wdu,wdv;go_wp2
  go_ret;exact⟨qae (by rw[hm.out]),qas _ _ _ _⟩
def qf1(m c n:Int):Bool:=decide (c=4/\1<=n/\n<=m)
theorem qiw(m:Int)(g:Nat)(k c n:Int)(w:World)(hb:Boxed w g 3 (.int .i64 m)):
  Calls Tryz.prog 292 #[.agg #[.int .i64 k,.int .i64 c,.int .i64 n],.pointer (some ⟨g,0,none⟩)] w λe w'=>e= .returned (.bool (qf1 m c n))/\Below w.heap.size w w':=by
 have hc0:=hb.cell;have hl0:=hb.lt;have hw:=waa (show qf1 m c n=decide (c=4/\1<=n/\n<=m) from rfl);generalize qf1 m c n=d at hw ⊢;by_cases h1:c=4
 ·by_cases h2:1<=n
  ·by_cases h3:n<=m
   ·have hw2:=waa (show d=true by rw[hw.out];exact decide_eq_true ⟨h1,h2,h3⟩)
    subst h1;go_enter wdw,wdx;go_wp2
    go_ret;exact⟨qae (by rw[hw2.out]),qas _ _ _ _⟩
   ·have hw2:=waa (show d=false by rw[hw.out];exact decide_eq_false Zo)
    subst h1;go_enter wdw,wdx;go_wp2
    go_ret;exact⟨qae (by rw[hw2.out]),qas _ _ _ _⟩
  ·have hw2:=waa (show d=false by rw[hw.out];exact decide_eq_false Zo)
   subst h1;go_enter wdw,wdx;go_wp2
   go_ret;exact⟨qae (by rw[hw2.out]),qas _ _ _ _⟩
 ·have hw2:=waa (show d=false by rw[hw.out];exact decide_eq_false Zo)
  have h4:(c==4)=false:=beq_eq_false_iff_ne.2 h1;clear h1;go_enter wdw,wdx;go_wp2
  go_ret;exact⟨qae (by rw[hw2.out]),qas _ _ _ _⟩
def qbu(a b:Nat):List Value:=[.func (.func 242) #[] #[],.func (.func 243) #[] #[],.func (.func 292) #[] #[.pointer (some ⟨a,0,none⟩)],.func (.func 292) #[] #[.pointer (some ⟨b,0,none⟩)]]
theorem qu5(a b:Nat):(qbu a b).toArray.all (·.oneCell')=true:=all_oneCell_toArray (by simp[qbu,Value.oneCell'])
theorem qof:(Tryz.prog.info? 277).map (·.size)=some 4:=by kernel_rfl
theorem qn1{V:World}{b x y:Nat}(h:V.rangeAt b 0 (qbu x y)):V.cell? ⟨b,0,none⟩=some (.func (.func 242) #[] #[])/\V.cell? ⟨b,1,none⟩=some (.func (.func 243) #[] #[])/\V.cell? ⟨b,2,none⟩=some (.func (.func 292) #[] #[.pointer (some ⟨x,0,none⟩)])/\V.cell? ⟨b,3,none⟩=some (.func (.func 292) #[] #[.pointer (some ⟨y,0,none⟩)]):=
 ⟨h 0 _ rfl,by simpa using h 1 _ rfl,by simpa using h 2 _ rfl,by simpa using h 3 _ rfl⟩
theorem qfj{b:Nat}{B:Nat}{t:TypeId}{v:Value}(hne:B≠b):∀(vs:List Value) (o:Nat) (W:World),Boxed W B t v->Boxed (W.setCells b o vs) B t v
 |[],_,_,h=>h
 |x::r,o,W,h=>qfj hne r (o+1) _ ((wa5 _ _ _ _ hne).trans h)
def q1w(w:World)(e:Ending)(w':World):Prop:=∃a b,e= .returned (.agg (qbu a b).toArray)/\Boxed w' a 3 (.int .i64 4)/\Boxed w' b 3 (.int .i64 3)/\Below w.heap.size w w'
theorem qej(w:World):Calls Tryz.prog 200 #[] w (q1w w):=by
 have h0:=qc2 (W:=w) rfl #[.nilFunc,.nilFunc,.nilFunc,.nilFunc] 277;have hB0:Below w.heap.size w (w.alloc (.cells #[.nilFunc,.nilFunc,.nilFunc,.nilFunc] 277)):=(wai _ w).alloc (wah _) _;have hs0:=waa (show(w.alloc (.cells #[.nilFunc,.nilFunc,.nilFunc,.nilFunc] 277)).heap.size=w.heap.size+1 by simp);go_enter Tryz.func200,Tryz.ntmps200;go_wp2_with fail;generalize (w.alloc (.cells #[.nilFunc,.nilFunc,.nilFunc,.nilFunc] 277))=W0 at h0 hB0 hs0 ⊢;refine(qj4 4 _).mono ?_;rintro e w' ⟨rfl,rfl⟩;have hl0:w.heap.size<W0.heap.size:=by have:=hs0.out;omega
 have h1:=qfl ((wai W0.heap.size W0).alloc (wah _) (.cells #[.int .i64 4] 3)) hl0 h0;have hx1:=Boxed.new W0 3 (.int .i64 4);have hB1:=hB0.alloc hB0.size (.cells #[.int .i64 4] 3);have hl1:=hx1.lt;generalize W0.alloc (.cells #[.int .i64 4] 3)=W1 at h1 hx1 hB1 hl1 ⊢;go_wp2_with fail;refine(qj4 3 _).mono ?_;rintro e w' ⟨rfl,rfl⟩;have h2:=qfl ((wai W1.heap.size W1).alloc (wah _) (.cells #[.int .i64 3] 3)) Zo h1;have hx2:=Boxed.new W1 3 (.int .i64 3);have hx1:=hx1.alloc (.cells #[.int .i64 3] 3);have hB2:=hB1.alloc hB1.size (.cells #[.int .i64 3] 3);generalize W1.alloc (.cells #[.int .i64 3] 3)=W2 at h2 hx1 hx2 hB2 ⊢;go_wp2_with (first|(refine wpList_store_mid rfl 277 _ _ rfl w.heap.size 0 (qbu W0.heap.size W1.heap.size).toArray rfl rfl h2 qof (qu5 _ _) ?_))
 have hr3:(W2.setCells w.heap.size 0 (qbu W0.heap.size W1.heap.size)).rangeAt w.heap.size 0 (qbu W0.heap.size W1.heap.size):=World.rangeAt_setCells_same _ _ _ _ h2;have hB3:Below w.heap.size w (W2.setCells w.heap.size 0 (qbu W0.heap.size W1.heap.size)):=qcx (wah _) _ 0 _ _ hB2;have hy1:=qfj (b:=w.heap.size) Zo (qbu W0.heap.size W1.heap.size) 0 _ hx1;have hy2:=qfj (b:=w.heap.size) Zo (qbu W0.heap.size W1.heap.size) 0 _ hx2;generalize hW3:W2.setCells w.heap.size 0 (qbu W0.heap.size W1.heap.size)=W3 at hr3 hB3 hy1 hy2 ⊢;obtain⟨k0,k1,k2,k3⟩:=qn1 hr3;simp only[Act.put];refine bodyPost_ret (v:= .agg (qbu W0.heap.size W1.heap.size).toArray) (by simp[results,Tryz.results200,go_sem,qbu,k0,k1,k2,k3]) rfl ⟨_,_,rfl,hy1,hy2,hB3⟩
theorem qx6{k c n:Int}(h:¬(0<=k/\k<4)):qav k c n=false:=by rw[<-wby,hmay_iff];omega
theorem qxe(c n:Int):qf1 4 c n=qav 2 c n:=by
 rw[wch,hmay_iff];unfold qf1;simp
theorem qry(c n:Int):qf1 3 c n=qav 3 c n:=by
 rw[wch,hmay_iff];unfold qf1;simp
theorem qda(w:World)(k c n:Int):(w.alloc (.cells #[.int .i64 k,.int .i64 c,.int .i64 n] 134)).drew.cell? ⟨w.heap.size,0,none⟩=some (.int .i64 k)/\(w.alloc (.cells #[.int .i64 k,.int .i64 c,.int .i64 n] 134)).drew.cell? ⟨w.heap.size,1,none⟩=some (.int .i64 c)/\(w.alloc (.cells #[.int .i64 k,.int .i64 c,.int .i64 n] 134)).drew.cell? ⟨w.heap.size,2,none⟩=some (.int .i64 n):=⟨by simp,by simp,by simp⟩
theorem qlv(a b:Nat)(w:World):(Instr.index 277 (.agg #[.func (.func 242) #[] #[],.func (.func 243) #[] #[],.func (.func 292) #[] #[.pointer (some ⟨a,0,none⟩)],.func (.func 292) #[] #[.pointer (some ⟨b,0,none⟩)]]) (.int .i64 0)).run Tryz.prog w= .ok (.func (.func 242) #[] #[]) w:=rfl
theorem qme(a b:Nat)(w:World):(Instr.index 277 (.agg #[.func (.func 242) #[] #[],.func (.func 243) #[] #[],.func (.func 292) #[] #[.pointer (some ⟨a,0,none⟩)],.func (.func 292) #[] #[.pointer (some ⟨b,0,none⟩)]]) (.int .i64 1)).run Tryz.prog w= .ok (.func (.func 243) #[] #[]) w:=rfl
theorem qnl(a b:Nat)(w:World):(Instr.index 277 (.agg #[.func (.func 242) #[] #[],.func (.func 243) #[] #[],.func (.func 292) #[] #[.pointer (some ⟨a,0,none⟩)],.func (.func 292) #[] #[.pointer (some ⟨b,0,none⟩)]]) (.int .i64 2)).run Tryz.prog w= .ok (.func (.func 292) #[] #[.pointer (some ⟨a,0,none⟩)]) w:=rfl
theorem qmk(a b:Nat)(w:World):(Instr.index 277 (.agg #[.func (.func 242) #[] #[],.func (.func 243) #[] #[],.func (.func 292) #[] #[.pointer (some ⟨a,0,none⟩)],.func (.func 292) #[] #[.pointer (some ⟨b,0,none⟩)]]) (.int .i64 3)).run Tryz.prog w= .ok (.func (.func 292) #[] #[.pointer (some ⟨b,0,none⟩)]) w:=rfl
theorem qtl(c n:Int)(w:World):Calls Tryz.prog 160 #[.agg #[.int .i64 0,.int .i64 c,.int .i64 n]] w λe w'=>e= .returned (.bool (qav 0 c n))/\Below w.heap.size w w':=by
 obtain⟨x0,x1,x2⟩:=qda w 0 c n;have hB0:=(qas w 0 c n).drew;have hix:=λ(a b:Nat) (w:World)=>qlv a b w
 go_enter wck,wcl;go_wp2_with fail;go_region_held3 (λV=>V.cell? ⟨w.heap.size,0,none⟩=some (.int .i64 0)/\V.cell? ⟨w.heap.size,1,none⟩=some (.int .i64 c)/\V.cell? ⟨w.heap.size,2,none⟩=some (.int .i64 n))
  (first|with_reducible exact⟨x0,x1,x2⟩|with_reducible exact⟨y0,y1,y2⟩|with_reducible exact⟨z0,z1,z2⟩)
  (first
   |(go_at_call 200;refine(qej _).mono ?_;rintro e w1 ⟨a,b,rfl,hx1,hx2,hB⟩;have y0:=(hB.cell (p:=⟨w.heap.size,0,none⟩) Zs).trans x0;have y1:=(hB.cell (p:=⟨w.heap.size,1,none⟩) Zs).trans x1;have y2:=(hB.cell (p:=⟨w.heap.size,2,none⟩) Zs).trans x2;have hl:=wal w1 _ y0;unfold qbu)
   |(go_at_call 242;refine(qqw _ _ _).mono ?_;rintro e w2 ⟨rfl,hC⟩;have z0:=(hC.cell (p:=⟨w.heap.size,0,none⟩) hl).trans y0;have z1:=(hC.cell (p:=⟨w.heap.size,1,none⟩) hl).trans y1;have z2:=(hC.cell (p:=⟨w.heap.size,2,none⟩) hl).trans y2))
 all_goals
  have hB2:=(hB0.trans (hB.mono hB0.size)).trans (hC.mono ((hB0.trans (hB.mono hB0.size)).size));clear hix hB hC y0 y1 y2 z0 z1 z2;go_wp2_with fail;go_ret;exact⟨rfl,hB2⟩
theorem qs5(c n:Int)(w:World):Calls Tryz.prog 160 #[.agg #[.int .i64 1,.int .i64 c,.int .i64 n]] w λe w'=>e= .returned (.bool (qav 1 c n))/\Below w.heap.size w w':=by
 obtain⟨x0,x1,x2⟩:=qda w 1 c n;have hB0:=(qas w 1 c n).drew;have hix:=λ(a b:Nat) (w:World)=>qme a b w
 go_enter wck,wcl;go_wp2_with fail;go_region_held3 (λV=>V.cell? ⟨w.heap.size,0,none⟩=some (.int .i64 1)/\V.cell? ⟨w.heap.size,1,none⟩=some (.int .i64 c)/\V.cell? ⟨w.heap.size,2,none⟩=some (.int .i64 n))
  (first|with_reducible exact⟨x0,x1,x2⟩|with_reducible exact⟨y0,y1,y2⟩|with_reducible exact⟨z0,z1,z2⟩)
  (first
   |(go_at_call 200;refine(qej _).mono ?_;rintro e w1 ⟨a,b,rfl,hx1,hx2,hB⟩;have y0:=(hB.cell (p:=⟨w.heap.size,0,none⟩) Zs).trans x0;have y1:=(hB.cell (p:=⟨w.heap.size,1,none⟩) Zs).trans x1;have y2:=(hB.cell (p:=⟨w.heap.size,2,none⟩) Zs).trans x2;have hl:=wal w1 _ y0;unfold qbu)
   |(go_at_call 243;refine(qrh _ _ _).mono ?_;rintro e w2 ⟨rfl,hC⟩;have z0:=(hC.cell (p:=⟨w.heap.size,0,none⟩) hl).trans y0;have z1:=(hC.cell (p:=⟨w.heap.size,1,none⟩) hl).trans y1;have z2:=(hC.cell (p:=⟨w.heap.size,2,none⟩) hl).trans y2))
 all_goals
  have hB2:=(hB0.trans (hB.mono hB0.size)).trans (hC.mono ((hB0.trans (hB.mono hB0.size)).size));clear hix hB hC y0 y1 y2 z0 z1 z2;go_wp2_with fail;go_ret;exact⟨rfl,hB2⟩
theorem qvy(c n:Int)(w:World):Calls Tryz.prog 160 #[.agg #[.int .i64 2,.int .i64 c,.int .i64 n]] w λe w'=>e= .returned (.bool (qav 2 c n))/\Below w.heap.size w w':=by
 obtain⟨x0,x1,x2⟩:=qda w 2 c n;have hB0:=(qas w 2 c n).drew;have hix:=λ(a b:Nat) (w:World)=>qnl a b w
 go_enter wck,wcl;go_wp2_with fail;go_region_held3 (λV=>V.cell? ⟨w.heap.size,0,none⟩=some (.int .i64 2)/\V.cell? ⟨w.heap.size,1,none⟩=some (.int .i64 c)/\V.cell? ⟨w.heap.size,2,none⟩=some (.int .i64 n))
  (first|with_reducible exact⟨x0,x1,x2⟩|with_reducible exact⟨y0,y1,y2⟩|with_reducible exact⟨z0,z1,z2⟩)
  (first
   |(go_at_call 200;refine(qej _).mono ?_;rintro e w1 ⟨a,b,rfl,hx1,hx2,hB⟩;have y0:=(hB.cell (p:=⟨w.heap.size,0,none⟩) Zs).trans x0;have y1:=(hB.cell (p:=⟨w.heap.size,1,none⟩) Zs).trans x1;have y2:=(hB.cell (p:=⟨w.heap.size,2,none⟩) Zs).trans x2;have hl:=wal w1 _ y0;unfold qbu)
   |(go_at_call 292;refine(qiw 4 _ _ _ _ _ hx1).mono ?_;rintro e w2 ⟨rfl,hC⟩;have z0:=(hC.cell (p:=⟨w.heap.size,0,none⟩) hl).trans y0;have z1:=(hC.cell (p:=⟨w.heap.size,1,none⟩) hl).trans y1;have z2:=(hC.cell (p:=⟨w.heap.size,2,none⟩) hl).trans y2))
 all_goals
  have hB2:=(hB0.trans (hB.mono hB0.size)).trans (hC.mono ((hB0.trans (hB.mono hB0.size)).size));clear hix hB hC y0 y1 y2 z0 z1 z2;go_wp2_with fail;go_ret;exact⟨qae (qxe _ _),hB2⟩
theorem qti(c n:Int)(w:World):Calls Tryz.prog 160 #[.agg #[.int .i64 3,.int .i64 c,.int .i64 n]] w λe w'=>e= .returned (.bool (qav 3 c n))/\Below w.heap.size w w':=by
 obtain⟨x0,x1,x2⟩:=qda w 3 c n;have hB0:=(qas w 3 c n).drew;have hix:=λ(a b:Nat) (w:World)=>qmk a b w
 go_enter wck,wcl;go_wp2_with fail;go_region_held3 (λV=>V.cell? ⟨w.heap.size,0,none⟩=some (.int .i64 3)/\V.cell? ⟨w.heap.size,1,none⟩=some (.int .i64 c)/\V.cell? ⟨w.heap.size,2,none⟩=some (.int .i64 n))
  (first|with_reducible exact⟨x0,x1,x2⟩|with_reducible exact⟨y0,y1,y2⟩|with_reducible exact⟨z0,z1,z2⟩)
  (first
   |(go_at_call 200;refine(qej _).mono ?_;rintro e w1 ⟨a,b,rfl,hx1,hx2,hB⟩;have y0:=(hB.cell (p:=⟨w.heap.size,0,none⟩) Zs).trans x0;have y1:=(hB.cell (p:=⟨w.heap.size,1,none⟩) Zs).trans x1;have y2:=(hB.cell (p:=⟨w.heap.size,2,none⟩) Zs).trans x2;have hl:=wal w1 _ y0;unfold qbu)
   |(go_at_call 292;refine(qiw 3 _ _ _ _ _ hx2).mono ?_;rintro e w2 ⟨rfl,hC⟩;have z0:=(hC.cell (p:=⟨w.heap.size,0,none⟩) hl).trans y0;have z1:=(hC.cell (p:=⟨w.heap.size,1,none⟩) hl).trans y1;have z2:=(hC.cell (p:=⟨w.heap.size,2,none⟩) hl).trans y2))
 all_goals
  have hB2:=(hB0.trans (hB.mono hB0.size)).trans (hC.mono ((hB0.trans (hB.mono hB0.size)).size));clear hix hB hC y0 y1 y2 z0 z1 z2;go_wp2_with fail;go_ret;exact⟨qae (qry _ _),hB2⟩
theorem qmb(k c n:Int)(w:World)(h:¬(0<=k/\k<4)):Calls Tryz.prog 160 #[.agg #[.int .i64 k,.int .i64 c,.int .i64 n]] w λe w'=>e= .returned (.bool (qav k c n))/\Below w.heap.size w w':=by
 have hm:=waa (qx6 (c:=c) (n:=n) h);obtain⟨x0,x1,x2⟩:=qda w k c n;have hB0:=qas w k c n;rcases(by omega:k<0\/(0<=k/\4<=k)) with h1|⟨h1,h2⟩
 ·have d1:decide (0<=k)=false:=by simpa using h1
  go_enter wck,wcl;go_wp2_with fail;go_quiet (fail)
  go_wp2
  go_ret;exact⟨qae (by rw[hm.out]),qaz hB0 _⟩
 ·have d1:decide (k<4)=false:=by simpa using h2
  go_enter wck,wcl;go_wp2_with fail;go_quiet (fail)
  go_wp2
  go_ret;exact⟨qae (by rw[hm.out]),qaz hB0 _⟩
theorem qew(k c n:Int)(w:World):Calls Tryz.prog 160 #[.agg #[.int .i64 k,.int .i64 c,.int .i64 n]] w λe w'=>e= .returned (.bool (qav k c n))/\Below w.heap.size w w':=by
 by_cases h:0<=k/\k<4
 ·rcases(by omega:k=0\/k=1\/k=2\/k=3) with rfl|rfl|rfl|rfl
  ·exact qtl c n w
  ·exact qs5 c n w
  ·exact qvy c n w
  ·exact qti c n w
 ·exact qmb k c n w h
theorem qr3(k c n s:Nat)(w:World)(hk:k<4)(hc:c<8)(hn:n<8)(hs:s<4294967296):
  Calls Tryz.prog 161 #[.agg #[.int .i64 (k:Int),.int .i64 (c:Int),.int .i64 (n:Int)],.int .u32 (s:Int)] w λe w'=>e= .returned (.int .u64 ((k+4*c+32*n+4294967296*s:Nat):Int))/\Below w.heap.size w w':=by
 have hj:=qtk hk hc hn hs;have hjn:∀(A0 A1:Option Addr) (V:World),Rd V A0 5 (i64V [2,3,3,24,32])->Rd V A1 5 (u64V [k,c,n,0,s])->Calls Tryz.prog 180 #[.slice A0 5 5,.slice A1 5 5] V λe w'=>e= .returned (.tuple #[.int .u64 ((k+4*c+32*n+4294967296*s:Nat):Int),.bool true])/\Below V.heap.size V w':=λA0 A1 V h0 h1=>by
  have h:=qh7 A0 A1 5 5 [2,3,3,24,32] [k,c,n,0,s] V h0 h1 Zd Zs Zd (by intro x hx;simp at hx;omega);rw[hj] at h;exact h
 have hjn':=waa hjn;clear hj hjn;have k0:IntKind.u64.wrap (k:Int)=(k:Int):=by rw[wa4];omega
 have k1:IntKind.u64.wrap (c:Int)=(c:Int):=by rw[wa4];omega
 have k2:IntKind.u64.wrap (n:Int)=(n:Int):=by rw[wa4];omega
 have k3:IntKind.u64.wrap (s:Int)=(s:Int):=by rw[wa4];omega
 go_enter Tryz.func161,Tryz.ntmps161;go_wp2_with fail;obtain⟨hx0,hx1,hx2⟩:=qda w k c n;go_region_held3 (λV=>V.cell? ⟨w.heap.size,0,none⟩=some (.int .i64 (k:Int))/\V.cell? ⟨w.heap.size,1,none⟩=some (.int .i64 (c:Int))/\V.cell? ⟨w.heap.size,2,none⟩=some (.int .i64 (n:Int)))
  (first|go_keep|with_reducible exact⟨hy0,hy1,hy2⟩)
  (first
   |(go_at_call 181;refine(qnx _).mono ?_;rintro e w' ⟨rfl,rfl⟩)
   |(go_at_call 180
     first
      |refine(hjn'.out _ _ _ (qb9 (qd7 (qb3 Zr Zr Zs) _)) (qb9 (qb3 Zr Zr Zs))).mono ?_
      |refine(hjn'.out _ _ _ (qb9 (qb3 Zr Zr Zs)) (qb9 (qd7 (qb3 Zr Zr Zs) _))).mono ?_
     rintro e w1 ⟨rfl,hB⟩;have hBx:=(((wai (w.heap.size+1) (w.alloc (.cells #[.int .i64 (k:Int),.int .i64 (c:Int),.int .i64 (n:Int)] 134))).alloc Zs _).alloc Zs _).drew.trans (hB.mono Zs);have hy0:=(hBx.cell (p:=⟨w.heap.size,0,none⟩) Zs).trans hx0;have hy1:=(hBx.cell (p:=⟨w.heap.size,1,none⟩) Zs).trans hx1;have hy2:=(hBx.cell (p:=⟨w.heap.size,2,none⟩) Zs).trans hx2;have hB1:=(qas w k c n).trans (hBx.mono Zo)))
 all_goals
  go_wp2_with fail;go_ret;exact⟨rfl,hB1⟩
def Hd(V:World)(b:Nat)(k c n:Int):Prop:=V.heap[b]? =some (.cells #[.int .i64 k,.int .i64 c,.int .i64 n] 134 (0,0))
theorem Hd.below{V V':World}{b B:Nat}{k c n:Int}(h:Hd V b k c n)(hb:Below B V V')(hB:b<B):Hd V' b k c n:=(hb.block b hB).trans h
theorem Hd.lt{V:World}{b:Nat}{k c n:Int}(h:Hd V b k c n):b<V.heap.size:=(waj.1 h).1
theorem Hd.cells{V:World}{b:Nat}{k c n:Int}(h:Hd V b k c n):V.cell? ⟨b,0,none⟩=some (.int .i64 k)/\V.cell? ⟨b,1,none⟩=some (.int .i64 c)/\V.cell? ⟨b,2,none⟩=some (.int .i64 n)/\(∀o,V.frozen? ⟨b,o,none⟩=false):=
 ⟨by rw[qab h];rfl,by rw[qab h];rfl,by rw[qab h];rfl,λo=>qah h o⟩
theorem Hd.new(W:World)(k c n:Int):Hd (W.alloc (.cells #[.int .i64 k,.int .i64 c,.int .i64 n] 134)) W.heap.size k c n:=World.alloc_heap_new W _
theorem qo9(k c n:Int)(w:World)(h:qav k c n=false):Calls Tryz.prog 118 #[.agg #[.int .i64 k,.int .i64 c,.int .i64 n]] w λe w'=>e= .returned (.tuple #[.int .u64 0,.bool false])/\Below w.heap.size w w':=by
 have hm:=λV=>qew k c n V
 rw[h] at hm;have hm':=waa hm;clear h hm;have hB0:=qas w k c n;go_enter Tryz.func118,Tryz.ntmps118;go_wp2_with fail;refine(hm'.out _).mono ?_;rintro e w1 ⟨rfl,hB⟩;go_wp2_with fail;go_ret2;exact⟨rfl,hB0.trans (hB.mono Zs)⟩
theorem qvw(w:World):Calls Tryz.prog 118 #[.agg #[.int .i64 0,.int .i64 0,.int .i64 0]] w λe w'=>e= .returned (.tuple #[.int .u64 0,.bool true])/\Below w.heap.size w w':=by
 have hm:=λV=>qew 0 0 0 V
 rw[show qav 0 0 0=true by decide] at hm;have hm':=waa hm;clear hm;have hg:=Hd.new w 0 0 0;have hB0:=qas w 0 0 0;go_enter Tryz.func118,Tryz.ntmps118;go_wp2_with fail;refine(hm'.out _).mono ?_;rintro e w1 ⟨rfl,hB⟩;obtain⟨c0,c1,c2,f⟩:=(hg.below hB hg.lt).cells;go_wp2_with fail;go_ret2;exact⟨rfl,hB0.trans (hB.mono Zs)⟩
theorem qu0(k c n:Nat)(w:World)(h:qav (k:Int) (c:Int) (n:Int)=true)(hk:k≠0):Calls Tryz.prog 118 #[.agg #[.int .i64 (k:Int),.int .i64 (c:Int),.int .i64 (n:Int)]] w λe w'=>e= .returned (.tuple #[.int .u64 ((qcw (k:Int) (c:Int) (n:Int):Nat):Int),.bool true])/\Below w.heap.size w w':=by
 have hm:=λV=>qew (k:Int) (c:Int) (n:Int) V
 rw[h] at hm;have hm':=waa hm;clear hm;obtain⟨-,b1,-,b3,-,b5⟩:=qfo h;obtain⟨lo,hlo⟩:∃lo:Nat,lo=k+4*c+32*n:=⟨_,rfl⟩
 have hlow:qep (k:Int) (c:Int) (n:Int)=lo:=by unfold qep;omega
 have hloB:lo<256:=Zo
 obtain⟨s,hs⟩:∃s:Nat,s=crcW [lo]:=⟨_,rfl⟩
 have hsB:s<4294967296:=by rw[hs];exact qft _
 have hW:qcw (k:Int) (c:Int) (n:Int)=lo+4294967296*s:=by rw[qiy Zo,hlow,hs]
 have hk0:((k:Int)==0)=false:=beq_eq_false_iff_ne.2 Zo;have hof:∀(A:Option Addr) (V:World),Rd V A 1 (u64V [lo])->Calls Tryz.prog 162 #[.slice A 1 1] V λe w'=>e= .returned (.int .u32 (s:Int))/\V=w':=λA V hV=>by
  have:=qv2 A 1 [lo] V hV Zs (by intro b hb;simp at hb;omega)
  rw[<-hs] at this;exact this
 obtain⟨jw,hjw⟩:∃jw:Int->Int,∀t:Int,jw t=(lo:Int)+4294967296*t:=⟨_,λ_=>rfl⟩
 have hj:∀(t:Int) (V:World),0<=t->t<4294967296->Calls Tryz.prog 161 #[.agg #[.int .i64 (k:Int),.int .i64 (c:Int),.int .i64 (n:Int)],.int .u32 t] V λe w'=>e= .returned (.int .u64 (jw t))/\Below V.heap.size V w':=λt V h0 h1=>by
  obtain⟨t',rfl⟩:=waq h0;have:=qr3 k c n t' V Zo Zo Zo Zo
  rw[show((k+4*c+32*n+4294967296*t':Nat):Int)=jw (t':Int) by rw[hjw];omega] at this;exact this
 have hj0:Keep (jw 0=(lo:Int)):=keep (by rw[hjw];omega);have hjs:Keep (jw (s:Int)=((qcw (k:Int) (c:Int) (n:Int):Nat):Int)):=keep (by rw[hjw,hW];omega);have hof':=waa hof;have hj':=waa hj;have hs0:(0:Int)<=(s:Int):=Zo
 have hs1:(s:Int)<4294967296:=Zo
 have hg:=Hd.new w (k:Int) (c:Int) (n:Int);have hB0:=qas w (k:Int) (c:Int) (n:Int);have hkK:=keep hk;clear hof hj hjw hW hs hlow hlo h b1 b3 b5 hloB hsB hk;go_enter Tryz.func118,Tryz.ntmps118;go_wp2_with fail;refine(hm'.out _).mono ?_;rintro e w1 ⟨rfl,hB⟩;have hg1:=hg.below hB hg.lt;have hB1:=(hB0.trans (hB.mono hB0.size)).drew;obtain⟨c0,c1,c2,f⟩:=hg1.cells;obtain⟨d0,d1,d2,d3⟩:=Hd.cells (V:=w1.drew) hg1;have hl1:=hg1.lt;clear hg hB0 hB hm';go_wp2_with fail;go_region_held3 (λV=>V.cell? ⟨w.heap.size,0,none⟩=some (.int .i64 (k:Int))/\V.cell? ⟨w.heap.size,1,none⟩=some (.int .i64 (c:Int))/\V.cell? ⟨w.heap.size,2,none⟩=some (.int .i64 (n:Int)))
  (first|with_reducible exact⟨d0,d1,d2⟩|with_reducible exact⟨x0,x1,x2⟩|with_reducible exact⟨y0,y1,y2⟩|with_reducible exact⟨z0,z1,z2⟩)
  (first
   |(go_at_call 162;refine(hof'.out _ _ (qb3 (by rw[hj0.out];rfl) Zr Zr)).mono ?_;rintro e w3 ⟨rfl,rfl⟩)
   |(go_at_call 161;refine(hj'.out _ _ Zo Zo).mono ?_;rintro e wj ⟨rfl,hC⟩
     first
      |(have hg4:=hg3.below hC hg3.lt;have hB4:=hB3.trans (hC.mono hB3.size);obtain⟨z0,z1,z2,z3⟩:=hg4.cells)
      |(have hg2:Hd wj w.heap.size (k:Int) (c:Int) (n:Int):=Hd.below (V:=w1.drew) hg1 hC hl1;have hB2:=hB1.trans (hC.mono hB1.size);have hg3:=hg2.below ((wai _ wj).alloc (wah _) (.cells #[.int .u64 (jw 0)] 40)) hg2.lt;have hB3:=hB2.alloc hB2.size (.cells #[.int .u64 (jw 0)] 40);obtain⟨x0,x1,x2,x3⟩:=hg2.cells;obtain⟨y0,y1,y2,y3⟩:=hg3.cells)))
 all_goals
  go_wp2_with fail;go_ret2;exact⟨by rw[hjs.out];rfl,hB4⟩
theorem qh6(k c n:Int)(w:World)(h:qav k c n=true):Calls Tryz.prog 118 #[.agg #[.int .i64 k,.int .i64 c,.int .i64 n]] w λe w'=>e= .returned (.tuple #[.int .u64 ((qcw k c n:Nat):Int),.bool true])/\Below w.heap.size w w':=by
 by_cases hk:k=0
 ·have:=hmay_iff.1 h
  obtain⟨rfl,rfl,rfl⟩:k=0/\c=0/\n=0:=Zo
  exact qvw w
 ·have hb:=qfo h
  obtain⟨k',rfl⟩:=waq hb.1;obtain⟨c',rfl⟩:=waq hb.2.2.1;obtain⟨n',rfl⟩:=waq hb.2.2.2.2.1;exact qu0 k' c' n' w h Zo
def runB:Int->Int->List (Int×Int×Int)->Bool
 |nx,mn,[]=>decide (mn<=nx)
 |nx,mn,h::t=>if h.1=3 then(if nx<mn/\h.2.2=nx then runB (nx+1) mn t else false) else if nx<mn then false else if h.1=2 then runB 1 h.2.2 t else runB nx mn t
theorem qj7{nx mn:Int}{h:Int×Int×Int}{t:List (Int×Int×Int)}(h1:h.1=3)(h2:nx<mn)(h3:h.2.2=nx):runB nx mn (h::t)=runB (nx+1) mn t:=by rw[runB,if_pos h1,if_pos ⟨h2,h3⟩]
theorem qfm{nx mn:Int}{h:Int×Int×Int}{t:List (Int×Int×Int)}(h1:(h.1=3/\¬(nx<mn/\h.2.2=nx))\/(h.1≠3/\nx<mn)):runB nx mn (h::t)=false:=by
 rw[runB];rcases h1 with ⟨a,b⟩|⟨a,b⟩
 ·rw[if_pos a,if_neg b]
 ·rw[if_neg a,if_pos b]
theorem qil{nx mn:Int}{h:Int×Int×Int}{t:List (Int×Int×Int)}(h1:h.1=2)(h2:¬nx<mn):runB nx mn (h::t)=runB 1 h.2.2 t:=by rw[runB,if_neg Zo,if_neg h2,if_pos h1]
theorem qtn{nx mn:Int}{h:Int×Int×Int}{t:List (Int×Int×Int)}(h1:h.1≠3)(h2:¬nx<mn)(h3:h.1≠2):runB nx mn (h::t)=runB nx mn t:=by rw[runB,if_neg h1,if_neg h2,if_neg h3]
def HdsRd(w:World)(A:Option Addr)(n:Nat)(hs:List (Int×Int×Int)):Prop:=
 hs.length=n/\(0<n->∃p,A=some p/\∀j h,hs[j]? =some h->w.cell? (p.add (j*3))=some (.int .i64 h.1)/\w.cell? ⟨(p.add (j*3)).block,(p.add (j*3)).off+1,none⟩=some (.int .i64 h.2.1)/\w.cell? ⟨(p.add (j*3)).block,(p.add (j*3)).off+2,none⟩=some (.int .i64 h.2.2))
theorem HdsRd.below{w w':World}{A:Option Addr}{n:Nat}{hs:List (Int×Int×Int)}(h:HdsRd w A n hs)(hB:Below w.heap.size w w'):HdsRd w' A n hs:=
 ⟨h.1,λhn=>by
  obtain⟨p,e,hp⟩:=h.2 hn;refine⟨p,e,λj x hx=>?_⟩;obtain⟨h0,h1,h2⟩:=hp j x hx;exact⟨(hB.cell (wal w _ h0)).trans h0,(hB.cell (wal w _ h1)).trans h1,(hB.cell (wal w _ h2)).trans h2⟩⟩
theorem HdsRd.at_{w:World}{A:Option Addr}{n k:Nat}{hs:List (Int×Int×Int)}(h:HdsRd w A n hs)(hk:k<n):∃p a b c,A=some p/\hs.drop k=(a,b,c)::hs.drop (k+1)/\(a,b,c)∈hs/\w.cell? (p.add (k*3))=some (.int .i64 a)/\w.cell? ⟨(p.add (k*3)).block,(p.add (k*3)).off+1,none⟩=some (.int .i64 b)/\w.cell? ⟨(p.add (k*3)).block,(p.add (k*3)).off+2,none⟩=some (.int .i64 c):=by
 obtain⟨p,e,hp⟩:=h.2 Zo;have hl:k<hs.length:=by rw[h.1];exact hk
 obtain⟨h0,h1,h2⟩:=hp k hs[k] (wan hl);exact⟨p,hs[k].1,hs[k].2.1,hs[k].2.2,e,wbl hl,wb4 hl,h0,h1,h2⟩
theorem q0l(A:Option Addr)(cap:Nat)(hs:List (Int×Int×Int))(w:World)(h:HdsRd w A hs.length hs)(hn:hs.length<=9223372036854775806):
  Calls Tryz.prog 290 #[.slice A hs.length cap] w λe w'=>e= .returned (.bool (runB 0 0 hs))/\Below w.heap.size w w':=by
 go_enter Tryz.func290,Tryz.ntmps290;go_wp2_with fail;go_step3
 go_wp2_with fail;go_step3
 go_wp2_with fail;go_loopw [3,4,5,11] (λt u b q wr=>∃(W:World) (j:Nat) (nx mn:Int),W=wr/\t= .int .i64 nx/\u= .int .i64 mn/\b= .bool true/\q= .int .i64 (j:Int)/\j<=hs.length/\0<=nx/\nx<=(j:Int)/\Hid (runB nx mn (hs.drop j)=runB 0 0 hs)/\Below w.heap.size w W) (λ_ _ _ q _=>hs.length - (intOf q).toNat)
 case atStart=>exact⟨w,0,0,0,rfl,rfl,rfl,rfl,rfl,wat _,Zo,Zo,waa rfl,wai _ _⟩
 case round=>
  obtain⟨W,j,nx,mn,rfl,rfl,rfl,rfl,rfl,hj,hn0,hn1,hr,hB⟩:=hrel;by_cases hlt:j<hs.length
  ·obtain⟨p,k,c,n,rfl,hd,-,h0,h1,h2⟩:=(h.below hB).at_ hlt
   have hB1:=hB.alloc hB.size (.cells #[.int .i64 k,.int .i64 c,.int .i64 n] 134);rw[hd] at hr;clear hd;by_cases h3:k=3
   ·have e3:(k==3)=true:=beq_iff_eq.2 h3
    by_cases hm:nx<mn
    ·have em:decide (nx<mn)=true:=decide_eq_true hm
     by_cases he:n=nx
     ·have ee:(n !=nx)=false:=by rw[he];simp
      have hr2:=waa ((qj7 h3 hm he).symm.trans hr.out);clear hr h3 hm he;go_wp2_with fail;go_roundw
      case rel=>exact⟨_,j+1,nx+1,mn,rfl,rfl,rfl,rfl,by go_num,Zo,Zo,Zo,hr2,hB1⟩
      case measure=>simp[intOf];omega
     ·have ee:(n !=nx)=true:=bne_iff_ne.2 he
      have hr2:=waa (hr.out.symm.trans (qfm (.inl ⟨h3,λx=>he x.2⟩)));clear hr h3 hm he;go_wp2_with fail;try rw[wbd]
      go_ret;exact⟨qae hr2.out.symm,hB1⟩
    ·have em:decide (nx<mn)=false:=decide_eq_false hm
     have hr2:=waa (hr.out.symm.trans (qfm (.inl ⟨h3,λx=>hm x.1⟩)));clear hr h3 hm;go_wp2_with fail;try rw[wbd]
     go_ret;exact⟨qae hr2.out.symm,hB1⟩
   ·have e3:(k==3)=false:=beq_eq_false_iff_ne.2 h3
    by_cases hm:nx<mn
    ·have em:decide (nx<mn)=true:=decide_eq_true hm
     have hr2:=waa (hr.out.symm.trans (qfm (.inr ⟨h3,hm⟩)));clear hr h3 hm;go_wp2_with fail;try rw[wbd]
     go_ret;exact⟨qae hr2.out.symm,hB1⟩
    ·have em:decide (nx<mn)=false:=decide_eq_false hm
     by_cases hl:k=2
     ·have el:(k==2)=true:=beq_iff_eq.2 hl
      have hr2:=waa ((qil hl hm).symm.trans hr.out);clear hr h3 hm hl;go_wp2_with fail;go_quiet (fail)
      go_wp2_with fail;go_roundw
      case rel=>exact⟨_,j+1,1,n,rfl,rfl,rfl,rfl,by go_num,Zo,Zo,Zo,hr2,qaz hB1 _⟩
      case measure=>simp[intOf];omega
     ·have el:(k==2)=false:=beq_eq_false_iff_ne.2 hl
      have hr2:=waa ((qtn h3 hm hl).symm.trans hr.out);clear hr h3 hm hl;go_wp2_with fail;go_roundw
      case rel=>exact⟨_,j+1,nx,mn,rfl,rfl,rfl,rfl,by go_num,Zo,Zo,Zo,hr2,hB1⟩
      case measure=>simp[intOf];omega
  ·have e1:hs.drop j=[]:=wa6 Zo
   rw[e1] at hr;have hr2:Hid (runB 0 0 hs=decide (mn<=nx)):=waa (hr.out.symm.trans rfl);clear hr e1;by_cases hm:mn<=nx
   ·have em:decide (mn<=nx)=true:=decide_eq_true hm
    go_wp2_with fail;try rw[wbd]
    go_ret;exact⟨qae (hr2.out.trans em).symm,hB⟩
   ·have em:decide (mn<=nx)=false:=decide_eq_false hm
    go_wp2_with fail;try rw[wbd]
    go_ret;exact⟨qae (hr2.out.trans em).symm,hB⟩
end Go.Proofs.YtgjhkafggagniaaGreat
