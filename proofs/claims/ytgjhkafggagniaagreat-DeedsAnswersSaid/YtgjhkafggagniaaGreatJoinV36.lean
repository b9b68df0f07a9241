/- Parts. No condition. -/
import Derived.Test.YtgjhkafggagniaaGreatJoinV34
set_option linter.unusedVariables false
set_option maxRecDepth 100000
set_option maxHeartbeats 8000000
namespace Go.Proofs.YtgjhkafggagniaaGreat
open Go Go.RowKit
noncomputable def romA (n:Nat):AP (DM×HS) Int:=onceH (λt=>(qg8 n t.1,t))
noncomputable def crvA (n L:Nat) (r z c:Int):AP (DM×HS) Int:=onceH (λt=>(if carB t.1 z c=true then 0 else 1,(carH t.1 z c,carS n L r t.1 t.2 z c)))
noncomputable def carveF (A:AC) (E:DP HS) (n L:Nat) (c z:Int):AP (DM×HS) Bool:=
 if z<0 then AP.ret false else if z<=1000/\0<=headN A.s A.l A.r z/\headN A.s A.l A.r z<16384 then
  (qa7 E.n E.nl E.who (hwL A.s A.l A.r z [(1,c,0)])).bind λ_=>(crvA n L A.r z c).bind λ_=>AP.ret true
 else qbd
noncomputable def carveA (A:AC) (E:DP HS) (n L:Nat) (c:Int):AP (DM×HS) Bool:=(romA n).bind (carveF A E n L c)
theorem hmc(c:Int)(hc:0<=c/\c<4):qav 1 c 0=true:=by
 have:c=0\/c=1\/c=2\/c=3:=Zo
 rcases this with rfl|rfl|rfl|rfl<;>rfl
theorem HdsRd.of_blk{w:World}{b:Nat}{l:List (Int×Int×Int)}(h:w.heap[b]? =some (.cells (hV l).toArray 134 (0,0))):HdsRd w (some ⟨b,0,none⟩) l.length l:=
 ⟨rfl,λ_=>⟨⟨b,0,none⟩,rfl,λj e he=>by
  obtain⟨h0,h1,h2⟩:=qla he;have e0:(⟨b,0,none⟩:Addr).add (j*3)=⟨b,j*3,none⟩:=by unfold Addr.add;split<;>simp_all
  rw[e0];exact⟨by rw[qab h];simpa using h0,by rw[qab h];simpa using h1,by rw[qab h];simpa using h2⟩⟩⟩
def tknF(ws:List (Int×Nat))(x:Int):AP (DM×HS) (ANS×List (Int×Nat)):=AP.ret (if x= -1 then(9,0,0) else(0,x,0),ws)
noncomputable def tknL (L:Nat) (who c:Int) (ws:List (Int×Nat)):AP (DM×HS) (ANS×List (Int×Nat)):=(takA L who c).bind (tknF ws)
noncomputable def tknC (L:Nat) (who c:Int) (ws:List (Int×Nat)) (b:Bool):AP (DM×HS) (ANS×List (Int×Nat)):=if b=true then(refA L who c).bind λ_=>tknL L who c ws else tknL L who c ws
noncomputable def tknZ (A:AC) (E:DP HS) (n L:Nat) (c:Int) (ws:List (Int×Nat)) (z:Int):AP (DM×HS) (ANS×List (Int×Nat)):=if z=0 then(carveA A E n L c).bind (tknC L A.who c ws) else tknL L A.who c ws
noncomputable def tknIn (A:AC) (E:DP HS) (n L:Nat) (c:Int) (ws:List (Int×Nat)):AP (DM×HS) (ANS×List (Int×Nat)):=(refA L A.who c).bind (tknZ A E n L c ws)
noncomputable def tknO (A:AC) (E:DP HS) (n L:Nat) (c:Int) (ws:List (Int×Nat)) (x:Int):AP (DM×HS) (ANS×List (Int×Nat)):=if x≠-1 then AP.ret ((0,x,0),ws) else qbe E 0 (tknIn A E n L c ws)
noncomputable def tknA (A:AC) (E:DP HS) (n L:Nat) (c:Int) (ws:List (Int×Nat)):AP (DM×HS) (ANS×List (Int×Nat)):=(takA L A.who c).bind (tknO A E n L c ws)
section
variable {A:AC} {E:DP HS} {i i':Nat} {l l':List Nat} {s s':DM×HS} {F F' H:Nat->Prop} {v v':Value} {ws ws':List (Int×Nat)} {w w' w2:World} {base n L b0 b1 b2:Nat} {e:Ending}
theorem qv4(h:AIn A E i l s F v ws w)(hD:DdE A E base n L)(k0:Boxed w b0 154 (.pointer (some ⟨A.ab,0,none⟩)))(m0:¬F b0)(hw:romA n E.sp i l s≠ .wild):
  Calls Tryz.prog 247 #[.pointer (some ⟨A.ab,0,none⟩),.func (.func 345) #[] #[.pointer (some ⟨b0,0,none⟩)]] w λe w'=>E.Post (romA n E.sp i l s) (λ(z:Int) v _=>v= .int .i64 z) F w e w':=
 qcp (FN:=345) (λargs w=>by simp[go_sem]) h hD hw (λV G hV hX hG hx=>qs3 hX (h.at_ hV) (qac k0 hV (λe=>m0 (e▸h.ebn.1))))
theorem qpx(h:AIn A E i l s F v ws w)(hD:DdE A E base n L)(k0:Boxed w b0 154 (.pointer (some ⟨A.ab,0,none⟩)))(m0:¬F b0){z:Int}(k1:Boxed w b1 3 (.int .i64 z))(m1:¬F b1){c:Int}(k2:Boxed w b2 3 (.int .i64 c))(m2:¬F b2)(hw:crvA n L A.r z c E.sp i l s≠ .wild):
  Calls Tryz.prog 247 #[.pointer (some ⟨A.ab,0,none⟩),.func (.func 346) #[] #[.pointer (some ⟨b0,0,none⟩),.pointer (some ⟨b1,0,none⟩),.pointer (some ⟨b2,0,none⟩)]] w λe w'=>E.Post (crvA n L A.r z c E.sp i l s) (λ(z:Int) v _=>v= .int .i64 z) F w e w':=
 qcp (FN:=346) (λargs w=>by simp[go_sem]) h hD hw (λV G hV hX hG hx=>qql hX (h.at_ hV) (qac k0 hV (λe=>m0 (e▸h.ebn.1))) (qac k1 hV (λe=>m1 (e▸h.ebn.1))) (λe=>m1 (hG _ e)) (qac k2 hV (λe=>m2 (e▸h.ebn.1))) (λe=>m2 (hG _ e)) hx)
theorem qri(h:AIn A E i l s F v ws w)(hD:DdE A E base n L)(c:Int)(hc:0<=c/\c<4)(hw:carveA A E n L c E.sp i l s≠ .wild):
  Calls Tryz.prog 304 #[.pointer (some ⟨A.ab,0,none⟩),.int .i64 c] w λe w'=>E.Post (carveA A E n L c E.sp i l s) (λ(b:Bool) v _=>v= .bool b) F w e w':=by
 have hmf:∀(fn:Fn) (first cap:Array Value) (w:World),(Instr.makeFunc fn first cap).run Tryz.prog w= .ok (.func fn first cap) w:=λ_ _ _ _=>rfl
 obtain⟨W1,hW1⟩:∃W1,(w.alloc (.cells #[.pointer (some ⟨A.ab,0,none⟩)] 154)).alloc (.cells #[.int .i64 c] 3)=W1:=⟨_,rfl⟩
 have hu:Upd (λ_=>False) w W1:=by rw[<-hW1];exact(((Upd.refl _ w).alloc _).alloc _)
 have hb0:Boxed W1 (w.heap.size) 154 (.pointer (some ⟨A.ab,0,none⟩)):=by rw[<-hW1];exact qag (qad rfl _ _) _
 have hb1:Boxed W1 (w.heap.size+1) 3 (.int .i64 c):=by rw[<-hW1];exact qad Zs _ _
 have hFk:∀j,w.heap.size<=j->¬F j:=λj hj e=>by have:=h.i.lt e;omega
 have hA0:=(AtF.start h).new hu;have hw1:romA n E.sp i l s≠ .wild:=AP.tame hw;have hrm:=waa (qv4 hA0.a hD hb0 (hFk _ (wah _)) hw1);have c0:=hb0.cell;have hl0:=hb0.lt;have hl1:=hb1.lt;have hm0:=hFk _ (wah _);have hm1:=hFk _ (wcf _);replace hA0:=waa hA0;replace hb0:=waa hb0;replace hb1:=waa hb1;replace hw:=waa hw;clear h hu hFk;go_enter Tryz.func304,Tryz.ntmps304;go_wp2_with fail;try rw[hW1]
 refine hrm.out.mono ?_;intro e V hpost;rcases hpost.done hw1 with ⟨z,i1,l1,s1,x1,F1,ho1,rfl,rfl,hI1,hg1,hu1⟩|⟨bl,l1,s1,F1,ho1,rfl,hO1,hg1,hu1⟩
 rotate_left
 ·exact⟨rfl,qba (hA0.out.off hO1 hg1 hu1) (by unfold carveA;rw[AP.bind_stop ho1])⟩
 have hw2:=waa (AP.tame_next (t:=romA n) (f:=carveF A E n L c) hw.out ho1);have hob1:=waa (show carveA A E n L c E.sp i l s=carveF A E n L c z E.sp i1 l1 s1 by unfold carveA;rw[AP.bind_done ho1]);have hB:=(wai V.heap.size V).alloc (wah _) (.cells #[.int .i64 z] 3);have hA1:=(hA0.out.step hI1 hg1 hu1).below hB;have hk0:Boxed (V.alloc (.cells #[.int .i64 z] 3)) w.heap.size 154 (.pointer (some ⟨A.ab,0,none⟩)):=qh2 (qac hb0.out hu1 hm0) _;have hk1:Boxed (V.alloc (.cells #[.int .i64 z] 3)) (w.heap.size+1) 3 (.int .i64 c):=qh2 (qac hb1.out hu1 hm1) _;have hk2:Boxed (V.alloc (.cells #[.int .i64 z] 3)) V.heap.size 3 (.int .i64 z):=qad rfl _ _;have hn0:=hg1.no hl0 hm0;have hn1:=hg1.no hl1 hm1;have hn2:¬F1 V.heap.size:=λe=>by have:=hI1.lt e;omega
 obtain⟨W2,hW2⟩:∃W2,V.alloc (.cells #[.int .i64 z] 3)=W2:=⟨_,rfl⟩
 rw[hW2] at hA1 hk0 hk1 hk2;have d2:=hk2.cell;replace hA1:=waa hA1;replace hk0:=waa hk0;replace hk1:=waa hk1;replace hk2:=waa hk2;replace hW2:=waa hW2;clear hpost hI1 hg1 hu1 hw ho1 hA0 hw1 hrm hB hb0 hb1;by_cases hz:z<0
 ·have hob2:carveA A E n L c E.sp i l s= .done false i1 l1 s1:=by rw[hob1.out,carveF,if_pos hz];rfl
  have hfin:=waa (AtF.done (t:=carveA A E n L c) (R:=λ(b:Bool) v _=>v= .bool b) (x:= .bool false) hA1.out hob2 rfl);clear hA1 hk0 hk1 hk2 hob1 hob2 hw2;go_upto_region 2 with fail
  rw[hW2.out];go_wp2_with fail;go_ret;exact hfin.out
 by_cases hcc:z<=1000/\0<=headN A.s A.l A.r z/\headN A.s A.l A.r z<16384
 rotate_left
 ·exact absurd (by rw[carveF,if_neg hz,if_neg hcc];rfl) hw2.out
 have hdef:carveF A E n L c z=(qa7 E.n E.nl E.who (hwL A.s A.l A.r z [(1,c,0)])).bind λ_=>(crvA n L A.r z c).bind λ_=>AP.ret true:=by rw[carveF,if_neg hz,if_pos hcc]
 rw[hdef] at hw2 hob1;have hsg:∀(e:Int×Nat),e∈hwL A.s A.l A.r z [(1,c,0)]->e=(headN A.s A.l A.r z,qcw 1 c 0):=λe he=>by simpa[hwL] using he
 have hrg:=waa (λ(e:Int×Nat) (he:e∈hwL A.s A.l A.r z [(1,c,0)])=>show 0<=e.1/\e.1<16384 from by rw[hsg e he];exact hcc.2);have hx64:=waa (λ(e:Int×Nat) (he:e∈hwL A.s A.l A.r z [(1,c,0)])=>show e.2<18446744073709551616 from by rw[hsg e he];exact qlf (hmc c hc));have hmay:∀x∈[((1:Int),c,(0:Int))],qav x.1 x.2.1 x.2.2=true:=λx hx=>by
  obtain rfl:x=(1,c,0):=by simpa using hx
  have:c=0\/c=1\/c=2\/c=3:=Zo
  rcases this with rfl|rfl|rfl|rfl<;>rfl
 have hzb:-4611686018427387904<=z/\z<=4611686018427387904:=Zo
 clear hcc hdef hsg;go_upto_region 4 with fail
 rw[hW2.out];refine wp_region_held_drew (S:=(λU=>U.cell? ⟨w.heap.size,0,none⟩=some (.pointer (some ⟨A.ab,0,none⟩))/\U.cell? ⟨w.heap.size+1,0,none⟩=some (.int .i64 c)/\U.cell? ⟨V.heap.size,0,none⟩=some (.int .i64 z))) Zk (⟨hk0.out.cell,hk1.out.cell,hk2.out.cell⟩) (λhHeld=>?_);refine wpAnyH_take (i:=0) (v:=?_) rfl Zk Zk Zk (λ_ _ _ h=>h) (Or.inl ⟨by rfl,?_⟩) Za ?_;rotate_left;(·intro u h;(try dsimp only at h);(try simp only[wab,wac]);go_simp;try with_reducible rfl);try simp only[Act.put,waf,wae,wag,wab,wac]
 refine wpAnyH_take (i:=1) (v:=?_) rfl Zk Zk Zk (λ_ _ _ h=>h) (Or.inl ⟨by rfl,?_⟩) Za ?_;rotate_left;(·intro u h;(try dsimp only at h);(try simp only[wab,wac,wad]);go_simp;try with_reducible rfl);try simp only[Act.put,waf,wae,wag,wab,wac,wad]
 refine wpAnyH_take (i:=2) (v:=?_) rfl Zk Zk Zk (λ_ _ _ h=>h) (Or.inl ⟨by rfl,?_⟩) Za ?_;rotate_left;(·intro u h;(try dsimp only at h);(try simp only[wab,wac,wad]);go_simp;try with_reducible rfl);try simp only[Act.put,waf,wae,wag,wab,wac,wad]
 refine wpAnyH_take (i:=3) (v:=?_) rfl Zk Zk Zk (λ_ _ _ h=>h) (Or.inl ⟨by rfl,?_⟩) Za ?_;rotate_left;(·intro u h;(try dsimp only at h);(try simp only[wab,wac,wad]);go_simp;try with_reducible rfl);try simp only[Act.put,waf,wae,wag,wab,wac,wad]
 refine wpAnyH_take (i:=4) (v:=?_) rfl Zk Zk Zk (λ_ _ _ h=>h) (Or.inl ⟨by rfl,?_⟩) Za ?_;rotate_left;(·intro u h;(try dsimp only at h);(try simp only[wab,wac,wad]);go_simp;try with_reducible rfl);try simp only[Act.put,waf,wae,wag,wab,wac,wad]
 refine wpAnyH_ready (rs:=[5]) Zk Zs ?_;refine AllReadyH.cons rfl (λK hK=>?_) AllReadyH.nil
 (try simp only[wab,wac,wad])
 go_simp
 have hBs:=((wai W2.heap.size W2).alloc (wah _) (.cells #[.int .i64 1,.int .i64 c,.int .i64 0] 134)).drew;have hhr:(W2.alloc (.cells #[.int .i64 1,.int .i64 c,.int .i64 0] 134)).drew.heap[W2.heap.size]? =some (.cells (hV [(1,c,0)]).toArray 134 (0,0)):=heap_alloc_new W2 _;have hA2:=hA1.out.below hBs;have e0:Boxed (W2.alloc (.cells #[.int .i64 1,.int .i64 c,.int .i64 0] 134)).drew w.heap.size 154 (.pointer (some ⟨A.ab,0,none⟩)):=(hBs.block _ hk0.out.lt).trans hk0.out;have e1:Boxed (W2.alloc (.cells #[.int .i64 1,.int .i64 c,.int .i64 0] 134)).drew (w.heap.size+1) 3 (.int .i64 c):=(hBs.block _ hk1.out.lt).trans hk1.out;have e2:Boxed (W2.alloc (.cells #[.int .i64 1,.int .i64 c,.int .i64 0] 134)).drew V.heap.size 3 (.int .i64 z):=(hBs.block _ hk2.out.lt).trans hk2.out;have hHd:=HdsRd.of_blk hhr;obtain⟨W3,hW3⟩:∃W3,(W2.alloc (.cells #[.int .i64 1,.int .i64 c,.int .i64 0] 134)).drew=W3:=⟨_,rfl⟩
 rw[hW3] at hA2 e0 e1 e2 hHd;have hhw:=waa (qjj (cap:=1) (n:=1) hA2.a.a z hHd hmay hzb Zo);obtain⟨y0,y1,y2⟩:W3.cell? ⟨w.heap.size,0,none⟩=some (.pointer (some ⟨A.ab,0,none⟩))/\W3.cell? ⟨w.heap.size+1,0,none⟩=some (.int .i64 c)/\W3.cell? ⟨V.heap.size,0,none⟩=some (.int .i64 z):=⟨Boxed.cell e0,Boxed.cell e1,Boxed.cell e2⟩
 try rw[hW3]
 replace hA2:=waa hA2;replace e0:=waa e0;replace e1:=waa e1;replace e2:=waa e2;clear hA1 hk0 hk1 hk2 hHd hBs hhr;refine hK.out _ _ (⟨y0,y1,y2⟩) (λhHeld2=>?_);clear hK K hHeld;have hHeld:=hHeld2;clear hHeld2;try simp only[Act.put,waf,wae,wag,wab,wac,wad]
 refine wpAnyH_ready (rs:=[6]) Zk Zs ?_;refine AllReadyH.cons rfl (λK hK=>?_) AllReadyH.nil
 (try simp only[wab,wac,wad])
 go_simp
 refine hhw.out.mono ?_;rintro e W4 ⟨u,rfl,hrow,-,hB4⟩;obtain⟨X,cap,rfl,hEs⟩:=EsRd.of_own hrow;have hXb:∀p,X=some p->0<1->¬F1 p.block/\p.block<W4.heap.size:=λp hp _=>by
  subst hp;have:=hrow.lt p.block rfl
  refine⟨λe=>?_,this.2⟩;have:=hA2.out.a.i.lt e
  omega
 have hA3:=hA2.out.below hB4;have f0:Boxed W4 w.heap.size 154 (.pointer (some ⟨A.ab,0,none⟩)):=(hB4.block _ e0.out.lt).trans e0.out;have f1:Boxed W4 (w.heap.size+1) 3 (.int .i64 c):=(hB4.block _ e1.out.lt).trans e1.out;have f2:Boxed W4 V.heap.size 3 (.int .i64 z):=(hB4.block _ e2.out.lt).trans e2.out;have hkp:=waa (qkl (cap:=cap) hA3.a hEs hXb hrg.out hx64.out Zo (AP.tame hw2.out));obtain⟨y0,y1,y2⟩:W4.cell? ⟨w.heap.size,0,none⟩=some (.pointer (some ⟨A.ab,0,none⟩))/\W4.cell? ⟨w.heap.size+1,0,none⟩=some (.int .i64 c)/\W4.cell? ⟨V.heap.size,0,none⟩=some (.int .i64 z):=⟨Boxed.cell f0,Boxed.cell f1,Boxed.cell f2⟩
 replace hA3:=waa hA3;replace f0:=waa f0;replace f1:=waa f1;replace f2:=waa f2;clear hrow hEs hXb hB4 hA2 e0 e1 e2 hhw;go_wp2_with fail;refine hK.out _ _ (⟨y0,y1,y2⟩) (λhHeld2=>?_);clear hK K hHeld;have hHeld:=hHeld2;clear hHeld2;try simp only[Act.put,waf,wae,wag,wab,wac,wad]
 refine wpAnyH_ready (rs:=[7]) Zk Zs ?_;refine AllReadyH.cons rfl (λK hK=>?_) AllReadyH.nil
 (try simp only[wab,wac,wad])
 go_simp
 refine hkp.out.mono ?_;intro e W5 hpost;rcases DP.Post.done (t:=qa7 E.n E.nl E.who (hwL A.s A.l A.r z [(1,c,0)])) hpost (AP.tame hw2.out) with ⟨u2,i2,l2,s2,x2,F2,ho2,rfl,rfl,hI2,hg2,hu2⟩|⟨bl,l2,s2,F2,ho2,rfl,hO2,hg2,hu2⟩
 rotate_left
 ·exact⟨rfl,qba (hA3.out.off hO2 hg2 hu2) (by rw[hob1.out,AP.bind_stop ho2])⟩
 have hw3:=waa (AP.tame_next (t:=qa7 E.n E.nl E.who (hwL A.s A.l A.r z [(1,c,0)])) (f:=λ_=>(crvA n L A.r z c).bind λ_=>AP.ret true) hw2.out ho2);have hob2:=waa (hob1.out.trans (AP.bind_done ho2));have hA4:=hA3.out.step hI2 hg2 hu2;have p0:=qac f0.out hu2 hn0;have p1:=qac f1.out hu2 hn1;have p2:=qac f2.out hu2 hn2;have q0:=hg2.no f0.out.lt hn0;have q1:=hg2.no f1.out.lt hn1;have q2:=hg2.no f2.out.lt hn2;have hcv:=waa (qpx hA4.a hD p0 q0 p2 q2 p1 q1 (AP.tame hw3.out));obtain⟨y0,y1,y2⟩:W5.cell? ⟨w.heap.size,0,none⟩=some (.pointer (some ⟨A.ab,0,none⟩))/\W5.cell? ⟨w.heap.size+1,0,none⟩=some (.int .i64 c)/\W5.cell? ⟨V.heap.size,0,none⟩=some (.int .i64 z):=⟨Boxed.cell p0,Boxed.cell p1,Boxed.cell p2⟩
 replace hA4:=waa hA4;clear hpost hI2 hg2 hu2 ho2 hA3 f0 f1 f2 hkp hob1 hw2 p0 p1 p2 q0 q1 q2;go_wp2_with fail;refine hK.out _ _ (⟨y0,y1,y2⟩) (λhHeld2=>?_);clear hK K hHeld;have hHeld:=hHeld2;clear hHeld2;try simp only[Act.put,waf,wae,wag,wab,wac,wad]
 refine wpAnyH_done Zk ?_ _;go_wp2_with fail;refine hcv.out.mono ?_;intro e W6 hpost;rcases hpost.done (AP.tame hw3.out) with ⟨z2,i3,l3,s3,x3,F3,ho3,rfl,rfl,hI3,hg3,hu3⟩|⟨bl,l3,s3,F3,ho3,rfl,hO3,hg3,hu3⟩
 rotate_left
 ·exact⟨rfl,qba (hA4.out.off hO3 hg3 hu3) (by rw[hob2.out,AP.bind_stop ho3])⟩
 have hfin:=waa (AtF.done (t:=carveA A E n L c) (R:=λ(b:Bool) v _=>v= .bool b) (x:= .bool true) (hA4.out.step hI3 hg3 hu3) (hob2.out.trans (AP.bind_done ho3)) rfl);clear hpost hI3 hg3 hu3 ho3 hA4 hob2 hw3 hcv;go_wp2_with fail;go_ret;exact hfin.out
theorem qpv(h:AIn A E i l s F v ws w)(hD:DdE A E base n L)(k0:Boxed w b0 154 (.pointer (some ⟨A.ab,0,none⟩)))(m0:¬F b0){c:Int}(k1:Boxed w b1 3 (.int .i64 c))(m1:¬F b1)(hc:0<=c/\c<4)(hw:tknIn A E n L c ws E.sp i l s≠ .wild):
  Calls Tryz.prog 302 #[.pointer (some ⟨b0,0,none⟩),.pointer (some ⟨b1,0,none⟩)] w λe w'=>qb6 A E (tknIn A E n L c ws E.sp i l s) (λa x _=>x=anX a) F H v w e w':=by
 have hu:Upd (λ_=>False) w (w.alloc (.cells #[.int .i64 0,.int .i64 0,.int .u64 0] 60)):=(Upd.refl _ w).alloc _;have hA0:=(AtH.start (H:=H) h).new hu;have hL0:(w.alloc (.cells #[.int .i64 0,.int .i64 0,.int .u64 0] 60)).heap[w.heap.size]? =some (.cells #[.int .i64 0,.int .i64 0,.int .u64 0] 60 (0,0)):=heap_alloc_new w _;have hk0:Boxed (w.alloc (.cells #[.int .i64 0,.int .i64 0,.int .u64 0] 60)) b0 154 (.pointer (some ⟨A.ab,0,none⟩)):=qac k0 hu (λe=>e);have hk1:Boxed (w.alloc (.cells #[.int .i64 0,.int .i64 0,.int .u64 0] 60)) b1 3 (.int .i64 c):=qac k1 hu (λe=>e);obtain⟨W1,hW1⟩:∃W1,w.alloc (.cells #[.int .i64 0,.int .i64 0,.int .u64 0] 60)=W1:=⟨_,rfl⟩
 rw[hW1] at hA0 hL0 hu hk0 hk1;have hs1:w.heap.size<W1.heap.size:=by rw[<-hW1];simp
 have hF0:¬F w.heap.size:=λe=>by have:=h.i.lt e;omega
 have hR0:v.ownBlock≠some w.heap.size:=λe=>by have:=(h.a.row.lt _ e).2;omega
 have hlt:=h.a.lt;have hab:∀k,k=E.a\/k=E.b\/k=E.c->k≠w.heap.size:=λk hk e=>by have:=h.i.low k (.inr hk);omega
 have hw1:refA L A.who c E.sp i l s≠ .wild:=AP.tame hw;have hrf:=waa (qhu hA0.a hD c hw1);have c0:=hk0.cell;have c1:=hk1.cell;have hl0:=hk0.lt;have hl1:=hk1.lt;replace hA0:=waa hA0;replace hL0:=waa hL0;replace hk0:=waa hk0;replace hk1:=waa hk1;replace hw:=waa hw;clear h k0 k1 hu;go_enter Tryz.func302,Tryz.ntmps302;go_wp2_with fail;try rw[hW1]
 refine hrf.out.mono ?_;intro e V hpost;rcases hpost.done hw1 with ⟨z,i1,l1,s1,x1,F1,ho1,rfl,rfl,hI1,hg1,hu1⟩|⟨bl,l1,s1,F1,ho1,rfl,hO1,hg1,hu1⟩
 rotate_left
 ·exact⟨rfl,qal (hA0.out.off hO1 hg1 hu1) (by unfold tknIn;rw[AP.bind_stop ho1])⟩
 have hw2:=waa (AP.tame_next (t:=refA L A.who c) (f:=tknZ A E n L c ws) hw.out ho1);have hob1:=waa (show tknIn A E n L c ws E.sp i l s=tknZ A E n L c ws z E.sp i1 l1 s1 by unfold tknIn;rw[AP.bind_done ho1]);have hL1:=waa ((hu1.block _ hs1 hF0).trans hL0.out);have hF1:=hg1.no hs1 hF0;have hA1:=waa (hA0.out.step hI1 hg1 hu1);have hs2:=wak hs1 hu1.size;have j0:=qac hk0.out hu1 m0;have j1:=qac hk1.out hu1 m1;have n0:=hg1.no hl0 m0;have n1:=hg1.no hl1 m1;have d0:=j0.cell;have d1:=j1.cell;replace j0:=waa j0;replace j1:=waa j1;clear hpost hI1 hg1 hu1 hw ho1 hA0 hL0 hw1 hrf hk0 hk1 c0 c1;by_cases hz:z=0
 rotate_left
 ·have hw3:=waa (show tknL L A.who c ws E.sp i1 l1 s1≠ .wild from by have:=hw2.out;unfold tknZ at this;rw[if_neg hz] at this;exact this)
  have hob3:=waa (show tknIn A E n L c ws E.sp i l s=tknL L A.who c ws E.sp i1 l1 s1 from by rw[hob1.out,tknZ,if_neg hz]);clear hw2 hob1;have htk:=waa (qfc hA1.out.a hD c (AP.tame hw3.out));go_wp2_with fail;refine htk.out.mono ?_;intro e Vt hpost;rcases hpost.done (AP.tame hw3.out) with ⟨x,it,lt,st,xt,Ft,hot,rfl,rfl,hIt,hgt,hut⟩|⟨bl,lt,st,Ft,hot,rfl,hOt,hgt,hut⟩
  rotate_left
  ·exact⟨rfl,qal (hA1.out.off hOt hgt hut) (by rw[hob3.out];unfold tknL;rw[AP.bind_stop hot])⟩
  have hobt:tknIn A E n L c ws E.sp i l s= .done (if x= -1 then(9,0,0) else(0,x,0),ws) it lt st:=by rw[hob3.out];unfold tknL;rw[AP.bind_done hot];rfl
  have hAt:=hA1.out.step hIt hgt hut;have hLt:=(hut.block _ hs2 hF1).trans hL1.out;have hFt:=hgt.no hs2 hF1;have hst:=wak hs2 hut.size;clear hpost hIt hgt hut hot hA1 hL1 htk hw3 hob3;by_cases hx:x= -1
  ·rw[if_pos hx] at hobt
   subst hx;have hA9:=waa hAt;have hL9:=waa hLt;have hob9:=waa hobt;clear hAt hLt hobt;go_wp2_with fail;refine(qax 9 _).mono ?_;rintro e V9 ⟨rfl,hB⟩;have hA10:=hA9.out.below hB;have hL10:=(hB.block _ hst).trans hL9.out;unfold anV;obtain⟨⟨p0,p1,p2⟩,pf⟩:=qaf hL10;have hfin:=waa (AtH.done (t:=tknIn A E n L c ws) (R:=λa x _=>x=anX a) (a:=(9,0,0)) (x:=anX (9,0,0)) (hA10.own (B:=w.heap.size) Zo hFt hR0 (qam (.int .i64 9) (.int .i64 0) (.int .u64 ((0:Nat):Int))) hlt hab) hob9.out rfl);replace hL10:=waa hL10;clear hB hA10 hA9 hob9;go_wp2_with fail;refine qak rfl rfl rfl (qai (qan hL10.out _ _ _)) ?_;exact hfin.out
  ·rw[if_neg hx] at hobt
   obtain⟨⟨p0,p1,p2⟩,pf⟩:=qaf hLt;have hfin:=waa (AtH.done (t:=tknIn A E n L c ws) (R:=λa x _=>x=anX a) (a:=(0,x,0)) (x:=anX (0,x,0)) (hAt.own (B:=w.heap.size) Zo hFt hR0 (qam (.int .i64 0) (.int .i64 x) (.int .u64 ((0:Nat):Int))) hlt hab) hobt rfl);replace hLt:=waa hLt;clear hAt hobt;go_wp2_with fail;refine qak rfl rfl rfl (qai (qan hLt.out _ _ _)) ?_;exact hfin.out
 subst hz;have hw3:=waa (show((carveA A E n L c).bind (tknC L A.who c ws)) E.sp i1 l1 s1≠ .wild from by have:=hw2.out;unfold tknZ at this;rw[if_pos rfl] at this;exact this);have hob3:=waa (show tknIn A E n L c ws E.sp i l s=((carveA A E n L c).bind (tknC L A.who c ws)) E.sp i1 l1 s1 from by rw[hob1.out,tknZ,if_pos rfl]);have hcv:=waa (qri hA1.out.a hD c hc (AP.tame hw3.out));clear hw2 hob1;go_wp2_with fail;refine hcv.out.mono ?_;intro e V2 hpost;rcases hpost.done (AP.tame hw3.out) with ⟨b,i2,l2,s2,x2,F2,ho2,rfl,rfl,hI2,hg2,hu2⟩|⟨bl,l2,s2,F2,ho2,rfl,hO2,hg2,hu2⟩
 rotate_left
 ·exact⟨rfl,qal (hA1.out.off hO2 hg2 hu2) (by rw[hob3.out,AP.bind_stop ho2])⟩
 have hw4:=waa (AP.tame_next (t:=carveA A E n L c) (f:=tknC L A.who c ws) hw3.out ho2);have hob4:=waa (hob3.out.trans (AP.bind_done ho2));have hL2:=waa ((hu2.block _ hs2 hF1).trans hL1.out);have hF2:=hg2.no hs2 hF1;have hA2:=waa (hA1.out.step hI2 hg2 hu2);have hs3:=wak hs2 hu2.size;have f0:=qac j0.out hu2 n0;have f1:=qac j1.out hu2 n1;have o0:=hg2.no j0.out.lt n0;have o1:=hg2.no j1.out.lt n1;have e0:=f0.cell;have e1:=f1.cell;replace f0:=waa f0;replace f1:=waa f1;clear hpost hI2 hg2 hu2 ho2 hA1 hL1 hw3 hob3 hcv j0 j1 d0 d1;cases b with
 |false=>
  have hw5:=waa (show tknL L A.who c ws E.sp i2 l2 s2≠ .wild from hw4.out);have hob5:=waa (show tknIn A E n L c ws E.sp i l s=tknL L A.who c ws E.sp i2 l2 s2 from hob4.out);clear hw4 hob4;have htk:=waa (qfc hA2.out.a hD c (AP.tame hw5.out));go_wp2_with fail;refine htk.out.mono ?_;intro e Vt hpost;rcases hpost.done (AP.tame hw5.out) with ⟨x,it,lt,st,xt,Ft,hot,rfl,rfl,hIt,hgt,hut⟩|⟨bl,lt,st,Ft,hot,rfl,hOt,hgt,hut⟩
  rotate_left
  ·exact⟨rfl,qal (hA2.out.off hOt hgt hut) (by rw[hob5.out];unfold tknL;rw[AP.bind_stop hot])⟩
  have hobt:tknIn A E n L c ws E.sp i l s= .done (if x= -1 then(9,0,0) else(0,x,0),ws) it lt st:=by rw[hob5.out];unfold tknL;rw[AP.bind_done hot];rfl
  have hAt:=hA2.out.step hIt hgt hut;have hLt:=(hut.block _ hs3 hF2).trans hL2.out;have hFt:=hgt.no hs3 hF2;have hst:=wak hs3 hut.size;clear hpost hIt hgt hut hot hA2 hL2 htk hw5 hob5;by_cases hx:x= -1
  ·rw[if_pos hx] at hobt
   subst hx;have hA9:=waa hAt;have hL9:=waa hLt;have hob9:=waa hobt;clear hAt hLt hobt;go_wp2_with fail;refine(qax 9 _).mono ?_;rintro e V9 ⟨rfl,hB⟩;have hA10:=hA9.out.below hB;have hL10:=(hB.block _ hst).trans hL9.out;unfold anV;obtain⟨⟨p0,p1,p2⟩,pf⟩:=qaf hL10;have hfin:=waa (AtH.done (t:=tknIn A E n L c ws) (R:=λa x _=>x=anX a) (a:=(9,0,0)) (x:=anX (9,0,0)) (hA10.own (B:=w.heap.size) Zo hFt hR0 (qam (.int .i64 9) (.int .i64 0) (.int .u64 ((0:Nat):Int))) hlt hab) hob9.out rfl);replace hL10:=waa hL10;clear hB hA10 hA9 hob9;go_wp2_with fail;refine qak rfl rfl rfl (qai (qan hL10.out _ _ _)) ?_;exact hfin.out
  ·rw[if_neg hx] at hobt
   obtain⟨⟨p0,p1,p2⟩,pf⟩:=qaf hLt;have hfin:=waa (AtH.done (t:=tknIn A E n L c ws) (R:=λa x _=>x=anX a) (a:=(0,x,0)) (x:=anX (0,x,0)) (hAt.own (B:=w.heap.size) Zo hFt hR0 (qam (.int .i64 0) (.int .i64 x) (.int .u64 ((0:Nat):Int))) hlt hab) hobt rfl);replace hLt:=waa hLt;clear hAt hobt;go_wp2_with fail;refine qak rfl rfl rfl (qai (qan hLt.out _ _ _)) ?_;exact hfin.out
 |true=>
  have hw5:=waa (show((refA L A.who c).bind λ_=>tknL L A.who c ws) E.sp i2 l2 s2≠ .wild from hw4.out);have hob5:=waa (show tknIn A E n L c ws E.sp i l s=((refA L A.who c).bind λ_=>tknL L A.who c ws) E.sp i2 l2 s2 from hob4.out);have hrf:=waa (qhu hA2.out.a hD c (AP.tame hw5.out));clear hw4 hob4;go_wp2_with fail;refine hrf.out.mono ?_;intro e V3 hpost;rcases hpost.done (AP.tame hw5.out) with ⟨z3,i3,l3,s3,x3,F3,ho3,rfl,rfl,hI3,hg3,hu3⟩|⟨bl,l3,s3,F3,ho3,rfl,hO3,hg3,hu3⟩
  rotate_left
  ·exact⟨rfl,qal (hA2.out.off hO3 hg3 hu3) (by rw[hob5.out,AP.bind_stop ho3])⟩
  have hw6:=waa (AP.tame_next (t:=refA L A.who c) (f:=λ_=>tknL L A.who c ws) hw5.out ho3);have hob6:=waa (hob5.out.trans (AP.bind_done ho3));have hL3:=waa ((hu3.block _ hs3 hF2).trans hL2.out);have hF3:=hg3.no hs3 hF2;have hA3:=waa (hA2.out.step hI3 hg3 hu3);have hs4:=wak hs3 hu3.size;have g0:=(qac f0.out hu3 o0).cell;have g1:=(qac f1.out hu3 o1).cell;clear hpost hI3 hg3 hu3 ho3 hA2 hL2 hw5 hob5 hrf f0 f1 e0 e1;have htk:=waa (qfc hA3.out.a hD c (AP.tame hw6.out));go_wp2_with fail;refine htk.out.mono ?_;intro e Vt hpost;rcases hpost.done (AP.tame hw6.out) with ⟨x,it,lt,st,xt,Ft,hot,rfl,rfl,hIt,hgt,hut⟩|⟨bl,lt,st,Ft,hot,rfl,hOt,hgt,hut⟩
  rotate_left
  ·exact⟨rfl,qal (hA3.out.off hOt hgt hut) (by rw[hob6.out];unfold tknL;rw[AP.bind_stop hot])⟩
  have hobt:tknIn A E n L c ws E.sp i l s= .done (if x= -1 then(9,0,0) else(0,x,0),ws) it lt st:=by rw[hob6.out];unfold tknL;rw[AP.bind_done hot];rfl
  have hAt:=hA3.out.step hIt hgt hut;have hLt:=(hut.block _ hs4 hF3).trans hL3.out;have hFt:=hgt.no hs4 hF3;have hst:=wak hs4 hut.size;clear hpost hIt hgt hut hot hA3 hL3 htk hw6 hob6;by_cases hx:x= -1
  ·rw[if_pos hx] at hobt
   subst hx;have hA9:=waa hAt;have hL9:=waa hLt;have hob9:=waa hobt;clear hAt hLt hobt;go_wp2_with fail;refine(qax 9 _).mono ?_;rintro e V9 ⟨rfl,hB⟩;have hA10:=hA9.out.below hB;have hL10:=(hB.block _ hst).trans hL9.out;unfold anV;obtain⟨⟨p0,p1,p2⟩,pf⟩:=qaf hL10;have hfin:=waa (AtH.done (t:=tknIn A E n L c ws) (R:=λa x _=>x=anX a) (a:=(9,0,0)) (x:=anX (9,0,0)) (hA10.own (B:=w.heap.size) Zo hFt hR0 (qam (.int .i64 9) (.int .i64 0) (.int .u64 ((0:Nat):Int))) hlt hab) hob9.out rfl);replace hL10:=waa hL10;clear hB hA10 hA9 hob9;go_wp2_with fail;refine qak rfl rfl rfl (qai (qan hL10.out _ _ _)) ?_;exact hfin.out
  ·rw[if_neg hx] at hobt
   obtain⟨⟨p0,p1,p2⟩,pf⟩:=qaf hLt;have hfin:=waa (AtH.done (t:=tknIn A E n L c ws) (R:=λa x _=>x=anX a) (a:=(0,x,0)) (x:=anX (0,x,0)) (hAt.own (B:=w.heap.size) Zo hFt hR0 (qam (.int .i64 0) (.int .i64 x) (.int .u64 ((0:Nat):Int))) hlt hab) hobt rfl);replace hLt:=waa hLt;clear hAt hobt;go_wp2_with fail;refine qak rfl rfl rfl (qai (qan hLt.out _ _ _)) ?_;exact hfin.out
theorem qq2(h:AIn A E i l s F v ws w)(hD:DdE A E base n L)(c:Int)(hc:0<=c/\c<4)(hw:tknA A E n L c ws E.sp i l s≠ .wild)(hH:∀k,H k->k<w.heap.size):
  Calls Tryz.prog 256 #[.pointer (some ⟨A.ab,0,none⟩),.int .i64 c] w λe w'=>qb6 A E (tknA A E n L c ws E.sp i l s) (λa x _=>x=anX a) F H v w e w':=by
 have hmf:∀(fn:Fn) (first cap:Array Value) (w:World),(Instr.makeFunc fn first cap).run Tryz.prog w= .ok (.func fn first cap) w:=λ_ _ _ _=>rfl
 have hu:Upd (λ_=>False) w (((w.alloc (.cells #[.pointer (some ⟨A.ab,0,none⟩)] 154)).alloc (.cells #[.int .i64 c] 3)).alloc (.cells #[.int .i64 0,.int .i64 0,.int .u64 0] 60)):=(((Upd.refl _ w).alloc _).alloc _).alloc _;have hA0:=(AtH.start (H:=H) h).new hu;have hL0:(((w.alloc (.cells #[.pointer (some ⟨A.ab,0,none⟩)] 154)).alloc (.cells #[.int .i64 c] 3)).alloc (.cells #[.int .i64 0,.int .i64 0,.int .u64 0] 60)).heap[w.heap.size+2]? =some (.cells #[.int .i64 0,.int .i64 0,.int .u64 0] 60 (0,0)):=qad Zs _ _;have hk0:Boxed (((w.alloc (.cells #[.pointer (some ⟨A.ab,0,none⟩)] 154)).alloc (.cells #[.int .i64 c] 3)).alloc (.cells #[.int .i64 0,.int .i64 0,.int .u64 0] 60)) w.heap.size 154 (.pointer (some ⟨A.ab,0,none⟩)):=qag (qag (qad rfl _ _) _) _;have hk1:Boxed (((w.alloc (.cells #[.pointer (some ⟨A.ab,0,none⟩)] 154)).alloc (.cells #[.int .i64 c] 3)).alloc (.cells #[.int .i64 0,.int .i64 0,.int .u64 0] 60)) (w.heap.size+1) 3 (.int .i64 c):=qag (qad Zs _ _) _;obtain⟨W1,hW1⟩:∃W1,((w.alloc (.cells #[.pointer (some ⟨A.ab,0,none⟩)] 154)).alloc (.cells #[.int .i64 c] 3)).alloc (.cells #[.int .i64 0,.int .i64 0,.int .u64 0] 60)=W1:=⟨_,rfl⟩
 rw[hW1] at hA0 hL0 hu hk0 hk1;have hs1:w.heap.size+2<W1.heap.size:=by rw[<-hW1];simp
 have hF0:¬F (w.heap.size+2):=λe=>by have:=h.i.lt e;omega
 have hFk:∀j,w.heap.size<=j->¬F j:=λj hj e=>by have:=h.i.lt e;omega
 have hR0:v.ownBlock≠some (w.heap.size+2):=λe=>by have:=(h.a.row.lt _ e).2;omega
 have hlt:=h.a.lt;have hab:∀k,k=E.a\/k=E.b\/k=E.c->k≠w.heap.size+2:=λk hk e=>by have:=h.i.low k (.inr hk);omega
 have hHB:¬H (w.heap.size+2):=λe=>by have:=hH _ e;omega
 have hw1:takA L A.who c E.sp i l s≠ .wild:=AP.tame hw;have htk:=waa (qfc hA0.a hD c hw1);have c0:=hk0.cell;have c1:=hk1.cell;have m0:=hFk w.heap.size (wah _);have m1:=hFk (w.heap.size+1) Zo;replace hA0:=waa hA0;replace hL0:=waa hL0;replace hk0:=waa hk0;replace hk1:=waa hk1;replace hw:=waa hw;clear h hu hFk;go_enter Tryz.func256,Tryz.ntmps256;go_wp2_with fail;try rw[hW1]
 refine htk.out.mono ?_;intro e V hpost;rcases hpost.done hw1 with ⟨x,i1,l1,s1,x1,F1,ho1,rfl,rfl,hI1,hg1,hu1⟩|⟨bl,l1,s1,F1,ho1,rfl,hO1,hg1,hu1⟩
 rotate_left
 ·exact⟨rfl,qal (hA0.out.off hO1 hg1 hu1) (by unfold tknA;rw[AP.bind_stop ho1])⟩
 have hw2:=waa (AP.tame_next (t:=takA L A.who c) (f:=tknO A E n L c ws) hw.out ho1);have hob1:=waa (show tknA A E n L c ws E.sp i l s=tknO A E n L c ws x E.sp i1 l1 s1 by unfold tknA;rw[AP.bind_done ho1]);have hL1:=(hu1.block _ hs1 hF0).trans hL0.out;have hF1:=hg1.no hs1 hF0;have hA1:=hA0.out.step hI1 hg1 hu1;have hs2:=wak hs1 hu1.size;have j0:=qac hk0.out hu1 m0;have j1:=qac hk1.out hu1 m1;have n0:=hg1.no hk0.out.lt m0;have n1:=hg1.no hk1.out.lt m1;have d0:=j0.cell;have d1:=j1.cell;by_cases hx:x= -1
 rotate_left
 ·have hob2:tknA A E n L c ws E.sp i l s= .done ((0,x,0),ws) i1 l1 s1:=by rw[hob1.out,tknO,if_pos hx];rfl
  obtain⟨⟨p0,p1,p2⟩,pf⟩:=qaf hL1;have hfin:=waa (AtH.done (t:=tknA A E n L c ws) (R:=λa x _=>x=anX a) (a:=(0,x,0)) (x:=anX (0,x,0)) (hA1.own (B:=w.heap.size+2) Zo hF1 hR0 (qam (.int .i64 0) (.int .i64 x) (.int .u64 ((0:Nat):Int))) hlt hab) hob2 rfl);replace hL1:=waa hL1;clear hpost hI1 hg1 hu1 hw ho1 hA0 hL0 hw1 htk hk0 hk1 c0 c1 j0 j1 hA1 hob1 hob2 hw2;go_wp2_with fail;refine qak rfl rfl rfl (qai (qan hL1.out _ _ _)) ?_;exact hfin.out
 subst hx;have hw3:qbe E 0 (tknIn A E n L c ws) E.sp i1 l1 s1≠ .wild:=hw2.out;have hob2:=waa (show tknA A E n L c ws E.sp i l s=qbe E 0 (tknIn A E n L c ws) E.sp i1 l1 s1 from hob1.out);have hun:=waa (qit (H:=H) (FN:=302) (fcaps:=#[.pointer (some ⟨w.heap.size,0,none⟩),.pointer (some ⟨w.heap.size+1,0,none⟩)]) (t:=tknIn A E n L c ws) (λargs w=>by simp[go_sem]) hA1.a 0 hw3 (λk hk=>by have:=hH k hk;omega) (λV' i' l' s' F' hI hU hG hw'=>
  qpv hI hD (qac j0 hU n0) (hG.no j0.lt n0) (qac j1 hU n1) (hG.no j1.lt n1) hc hw'))
 replace hA1:=waa hA1;replace hL1:=waa hL1;clear hpost hI1 hg1 hu1 hw ho1 hA0 hL0 hw1 htk hk0 hk1 c0 c1 j0 j1 hob1 hw2;go_wp2_with fail;refine hun.out.mono ?_;intro e V2 hpost;obtain⟨hu2,hp2⟩:=hpost;cases ho2:qbe E 0 (tknIn A E n L c ws) E.sp i1 l1 s1 with
 |wild=>exact absurd ho2 hw3
 |stop bl l2 s2=>
  rw[ho2] at hp2;obtain⟨F2,rfl,hO2,hg2⟩:=hp2;exact⟨rfl,qal (hA1.out.offH hO2 hg2 hu2) (by rw[hob2.out];exact ho2)⟩
 |done a i2 l2 s2=>
  rw[ho2] at hp2;obtain⟨x2,F2,v2,rfl,rfl,hI2,hg2,hr2⟩:=hp2;have hob3:=hob2.out.trans ho2;have hnB:¬(F1 (w.heap.size+2)\/ownH A v H (w.heap.size+2)):=by
   rintro(e|e|e|e)
   ·exact hF1 e
   ·omega
   ·exact hR0 e
   ·exact hHB e
  have hL2:=(hu2.block _ hs2 hnB).trans hL1.out;have hF2:=hg2.no hs2 hF1;have hR2:v2.ownBlock≠some (w.heap.size+2):=λe=>(hr2 _ e).elim hR0 (λe=>by omega)
  have hA2:=hA1.out.next hI2 hg2 hu2 hr2;obtain⟨⟨a0,a1,a2⟩,aw⟩:=a;unfold anX anV;dsimp only
  obtain⟨⟨q0,q1,q2⟩,qf⟩:=qaf hL2;have hfin:=waa (AtH.done (t:=tknA A E n L c ws) (R:=λa x _=>x=anX a) (a:=(a0,a1,a2)) (x:=anX (a0,a1,a2)) (hA2.own (B:=w.heap.size+2) Zo hF2 hR2 (qam (.int .i64 a0) (.int .i64 a1) (.int .u64 (a2:Int))) hlt hab) hob3 rfl);replace hL2:=waa hL2;clear hA2 hI2 hg2 hu2 hr2 hA1 hL1 hun hob2 hob3 ho2;go_wp2_with fail;refine qak rfl rfl rfl (qai (qan hL2.out _ _ _)) ?_;exact hfin.out
end
end Go.Proofs.YtgjhkafggagniaaGreat
