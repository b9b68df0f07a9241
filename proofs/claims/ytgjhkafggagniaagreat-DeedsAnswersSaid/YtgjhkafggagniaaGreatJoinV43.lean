/- Parts. No condition. -/
import Derived.Test.YtgjhkafggagniaaGreatJoinV38
import Derived.Test.YtgjhkafggagniaaGreatJoinV42
set_option linter.unusedVariables false
set_option maxRecDepth 100000
set_option maxHeartbeats 8000000
namespace Go.Proofs.YtgjhkafggagniaaGreat
open Go Go.RowKit
noncomputable def doneA (A:AC) (E:DP HS) (n L:Nat) (ws:List (Int×Nat)):DAP:=
 if(A.kind<1\/9<=A.kind)\/qa3 A.s A.l A.r A.who<0 then errA 1 ws else if A.kind=1 then mallocA A E n L ws else if A.kind=2 then freeA A E L ws else qbd
theorem qmu{W:World}{g:Nat}(h:W.heap[g]? =some (.cells #[.nilFunc,.nilFunc,.nilFunc,.nilFunc,.nilFunc,.nilFunc,.nilFunc,.nilFunc,.nilFunc] 221 (0,0))):(W.cell? ⟨g,0,none⟩=some .nilFunc/\W.cell? ⟨g,1,none⟩=some .nilFunc/\W.cell? ⟨g,2,none⟩=some .nilFunc/\W.cell? ⟨g,3,none⟩=some .nilFunc/\W.cell? ⟨g,4,none⟩=some .nilFunc/\W.cell? ⟨g,5,none⟩=some .nilFunc/\W.cell? ⟨g,6,none⟩=some .nilFunc/\W.cell? ⟨g,7,none⟩=some .nilFunc/\W.cell? ⟨g,8,none⟩=some .nilFunc)/\∀j,W.frozen? ⟨g,j,none⟩=false:=⟨⟨qab h 0,qab h 1,qab h 2,qab h 3,qab h 4,qab h 5,qab h 6,qab h 7,qab h 8⟩,λj=>qah h j⟩
theorem qvo(W:World)(g:Nat):Upd (λj=>j=g) W (((((((((W.setCell ⟨g,0,none⟩ (.nilFunc)).setCell ⟨g,1,none⟩ (.func (.func 166) #[] #[])).setCell ⟨g,2,none⟩ (.func (.func 167) #[] #[])).setCell ⟨g,3,none⟩ (.func (.func 168) #[] #[])).setCell ⟨g,4,none⟩ (.func (.func 169) #[] #[])).setCell ⟨g,5,none⟩ (.func (.func 170) #[] #[])).setCell ⟨g,6,none⟩ (.func (.func 171) #[] #[])).setCell ⟨g,7,none⟩ (.func (.func 172) #[] #[])).setCell ⟨g,8,none⟩ (.func (.func 173) #[] #[])):=(((((((((Upd.refl (λj=>j=g) W).setCell (p:=⟨g,0,none⟩) (.inl rfl) _).setCell (p:=⟨g,1,none⟩) (.inl rfl) _).setCell (p:=⟨g,2,none⟩) (.inl rfl) _).setCell (p:=⟨g,3,none⟩) (.inl rfl) _).setCell (p:=⟨g,4,none⟩) (.inl rfl) _).setCell (p:=⟨g,5,none⟩) (.inl rfl) _).setCell (p:=⟨g,6,none⟩) (.inl rfl) _).setCell (p:=⟨g,7,none⟩) (.inl rfl) _).setCell (p:=⟨g,8,none⟩) (.inl rfl) _
theorem qvx{W:World}{g:Nat}(h:W.heap[g]? =some (.cells #[.nilFunc,.nilFunc,.nilFunc,.nilFunc,.nilFunc,.nilFunc,.nilFunc,.nilFunc,.nilFunc] 221 (0,0))):(((((((((W.setCell ⟨g,0,none⟩ (.nilFunc)).setCell ⟨g,1,none⟩ (.func (.func 166) #[] #[])).setCell ⟨g,2,none⟩ (.func (.func 167) #[] #[])).setCell ⟨g,3,none⟩ (.func (.func 168) #[] #[])).setCell ⟨g,4,none⟩ (.func (.func 169) #[] #[])).setCell ⟨g,5,none⟩ (.func (.func 170) #[] #[])).setCell ⟨g,6,none⟩ (.func (.func 171) #[] #[])).setCell ⟨g,7,none⟩ (.func (.func 172) #[] #[])).setCell ⟨g,8,none⟩ (.func (.func 173) #[] #[])).heap[g]? =some (.cells qe0 221 (0,0)):=qaj (qaj (qaj (qaj (qaj (qaj (qaj (qaj (qaj h 0 _) 1 _) 2 _) 3 _) 4 _) 5 _) 6 _) 7 _) 8 _
section
variable {A:AC} {E:DP HS} {i i':Nat} {l l':List Nat} {s s':DM×HS} {F F' H:Nat->Prop} {v v':Value} {ws ws' more:List (Int×Nat)} {w w' w2:World} {base n L b0 b1 b2:Nat} {e:Ending}
theorem qu2(h:AIn A E i l s F v ws w)(hD:DdE A E base n L)(ho:-9223372036854775808<=A.obj/\A.obj<=9223372036854775807)(hm:ws.length<=100){eX:Option Addr}{en ec:Nat}(hed:A.ed= .slice eX en ec)(hw:doneA A E n L ws E.sp i l s≠ .wild)(hH:∀k,H k->k<w.heap.size):
  Calls Tryz.prog 70 #[.pointer (some ⟨A.ab,0,none⟩)] w λe w'=>qb6 A E (doneA A E n L ws E.sp i l s) (λa x _=>x=anX a) F H v w e w':=by
 have hs1:∀(a:Addr) (fn:Fn) (first cap:Array Value) (m:Mode) (W:World),(store a (.func fn first cap) m).run Tryz.prog W=stored Tryz.prog W a (.func fn first cap) m:=λa fn first cap m W=>run_store Tryz.prog W a _ m rfl
 have hs2:∀(a:Addr) (m:Mode) (W:World),(store a .nilFunc m).run Tryz.prog W=stored Tryz.prog W a .nilFunc m:=λa m W=>run_store Tryz.prog W a _ m rfl
 have hu:Upd (λ_=>False) w (w.alloc (.cells #[.int .i64 0,.int .i64 0,.int .u64 0] 60)):=(Upd.refl _ w).alloc _;have hA0:=(AtH.start (H:=H) h).new hu;have hL0:(w.alloc (.cells #[.int .i64 0,.int .i64 0,.int .u64 0] 60)).heap[w.heap.size]? =some (.cells #[.int .i64 0,.int .i64 0,.int .u64 0] 60 (0,0)):=heap_alloc_new w _;obtain⟨W1,hW1⟩:∃W1,w.alloc (.cells #[.int .i64 0,.int .i64 0,.int .u64 0] 60)=W1:=⟨_,rfl⟩
 rw[hW1] at hA0 hL0 hu;have hs0:w.heap.size<W1.heap.size:=(waj.1 hL0).1;have hF0:¬F w.heap.size:=λe=>by have:=h.i.lt e;omega
 have hR0:v.ownBlock≠some w.heap.size:=λe=>by have:=(h.a.row.lt _ e).2;omega
 have hHB:¬H w.heap.size:=λe=>by have:=hH _ e;omega
 have hlt:=h.a.lt;have hab:∀k,k=E.a\/k=E.b\/k=E.c->k≠w.heap.size:=λk hk e=>by have:=h.i.low k (.inr hk);omega
 obtain⟨⟨c5,-⟩,-⟩:=hA0.a.a.call;obtain⟨kd,hkd⟩:∃kd,A.kind=kd:=⟨_,rfl⟩
 rw[hkd] at c5;have hE:∀k,k=E.a\/k=E.b\/k=E.c->k<w.heap.size:=λk hk=>h.i.low k (.inr hk)
 have hFl:∀k,F k->k<w.heap.size:=λk hk=>h.i.lt hk
 have hvl:∀k,v.ownBlock=some k->k<w.heap.size:=λk hk=>(h.a.row.lt k hk).2
 have hkn:=waa (λV=>qs0 V);have hla:=waa (λV=>qez A.s A.l A.r A.who V);replace hA0:=waa hA0;replace hL0:=waa hL0;replace hs1:=waa hs1;replace hs2:=waa hs2;clear h hu;go_enter Tryz.func70,Tryz.ntmps70;go_upto_region 1 with fail
 try rw[hW1]
 refine wp_region_held_drew (S:=(λU=>U.cell? ⟨A.ab,5,none⟩=some (.int .i64 kd))) Zk (c5) (λhHeld=>?_);refine wpAnyH_take (i:=0) (v:=?_) rfl Zk Zk Zk (λ_ _ _ h=>h) (Or.inl ⟨by rfl,?_⟩) Za ?_;rotate_left;(·intro u h;(try dsimp only at h);(try simp only[wab,wac]);go_simp;try with_reducible rfl);try simp only[Act.put,waf,wae,wag,wab,wac]
 refine wpAnyH_take (i:=1) (v:=?_) rfl Zk Zk Zk (λ_ _ _ h=>h) (Or.inl ⟨by rfl,?_⟩) Za ?_;rotate_left;(·intro u h;(try dsimp only at h);(try simp only[wab,wac,wad]);go_simp;try with_reducible rfl);try simp only[Act.put,waf,wae,wag,wab,wac,wad]
 refine wpAnyH_take (i:=2) (v:=?_) rfl Zk Zk Zk (λ_ _ _ h=>h) (Or.inl ⟨by rfl,?_⟩) Za ?_;rotate_left;(·intro u h;(try dsimp only at h);(try simp only[wab,wac,wad]);go_simp;try with_reducible rfl);try simp only[Act.put,waf,wae,wag,wab,wac,wad]
 refine wpAnyH_take (i:=3) (v:=?_) rfl Zk Zk Zk (λ_ _ _ h=>h) (Or.inl ⟨by rfl,?_⟩) Za ?_;rotate_left;(·intro u h;(try dsimp only at h);(try simp only[wab,wac,wad]);go_simp;try with_reducible rfl);try simp only[Act.put,waf,wae,wag,wab,wac,wad]
 refine wpAnyH_take (i:=4) (v:=?_) rfl Zk Zk Zk (λ_ _ _ h=>h) (Or.inl ⟨by rfl,?_⟩) Za ?_;rotate_left;(·intro u h;(try dsimp only at h);(try simp only[wab,wac,wad]);go_simp;try with_reducible rfl);try simp only[Act.put,waf,wae,wag,wab,wac,wad]
 refine wpAnyH_ready (rs:=[5,6]) Zk Zs ?_;refine AllReadyH.cons rfl (λK hK=>?_) (AllReadyH.cons rfl (λK hK=>?_) AllReadyH.nil)
 ·(try simp only[wab,wac,wad])
  go_simp
  refine(hkn.out _).mono ?_;rintro e V ⟨rfl,hBV0⟩;have hBV:Below W1.heap.size W1 V:=(wai W1.heap.size W1).drew.trans hBV0;have hA1:=hA0.out.below hBV;have hL1:=(hBV.block _ hs0).trans hL0.out;have e5:=qaa hBV c5;have hWV:W1.heap.size<=V.heap.size:=hBV.size;replace hA1:=waa hA1;replace hL1:=waa hL1;clear hBV hBV0;go_wp2_with fail;refine hK.out _ _ (e5) (λhHeld2=>?_);clear hK K hHeld;have hHeld:=hHeld2;clear hHeld2;try simp only[Act.put,waf,wae,wag,wab,wac,wad]
  refine wpAnyH_ready (rs:=[6]) Zk Zs ?_;refine AllReadyH.cons rfl (λK hK=>?_) AllReadyH.nil
  (try simp only[wab,wac,wad])
  go_simp
  have hBa:=(wai V.heap.size V).alloc (wah _) (.cells #[.nilFunc,.nilFunc,.nilFunc,.nilFunc,.nilFunc,.nilFunc,.nilFunc,.nilFunc,.nilFunc] 221);have hA2:=hA1.out.below hBa;have hL2:=(hBa.block _ (waj.1 hL1.out).1).trans hL1.out;have hK2:(V.alloc (.cells #[.nilFunc,.nilFunc,.nilFunc,.nilFunc,.nilFunc,.nilFunc,.nilFunc,.nilFunc,.nilFunc] 221)).heap[V.heap.size]? =some (.cells #[.nilFunc,.nilFunc,.nilFunc,.nilFunc,.nilFunc,.nilFunc,.nilFunc,.nilFunc,.nilFunc] 221 (0,0)):=heap_alloc_new V _;have d5:=qaa hBa e5;obtain⟨KB,hKB⟩:∃KB,V.heap.size=KB:=⟨_,rfl⟩
  obtain⟨WA,hWA⟩:∃WA,(V.alloc (.cells #[.nilFunc,.nilFunc,.nilFunc,.nilFunc,.nilFunc,.nilFunc,.nilFunc,.nilFunc,.nilFunc] 221))=WA:=⟨_,rfl⟩
  rw[hWA] at hA2 hL2 hK2 d5;rw[hKB] at hK2;try rw[hWA]
  try rw[hKB]
  replace hA2:=waa hA2;replace hL2:=waa hL2;replace hK2:=waa hK2;clear hBa;refine hK.out _ _ (d5) (λhHeld2=>?_);clear hK K hHeld;have hHeld:=hHeld2;clear hHeld2;try simp only[Act.put,waf,wae,wag,wab,wac,wad]
  refine wpAnyH_take (i:=7) (v:=?_) rfl Zk Zk Zk (λ_ _ _ h=>h) (Or.inl ⟨by rfl,?_⟩) Za ?_;rotate_left;(·intro u h;(try dsimp only at h);(try simp only[wab,wac,wad]);go_simp;try with_reducible rfl);try simp only[Act.put,waf,wae,wag,wab,wac,wad]
  refine wpAnyH_ready (rs:=[8]) Zk Zs ?_;refine AllReadyH.cons rfl (λK hK=>?_) AllReadyH.nil;have hs1':=hs1.out;have hs2':=hs2.out;have hkc:=qmu hK2.out;obtain⟨⟨b0_,b1_,b2_,b3_,b4_,b5_,b6_,b7_,b8_⟩,bf_⟩:=hkc;unfold qe0
  (try simp only[wab,wac,wad])
  go_simp
  have huT:=qvo WA KB;have hKw:w.heap.size<KB:=Zo
  have hKF:¬F KB:=λe=>by have:=hFl _ e;omega
  have hKR:v.ownBlock≠some KB:=λe=>by have:=hvl _ e;omega
  have hne:KB≠w.heap.size/\w.heap.size<KB:=Zo
  have hA9:=hA2.out.own (B:=KB) Zo hKF hKR huT hlt (λk hk e=>by have:=hE k hk;omega);have hK9:=qvx hK2.out;have hL9:=huT.block2 hL2.out (λe=>by omega);have f5:=(huT.cell (p:=⟨A.ab,5,none⟩) (wal _ _ d5) (λe=>by dsimp only at e;omega)).trans d5;obtain⟨V9,hV9⟩:∃V9,(((((((((WA.setCell ⟨KB,0,none⟩ (.nilFunc)).setCell ⟨KB,1,none⟩ (.func (.func 166) #[] #[])).setCell ⟨KB,2,none⟩ (.func (.func 167) #[] #[])).setCell ⟨KB,3,none⟩ (.func (.func 168) #[] #[])).setCell ⟨KB,4,none⟩ (.func (.func 169) #[] #[])).setCell ⟨KB,5,none⟩ (.func (.func 170) #[] #[])).setCell ⟨KB,6,none⟩ (.func (.func 171) #[] #[])).setCell ⟨KB,7,none⟩ (.func (.func 172) #[] #[])).setCell ⟨KB,8,none⟩ (.func (.func 173) #[] #[]))=V9:=⟨_,rfl⟩
  rw[hV9] at hA9 hK9 hL9 f5;try rw[hV9]
  replace hA9:=waa hA9;replace hK9:=waa hK9;replace hL9:=waa hL9;clear huT b0_ b1_ b2_ b3_ b4_ b5_ b6_ b7_ b8_ bf_ hs1' hs2';refine hK.out _ _ (f5) (λhHeld2=>?_);clear hK K hHeld;have hHeld:=hHeld2;clear hHeld2;try simp only[Act.put,waf,wae,wag,wab,wac,wad]
  refine wpAnyH_done Zk ?_ _;have hs9:w.heap.size<V9.heap.size:=(waj.1 hL9.out).1;have hk9:=(waj.1 hK9.out).1;obtain⟨⟨-,k1,k2,k3⟩,⟨-,k6,-⟩,-⟩:=hA9.out.a.a.cells;have hA9d:=waa (hA9.out.new ((Upd.refl (λ_=>False) _).drew));go_upto_region 2 with fail
  by_cases hk1:kd<1
  ·have hobR:doneA A E n L ws E.sp i l s= .done ((1,0,0),ws) i l s:=by rw[doneA,if_pos (.inl (.inl Zo))];rfl
   clear hw;refine wp_region_held_drew (S:=(λU=>U.cell? ⟨A.ab,5,none⟩=some (.int .i64 kd))) Zk (f5) (λhHeld=>?_);refine wpAnyH_take (i:=0) (v:=?_) rfl Zk Zk Zk (λ_ _ _ h=>h) (Or.inl ⟨by rfl,?_⟩) Za ?_;rotate_left;(·intro u h;(try dsimp only at h);(try simp only[wab,wac]);go_simp;try with_reducible rfl);try simp only[Act.put,waf,wae,wag,wab,wac]
   refine wpAnyH_take (i:=1) (v:=?_) rfl Zk Zk Zk (λ_ _ _ h=>h) (Or.inl ⟨by rfl,?_⟩) Za ?_;rotate_left;(·intro u h;(try dsimp only at h);(try simp only[wab,wac,wad]);go_simp;try with_reducible rfl);try simp only[Act.put,waf,wae,wag,wab,wac,wad]
   refine wpAnyH_take (i:=2) (v:=?_) rfl Zk Zk Zk (λ_ _ _ h=>h) (Or.inl ⟨by rfl,?_⟩) Za ?_;rotate_left;(·intro u h;(try dsimp only at h);(try simp only[wab,wac,wad]);go_simp;try with_reducible rfl);try simp only[Act.put,waf,wae,wag,wab,wac,wad]
   refine wpAnyH_take (i:=3) (v:=undef) rfl Zk Zk Zk (λ_ _ _ h=>h) (Or.inr ⟨by rfl,rfl⟩) Za ?_;try simp only[Act.put,waf,wae,wag,wab,wac,wad]
   refine wpAnyH_take (i:=4) (v:=undef) rfl Zk Zk Zk (λ_ _ _ h=>h) (Or.inr ⟨by rfl,rfl⟩) Za ?_;try simp only[Act.put,waf,wae,wag,wab,wac,wad]
   refine wpAnyH_take (i:=5) (v:=?_) rfl Zk Zk Zk (λ_ _ _ h=>h) (Or.inl ⟨by rfl,?_⟩) Za ?_;rotate_left;(·intro u h;(try dsimp only at h);(try simp only[wab,wac,wad]);go_simp;try with_reducible rfl);try simp only[Act.put,waf,wae,wag,wab,wac,wad]
   refine wpAnyH_take (i:=6) (v:=?_) rfl Zk Zk Zk (λ_ _ _ h=>h) (Or.inl ⟨by rfl,?_⟩) Za ?_;rotate_left;(·intro u h;(try dsimp only at h);(try simp only[wab,wac,wad]);go_simp;try with_reducible rfl);try simp only[Act.put,waf,wae,wag,wab,wac,wad]
   refine wpAnyH_take (i:=7) (v:=undef) rfl Zk Zk Zk (λ_ _ _ h=>h) (Or.inr ⟨by rfl,rfl⟩) Za ?_;try simp only[Act.put,waf,wae,wag,wab,wac,wad]
   refine wpAnyH_take (i:=8) (v:=undef) rfl Zk Zk Zk (λ_ _ _ h=>h) (Or.inr ⟨by rfl,rfl⟩) Za ?_;try simp only[Act.put,waf,wae,wag,wab,wac,wad]
   refine wpAnyH_take (i:=9) (v:=undef) rfl Zk Zk Zk (λ_ _ _ h=>h) (Or.inr ⟨by rfl,rfl⟩) Za ?_;try simp only[Act.put,waf,wae,wag,wab,wac,wad]
   refine wpAnyH_take (i:=10) (v:=undef) rfl Zk Zk Zk (λ_ _ _ h=>h) (Or.inr ⟨by rfl,rfl⟩) Za ?_;try simp only[Act.put,waf,wae,wag,wab,wac,wad]
   refine wpAnyH_take (i:=11) (v:=undef) rfl Zk Zk Zk (λ_ _ _ h=>h) (Or.inr ⟨by rfl,rfl⟩) Za ?_;try simp only[Act.put,waf,wae,wag,wab,wac,wad]
   refine wpAnyH_take (i:=12) (v:=undef) rfl Zk Zk Zk (λ_ _ _ h=>h) (Or.inr ⟨by rfl,rfl⟩) Za ?_;try simp only[Act.put,waf,wae,wag,wab,wac,wad]
   refine wpAnyH_take (i:=13) (v:=undef) rfl Zk Zk Zk (λ_ _ _ h=>h) (Or.inr ⟨by rfl,rfl⟩) Za ?_;try simp only[Act.put,waf,wae,wag,wab,wac,wad]
   refine wpAnyH_take (i:=14) (v:=undef) rfl Zk Zk Zk (λ_ _ _ h=>h) (Or.inr ⟨by rfl,rfl⟩) Za ?_;try simp only[Act.put,waf,wae,wag,wab,wac,wad]
   refine wpAnyH_take (i:=15) (v:=undef) rfl Zk Zk Zk (λ_ _ _ h=>h) (Or.inr ⟨by rfl,rfl⟩) Za ?_;try simp only[Act.put,waf,wae,wag,wab,wac,wad]
   refine wpAnyH_take (i:=16) (v:=undef) rfl Zk Zk Zk (λ_ _ _ h=>h) (Or.inr ⟨by rfl,rfl⟩) Za ?_;try simp only[Act.put,waf,wae,wag,wab,wac,wad]
   refine wpAnyH_take (i:=17) (v:=undef) rfl Zk Zk Zk (λ_ _ _ h=>h) (Or.inr ⟨by rfl,rfl⟩) Za ?_;try simp only[Act.put,waf,wae,wag,wab,wac,wad]
   refine wpAnyH_take (i:=18) (v:=?_) rfl Zk Zk Zk (λ_ _ _ h=>h) (Or.inl ⟨by rfl,?_⟩) Za ?_;rotate_left;(·intro u h;(try dsimp only at h);(try simp only[wab,wac,wad]);go_simp;try with_reducible rfl);try simp only[Act.put,waf,wae,wag,wab,wac,wad]
   refine wpAnyH_done Zk ?_ _;go_wp2_with fail;refine(qax 1 _).mono ?_;rintro e VR ⟨rfl,hBR⟩;have hAR:=hA9d.out.below hBR;have hLR:=(hBR.block _ (waj.1 hL9.out).1).trans hL9.out;unfold anV;obtain⟨⟨p0,p1,p2⟩,pf⟩:=qaf hLR;have hfin:=waa (AtH.done (t:=doneA A E n L ws) (R:=λa x _=>x=anX a) (a:=(1,0,0)) (x:=anX (1,0,0)) (hAR.own (B:=w.heap.size) Zo hF0 hR0 (qam (.int .i64 1) (.int .i64 0) (.int .u64 ((0:Nat):Int))) hlt hab) hobR rfl);replace hLR:=waa hLR;clear hBR hAR;go_wp2_with fail;refine qak rfl rfl rfl (qai (qan hLR.out _ _ _)) ?_;exact hfin.out
  by_cases hk2:9<=kd
  ·have hobR:doneA A E n L ws E.sp i l s= .done ((1,0,0),ws) i l s:=by rw[doneA,if_pos (.inl (.inr Zo))];rfl
   clear hw;refine wp_region_held_drew (S:=(λU=>U.cell? ⟨A.ab,5,none⟩=some (.int .i64 kd))) Zk (f5) (λhHeld=>?_);refine wpAnyH_take (i:=0) (v:=?_) rfl Zk Zk Zk (λ_ _ _ h=>h) (Or.inl ⟨by rfl,?_⟩) Za ?_;rotate_left;(·intro u h;(try dsimp only at h);(try simp only[wab,wac]);go_simp;try with_reducible rfl);try simp only[Act.put,waf,wae,wag,wab,wac]
   refine wpAnyH_take (i:=1) (v:=?_) rfl Zk Zk Zk (λ_ _ _ h=>h) (Or.inl ⟨by rfl,?_⟩) Za ?_;rotate_left;(·intro u h;(try dsimp only at h);(try simp only[wab,wac,wad]);go_simp;try with_reducible rfl);try simp only[Act.put,waf,wae,wag,wab,wac,wad]
   refine wpAnyH_take (i:=2) (v:=?_) rfl Zk Zk Zk (λ_ _ _ h=>h) (Or.inl ⟨by rfl,?_⟩) Za ?_;rotate_left;(·intro u h;(try dsimp only at h);(try simp only[wab,wac,wad]);go_simp;try with_reducible rfl);try simp only[Act.put,waf,wae,wag,wab,wac,wad]
   refine wpAnyH_take (i:=3) (v:=?_) rfl Zk Zk Zk (λ_ _ _ h=>h) (Or.inl ⟨by rfl,?_⟩) Za ?_;rotate_left;(·intro u h;(try dsimp only at h);(try simp only[wab,wac,wad]);go_simp;try with_reducible rfl);try simp only[Act.put,waf,wae,wag,wab,wac,wad]
   refine wpAnyH_take (i:=4) (v:=?_) rfl Zk Zk Zk (λ_ _ _ h=>h) (Or.inl ⟨by rfl,?_⟩) Za ?_;rotate_left;(·intro u h;(try dsimp only at h);(try simp only[wab,wac,wad]);go_simp;try with_reducible rfl);try simp only[Act.put,waf,wae,wag,wab,wac,wad]
   refine wpAnyH_take (i:=5) (v:=?_) rfl Zk Zk Zk (λ_ _ _ h=>h) (Or.inl ⟨by rfl,?_⟩) Za ?_;rotate_left;(·intro u h;(try dsimp only at h);(try simp only[wab,wac,wad]);go_simp;try with_reducible rfl);try simp only[Act.put,waf,wae,wag,wab,wac,wad]
   refine wpAnyH_take (i:=6) (v:=?_) rfl Zk Zk Zk (λ_ _ _ h=>h) (Or.inl ⟨by rfl,?_⟩) Za ?_;rotate_left;(·intro u h;(try dsimp only at h);(try simp only[wab,wac,wad]);go_simp;try with_reducible rfl);try simp only[Act.put,waf,wae,wag,wab,wac,wad]
   refine wpAnyH_take (i:=7) (v:=undef) rfl Zk Zk Zk (λ_ _ _ h=>h) (Or.inr ⟨by rfl,rfl⟩) Za ?_;try simp only[Act.put,waf,wae,wag,wab,wac,wad]
   refine wpAnyH_take (i:=8) (v:=undef) rfl Zk Zk Zk (λ_ _ _ h=>h) (Or.inr ⟨by rfl,rfl⟩) Za ?_;try simp only[Act.put,waf,wae,wag,wab,wac,wad]
   refine wpAnyH_take (i:=9) (v:=undef) rfl Zk Zk Zk (λ_ _ _ h=>h) (Or.inr ⟨by rfl,rfl⟩) Za ?_;try simp only[Act.put,waf,wae,wag,wab,wac,wad]
   refine wpAnyH_take (i:=10) (v:=undef) rfl Zk Zk Zk (λ_ _ _ h=>h) (Or.inr ⟨by rfl,rfl⟩) Za ?_;try simp only[Act.put,waf,wae,wag,wab,wac,wad]
   refine wpAnyH_take (i:=11) (v:=undef) rfl Zk Zk Zk (λ_ _ _ h=>h) (Or.inr ⟨by rfl,rfl⟩) Za ?_;try simp only[Act.put,waf,wae,wag,wab,wac,wad]
   refine wpAnyH_take (i:=12) (v:=undef) rfl Zk Zk Zk (λ_ _ _ h=>h) (Or.inr ⟨by rfl,rfl⟩) Za ?_;try simp only[Act.put,waf,wae,wag,wab,wac,wad]
   refine wpAnyH_take (i:=13) (v:=undef) rfl Zk Zk Zk (λ_ _ _ h=>h) (Or.inr ⟨by rfl,rfl⟩) Za ?_;try simp only[Act.put,waf,wae,wag,wab,wac,wad]
   refine wpAnyH_take (i:=14) (v:=undef) rfl Zk Zk Zk (λ_ _ _ h=>h) (Or.inr ⟨by rfl,rfl⟩) Za ?_;try simp only[Act.put,waf,wae,wag,wab,wac,wad]
   refine wpAnyH_take (i:=15) (v:=undef) rfl Zk Zk Zk (λ_ _ _ h=>h) (Or.inr ⟨by rfl,rfl⟩) Za ?_;try simp only[Act.put,waf,wae,wag,wab,wac,wad]
   refine wpAnyH_take (i:=16) (v:=undef) rfl Zk Zk Zk (λ_ _ _ h=>h) (Or.inr ⟨by rfl,rfl⟩) Za ?_;try simp only[Act.put,waf,wae,wag,wab,wac,wad]
   refine wpAnyH_take (i:=17) (v:=undef) rfl Zk Zk Zk (λ_ _ _ h=>h) (Or.inr ⟨by rfl,rfl⟩) Za ?_;try simp only[Act.put,waf,wae,wag,wab,wac,wad]
   refine wpAnyH_take (i:=18) (v:=?_) rfl Zk Zk Zk (λ_ _ _ h=>h) (Or.inl ⟨by rfl,?_⟩) Za ?_;rotate_left;(·intro u h;(try dsimp only at h);(try simp only[wab,wac,wad]);go_simp;try with_reducible rfl);try simp only[Act.put,waf,wae,wag,wab,wac,wad]
   refine wpAnyH_done Zk ?_ _;go_wp2_with fail;refine(qax 1 _).mono ?_;rintro e VR ⟨rfl,hBR⟩;have hAR:=hA9d.out.below hBR;have hLR:=(hBR.block _ (waj.1 hL9.out).1).trans hL9.out;unfold anV;obtain⟨⟨p0,p1,p2⟩,pf⟩:=qaf hLR;have hfin:=waa (AtH.done (t:=doneA A E n L ws) (R:=λa x _=>x=anX a) (a:=(1,0,0)) (x:=anX (1,0,0)) (hAR.own (B:=w.heap.size) Zo hF0 hR0 (qam (.int .i64 1) (.int .i64 0) (.int .u64 ((0:Nat):Int))) hlt hab) hobR rfl);replace hLR:=waa hLR;clear hBR hAR;go_wp2_with fail;refine qak rfl rfl rfl (qai (qan hLR.out _ _ _)) ?_;exact hfin.out
  refine wp_region_held_drew (S:=(λU=>(U.cell? ⟨A.ab,1,none⟩=some (.int .i64 A.s)/\U.cell? ⟨A.ab,2,none⟩=some (.int .i64 A.l)/\U.cell? ⟨A.ab,3,none⟩=some (.int .i64 A.r))/\U.cell? ⟨A.ab,6,none⟩=some (.int .i64 A.who))) Zk (⟨⟨k1,k2,k3⟩,k6⟩) (λhHeld=>?_);refine wpAnyH_take (i:=0) (v:=?_) rfl Zk Zk Zk (λ_ _ _ h=>h) (Or.inl ⟨by rfl,?_⟩) Za ?_;rotate_left;(·intro u h;(try dsimp only at h);(try simp only[wab,wac]);go_simp;try with_reducible rfl);try simp only[Act.put,waf,wae,wag,wab,wac]
  refine wpAnyH_take (i:=1) (v:=?_) rfl Zk Zk Zk (λ_ _ _ h=>h) (Or.inl ⟨by rfl,?_⟩) Za ?_;rotate_left;(·intro u h;(try dsimp only at h);(try simp only[wab,wac,wad]);go_simp;try with_reducible rfl);try simp only[Act.put,waf,wae,wag,wab,wac,wad]
  refine wpAnyH_take (i:=2) (v:=?_) rfl Zk Zk Zk (λ_ _ _ h=>h) (Or.inl ⟨by rfl,?_⟩) Za ?_;rotate_left;(·intro u h;(try dsimp only at h);(try simp only[wab,wac,wad]);go_simp;try with_reducible rfl);try simp only[Act.put,waf,wae,wag,wab,wac,wad]
  refine wpAnyH_take (i:=3) (v:=?_) rfl Zk Zk Zk (λ_ _ _ h=>h) (Or.inl ⟨by rfl,?_⟩) Za ?_;rotate_left;(·intro u h;(try dsimp only at h);(try simp only[wab,wac,wad]);go_simp;try with_reducible rfl);try simp only[Act.put,waf,wae,wag,wab,wac,wad]
  refine wpAnyH_take (i:=4) (v:=?_) rfl Zk Zk Zk (λ_ _ _ h=>h) (Or.inl ⟨by rfl,?_⟩) Za ?_;rotate_left;(·intro u h;(try dsimp only at h);(try simp only[wab,wac,wad]);go_simp;try with_reducible rfl);try simp only[Act.put,waf,wae,wag,wab,wac,wad]
  refine wpAnyH_take (i:=5) (v:=?_) rfl Zk Zk Zk (λ_ _ _ h=>h) (Or.inl ⟨by rfl,?_⟩) Za ?_;rotate_left;(·intro u h;(try dsimp only at h);(try simp only[wab,wac,wad]);go_simp;try with_reducible rfl);try simp only[Act.put,waf,wae,wag,wab,wac,wad]
  refine wpAnyH_take (i:=6) (v:=?_) rfl Zk Zk Zk (λ_ _ _ h=>h) (Or.inl ⟨by rfl,?_⟩) Za ?_;rotate_left;(·intro u h;(try dsimp only at h);(try simp only[wab,wac,wad]);go_simp;try with_reducible rfl);try simp only[Act.put,waf,wae,wag,wab,wac,wad]
  refine wpAnyH_take (i:=7) (v:=?_) rfl Zk Zk Zk (λ_ _ _ h=>h) (Or.inl ⟨by rfl,?_⟩) Za ?_;rotate_left;(·intro u h;(try dsimp only at h);(try simp only[wab,wac,wad]);go_simp;try with_reducible rfl);try simp only[Act.put,waf,wae,wag,wab,wac,wad]
  refine wpAnyH_take (i:=8) (v:=?_) rfl Zk Zk Zk (λ_ _ _ h=>h) (Or.inl ⟨by rfl,?_⟩) Za ?_;rotate_left;(·intro u h;(try dsimp only at h);(try simp only[wab,wac,wad]);go_simp;try with_reducible rfl);try simp only[Act.put,waf,wae,wag,wab,wac,wad]
  refine wpAnyH_take (i:=9) (v:=?_) rfl Zk Zk Zk (λ_ _ _ h=>h) (Or.inl ⟨by rfl,?_⟩) Za ?_;rotate_left;(·intro u h;(try dsimp only at h);(try simp only[wab,wac,wad]);go_simp;try with_reducible rfl);try simp only[Act.put,waf,wae,wag,wab,wac,wad]
  refine wpAnyH_take (i:=10) (v:=?_) rfl Zk Zk Zk (λ_ _ _ h=>h) (Or.inl ⟨by rfl,?_⟩) Za ?_;rotate_left;(·intro u h;(try dsimp only at h);(try simp only[wab,wac,wad]);go_simp;try with_reducible rfl);try simp only[Act.put,waf,wae,wag,wab,wac,wad]
  refine wpAnyH_take (i:=11) (v:=?_) rfl Zk Zk Zk (λ_ _ _ h=>h) (Or.inl ⟨by rfl,?_⟩) Za ?_;rotate_left;(·intro u h;(try dsimp only at h);(try simp only[wab,wac,wad]);go_simp;try with_reducible rfl);try simp only[Act.put,waf,wae,wag,wab,wac,wad]
  refine wpAnyH_take (i:=12) (v:=?_) rfl Zk Zk Zk (λ_ _ _ h=>h) (Or.inl ⟨by rfl,?_⟩) Za ?_;rotate_left;(·intro u h;(try dsimp only at h);(try simp only[wab,wac,wad]);go_simp;try with_reducible rfl);try simp only[Act.put,waf,wae,wag,wab,wac,wad]
  refine wpAnyH_take (i:=13) (v:=?_) rfl Zk Zk Zk (λ_ _ _ h=>h) (Or.inl ⟨by rfl,?_⟩) Za ?_;rotate_left;(·intro u h;(try dsimp only at h);(try simp only[wab,wac,wad]);go_simp;try with_reducible rfl);try simp only[Act.put,waf,wae,wag,wab,wac,wad]
  refine wpAnyH_take (i:=14) (v:=?_) rfl Zk Zk Zk (λ_ _ _ h=>h) (Or.inl ⟨by rfl,?_⟩) Za ?_;rotate_left;(·intro u h;(try dsimp only at h);(try simp only[wab,wac,wad]);go_simp;try with_reducible rfl);try simp only[Act.put,waf,wae,wag,wab,wac,wad]
  refine wpAnyH_take (i:=15) (v:=?_) rfl Zk Zk Zk (λ_ _ _ h=>h) (Or.inl ⟨by rfl,?_⟩) Za ?_;rotate_left;(·intro u h;(try dsimp only at h);(try simp only[wab,wac,wad]);go_simp;try with_reducible rfl);try simp only[Act.put,waf,wae,wag,wab,wac,wad]
  refine wpAnyH_ready (rs:=[16]) Zk Zs ?_;refine AllReadyH.cons rfl (λK hK=>?_) AllReadyH.nil
  (try simp only[wab,wac,wad])
  go_simp
  refine(hla.out _).mono ?_;rintro e VL ⟨rfl,hBL⟩;have hAL:=waa (hA9d.out.below hBL);have hLL:=waa ((hBL.block _ hs9).trans hL9.out);have hKL:=waa ((hBL.block _ hk9).trans hK9.out);obtain⟨j1,j2,j3,j6⟩:VL.cell? ⟨A.ab,1,none⟩=some (.int .i64 A.s)/\VL.cell? ⟨A.ab,2,none⟩=some (.int .i64 A.l)/\VL.cell? ⟨A.ab,3,none⟩=some (.int .i64 A.r)/\VL.cell? ⟨A.ab,6,none⟩=some (.int .i64 A.who):=⟨qaa hBL k1,qaa hBL k2,qaa hBL k3,qaa hBL k6⟩
  clear hBL;go_wp2_with fail;refine hK.out _ _ (⟨⟨j1,j2,j3⟩,j6⟩) (λhHeld2=>?_);clear hK K hHeld;have hHeld:=hHeld2;clear hHeld2;try simp only[Act.put,waf,wae,wag,wab,wac,wad]
  refine wpAnyH_take (i:=17) (v:=?_) rfl Zk Zk Zk (λ_ _ _ h=>h) (Or.inl ⟨by rfl,?_⟩) Za ?_;rotate_left;(·intro u h;(try dsimp only at h);(try simp only[wab,wac,wad]);go_simp;try with_reducible rfl);try simp only[Act.put,waf,wae,wag,wab,wac,wad]
  refine wpAnyH_take (i:=18) (v:=?_) rfl Zk Zk Zk (λ_ _ _ h=>h) (Or.inl ⟨by rfl,?_⟩) Za ?_;rotate_left;(·intro u h;(try dsimp only at h);(try simp only[wab,wac,wad]);go_simp;try with_reducible rfl);try simp only[Act.put,waf,wae,wag,wab,wac,wad]
  refine wpAnyH_done Zk ?_ _;by_cases hln:qa3 A.s A.l A.r A.who<0
  ·have hobR:doneA A E n L ws E.sp i l s= .done ((1,0,0),ws) i l s:=by rw[doneA,if_pos (.inr hln)];rfl
   clear hw;go_wp2_with fail;refine(qax 1 _).mono ?_;rintro e VR ⟨rfl,hBR⟩;have hAR:=hAL.out.below hBR;have hLR:=(hBR.block _ (waj.1 hLL.out).1).trans hLL.out;unfold anV;obtain⟨⟨p0,p1,p2⟩,pf⟩:=qaf hLR;have hfin:=waa (AtH.done (t:=doneA A E n L ws) (R:=λa x _=>x=anX a) (a:=(1,0,0)) (x:=anX (1,0,0)) (hAR.own (B:=w.heap.size) Zo hF0 hR0 (qam (.int .i64 1) (.int .i64 0) (.int .u64 ((0:Nat):Int))) hlt hab) hobR rfl);replace hLR:=waa hLR;clear hBR hAR;go_wp2_with fail;refine qak rfl rfl rfl (qai (qan hLR.out _ _ _)) ?_;exact hfin.out
  ·have hnn:¬((A.kind<1\/9<=A.kind)\/qa3 A.s A.l A.r A.who<0):=by
    rintro((e|e)|e)
    ·omega
    ·omega
    ·exact hln e
   by_cases hk1:kd=1
   ·have hdef:doneA A E n L ws=mallocA A E n L ws:=by rw[doneA,if_neg hnn,if_pos Zo]
    subst hk1;have hob:=waa (show doneA A E n L ws E.sp i l s=mallocA A E n L ws E.sp i l s from by rw[hdef]);rw[hdef] at hw;have q1_:VL.cell? ⟨KB,1,none⟩=some (.func (.func 166) #[] #[]):=qab hKL.out 1;replace hw:=waa hw;clear hdef hnn hKL;have hsm:=waa (qhv (H:=H) hAL.out.a hD ho hed hw.out (λk hk=>wak (hH k hk) hAL.out.u.size));go_wp2_with fail;refine hsm.out.mono ?_;intro e V2 hpost;obtain⟨hu2,hp2⟩:=hpost;cases ho2:mallocA A E n L ws E.sp i l s with
    |wild=>exact absurd ho2 hw.out
    |stop bl l2 s2=>
     rw[ho2] at hp2;obtain⟨F2,rfl,hO2,hg2⟩:=hp2;exact⟨rfl,qal (hAL.out.offH hO2 hg2 hu2) (by rw[hob.out];exact ho2)⟩
    |done b i2 l2 s2=>
     rw[ho2] at hp2;obtain⟨x2,F2,v2,rfl,rfl,hI2,hg2,hr2⟩:=hp2;have hob3:=hob.out.trans ho2;have hsW:w.heap.size<VL.heap.size:=(waj.1 hLL.out).1;have hL3:=hu2.block2 hLL.out (by
      rintro(e|e|e|e)
      ·exact hF0 e
      ·omega
      ·exact hR0 e
      ·exact hHB e)
     have hF2:=hg2.no hsW hF0;have hR2:v2.ownBlock≠some w.heap.size:=λe=>(hr2 _ e).elim hR0 (λe=>by omega)
     have hA3:=hAL.out.next hI2 hg2 hu2 hr2;obtain⟨⟨y0,y1,y2⟩,yw⟩:=b;unfold anX anV;dsimp only
     obtain⟨⟨q0,q1,q2⟩,qf⟩:=qaf hL3;have hfin:=waa (AtH.done (t:=doneA A E n L ws) (R:=λa x _=>x=anX a) (a:=(y0,y1,y2)) (x:=anX (y0,y1,y2)) (hA3.own (B:=w.heap.size) Zo hF2 hR2 (qam (.int .i64 y0) (.int .i64 y1) (.int .u64 (y2:Int))) hlt hab) hob3 rfl);replace hL3:=waa hL3;clear hA3 hI2 hg2 hu2 hr2 hsm hob3 ho2;go_wp2_with fail;refine qak rfl rfl rfl (qai (qan hL3.out _ _ _)) ?_;exact hfin.out
   by_cases hk2:kd=2
   ·have hdef:doneA A E n L ws=freeA A E L ws:=by rw[doneA,if_neg hnn,if_neg Zo,if_pos Zo]
    subst hk2;have hob:=waa (show doneA A E n L ws E.sp i l s=freeA A E L ws E.sp i l s from by rw[hdef]);rw[hdef] at hw;have q1_:VL.cell? ⟨KB,2,none⟩=some (.func (.func 167) #[] #[]):=qab hKL.out 2;replace hw:=waa hw;clear hdef hnn hKL;have hsm:=waa (qkm (H:=H) hAL.out.a hD ho hm hw.out (λk hk=>wak (hH k hk) hAL.out.u.size));go_wp2_with fail;refine hsm.out.mono ?_;intro e V2 hpost;obtain⟨hu2,hp2⟩:=hpost;cases ho2:freeA A E L ws E.sp i l s with
    |wild=>exact absurd ho2 hw.out
    |stop bl l2 s2=>
     rw[ho2] at hp2;obtain⟨F2,rfl,hO2,hg2⟩:=hp2;exact⟨rfl,qal (hAL.out.offH hO2 hg2 hu2) (by rw[hob.out];exact ho2)⟩
    |done b i2 l2 s2=>
     rw[ho2] at hp2;obtain⟨x2,F2,v2,rfl,rfl,hI2,hg2,hr2⟩:=hp2;have hob3:=hob.out.trans ho2;have hsW:w.heap.size<VL.heap.size:=(waj.1 hLL.out).1;have hL3:=hu2.block2 hLL.out (by
      rintro(e|e|e|e)
      ·exact hF0 e
      ·omega
      ·exact hR0 e
      ·exact hHB e)
     have hF2:=hg2.no hsW hF0;have hR2:v2.ownBlock≠some w.heap.size:=λe=>(hr2 _ e).elim hR0 (λe=>by omega)
     have hA3:=hAL.out.next hI2 hg2 hu2 hr2;obtain⟨⟨y0,y1,y2⟩,yw⟩:=b;unfold anX anV;dsimp only
     obtain⟨⟨q0,q1,q2⟩,qf⟩:=qaf hL3;have hfin:=waa (AtH.done (t:=doneA A E n L ws) (R:=λa x _=>x=anX a) (a:=(y0,y1,y2)) (x:=anX (y0,y1,y2)) (hA3.own (B:=w.heap.size) Zo hF2 hR2 (qam (.int .i64 y0) (.int .i64 y1) (.int .u64 (y2:Int))) hlt hab) hob3 rfl);replace hL3:=waa hL3;clear hA3 hI2 hg2 hu2 hr2 hsm hob3 ho2;go_wp2_with fail;refine qak rfl rfl rfl (qai (qan hL3.out _ _ _)) ?_;exact hfin.out
   ·exact absurd (by rw[doneA,if_neg hnn,if_neg Zo,if_neg Zo];rfl) hw
 ·(try simp only[wab,wac,wad])
  go_simp
  have hBa:=((wai W1.heap.size W1).alloc (wah _) (.cells #[.nilFunc,.nilFunc,.nilFunc,.nilFunc,.nilFunc,.nilFunc,.nilFunc,.nilFunc,.nilFunc] 221)).drew;have hA1:=hA0.out.below hBa;have hL1:=(hBa.block _ (waj.1 hL0.out).1).trans hL0.out;have hK1:(W1.alloc (.cells #[.nilFunc,.nilFunc,.nilFunc,.nilFunc,.nilFunc,.nilFunc,.nilFunc,.nilFunc,.nilFunc] 221)).drew.heap[W1.heap.size]? =some (.cells #[.nilFunc,.nilFunc,.nilFunc,.nilFunc,.nilFunc,.nilFunc,.nilFunc,.nilFunc,.nilFunc] 221 (0,0)):=heap_alloc_new W1 _;have e5:=qaa hBa c5;obtain⟨KB,hKB⟩:∃KB,W1.heap.size=KB:=⟨_,rfl⟩
  obtain⟨WA,hWA⟩:∃WA,(W1.alloc (.cells #[.nilFunc,.nilFunc,.nilFunc,.nilFunc,.nilFunc,.nilFunc,.nilFunc,.nilFunc,.nilFunc] 221)).drew=WA:=⟨_,rfl⟩
  rw[hWA] at hA1 hL1 hK1 e5;rw[hKB] at hK1;try rw[hWA]
  try rw[hKB]
  replace hA1:=waa hA1;replace hL1:=waa hL1;replace hK1:=waa hK1;clear hBa;refine hK.out _ _ (e5) (λhHeld2=>?_);clear hK K hHeld;have hHeld:=hHeld2;clear hHeld2;try simp only[Act.put,waf,wae,wag,wab,wac,wad]
  refine wpAnyH_ready (rs:=[5]) Zk Zs ?_;refine AllReadyH.cons rfl (λK hK=>?_) AllReadyH.nil
  (try simp only[wab,wac,wad])
  go_simp
  refine(hkn.out _).mono ?_;rintro e V ⟨rfl,hBV⟩;have hA2:=hA1.out.below hBV;have hL2:=(hBV.block _ (waj.1 hL1.out).1).trans hL1.out;have hK2:=(hBV.block _ (waj.1 hK1.out).1).trans hK1.out;have d5:=qaa hBV e5;replace hA2:=waa hA2;replace hL2:=waa hL2;replace hK2:=waa hK2;clear hBV hA1 hL1 hK1;go_wp2_with fail;refine hK.out _ _ (d5) (λhHeld2=>?_);clear hK K hHeld;have hHeld:=hHeld2;clear hHeld2;try simp only[Act.put,waf,wae,wag,wab,wac,wad]
  refine wpAnyH_take (i:=7) (v:=?_) rfl Zk Zk Zk (λ_ _ _ h=>h) (Or.inl ⟨by rfl,?_⟩) Za ?_;rotate_left;(·intro u h;(try dsimp only at h);(try simp only[wab,wac,wad]);go_simp;try with_reducible rfl);try simp only[Act.put,waf,wae,wag,wab,wac,wad]
  refine wpAnyH_ready (rs:=[8]) Zk Zs ?_;refine AllReadyH.cons rfl (λK hK=>?_) AllReadyH.nil;have hs1':=hs1.out;have hs2':=hs2.out;have hkc:=qmu hK2.out;obtain⟨⟨b0_,b1_,b2_,b3_,b4_,b5_,b6_,b7_,b8_⟩,bf_⟩:=hkc;unfold qe0
  (try simp only[wab,wac,wad])
  go_simp
  have huT:=qvo V KB;have hKw:w.heap.size<KB:=Zo
  have hKF:¬F KB:=λe=>by have:=hFl _ e;omega
  have hKR:v.ownBlock≠some KB:=λe=>by have:=hvl _ e;omega
  have hne:KB≠w.heap.size/\w.heap.size<KB:=Zo
  have hA9:=hA2.out.own (B:=KB) Zo hKF hKR huT hlt (λk hk e=>by have:=hE k hk;omega);have hK9:=qvx hK2.out;have hL9:=huT.block2 hL2.out (λe=>by omega);have f5:=(huT.cell (p:=⟨A.ab,5,none⟩) (wal _ _ d5) (λe=>by dsimp only at e;omega)).trans d5;obtain⟨V9,hV9⟩:∃V9,(((((((((V.setCell ⟨KB,0,none⟩ (.nilFunc)).setCell ⟨KB,1,none⟩ (.func (.func 166) #[] #[])).setCell ⟨KB,2,none⟩ (.func (.func 167) #[] #[])).setCell ⟨KB,3,none⟩ (.func (.func 168) #[] #[])).setCell ⟨KB,4,none⟩ (.func (.func 169) #[] #[])).setCell ⟨KB,5,none⟩ (.func (.func 170) #[] #[])).setCell ⟨KB,6,none⟩ (.func (.func 171) #[] #[])).setCell ⟨KB,7,none⟩ (.func (.func 172) #[] #[])).setCell ⟨KB,8,none⟩ (.func (.func 173) #[] #[]))=V9:=⟨_,rfl⟩
  rw[hV9] at hA9 hK9 hL9 f5;try rw[hV9]
  replace hA9:=waa hA9;replace hK9:=waa hK9;replace hL9:=waa hL9;clear huT b0_ b1_ b2_ b3_ b4_ b5_ b6_ b7_ b8_ bf_ hs1' hs2';refine hK.out _ _ (f5) (λhHeld2=>?_);clear hK K hHeld;have hHeld:=hHeld2;clear hHeld2;try simp only[Act.put,waf,wae,wag,wab,wac,wad]
  refine wpAnyH_done Zk ?_ _;have hs9:w.heap.size<V9.heap.size:=(waj.1 hL9.out).1;have hk9:=(waj.1 hK9.out).1;obtain⟨⟨-,k1,k2,k3⟩,⟨-,k6,-⟩,-⟩:=hA9.out.a.a.cells;have hA9d:=waa (hA9.out.new ((Upd.refl (λ_=>False) _).drew));go_upto_region 2 with fail
  by_cases hk1:kd<1
  ·have hobR:doneA A E n L ws E.sp i l s= .done ((1,0,0),ws) i l s:=by rw[doneA,if_pos (.inl (.inl Zo))];rfl
   clear hw;refine wp_region_held_drew (S:=(λU=>U.cell? ⟨A.ab,5,none⟩=some (.int .i64 kd))) Zk (f5) (λhHeld=>?_);refine wpAnyH_take (i:=0) (v:=?_) rfl Zk Zk Zk (λ_ _ _ h=>h) (Or.inl ⟨by rfl,?_⟩) Za ?_;rotate_left;(·intro u h;(try dsimp only at h);(try simp only[wab,wac]);go_simp;try with_reducible rfl);try simp only[Act.put,waf,wae,wag,wab,wac]
   refine wpAnyH_take (i:=1) (v:=?_) rfl Zk Zk Zk (λ_ _ _ h=>h) (Or.inl ⟨by rfl,?_⟩) Za ?_;rotate_left;(·intro u h;(try dsimp only at h);(try simp only[wab,wac,wad]);go_simp;try with_reducible rfl);try simp only[Act.put,waf,wae,wag,wab,wac,wad]
   refine wpAnyH_take (i:=2) (v:=?_) rfl Zk Zk Zk (λ_ _ _ h=>h) (Or.inl ⟨by rfl,?_⟩) Za ?_;rotate_left;(·intro u h;(try dsimp only at h);(try simp only[wab,wac,wad]);go_simp;try with_reducible rfl);try simp only[Act.put,waf,wae,wag,wab,wac,wad]
   refine wpAnyH_take (i:=3) (v:=undef) rfl Zk Zk Zk (λ_ _ _ h=>h) (Or.inr ⟨by rfl,rfl⟩) Za ?_;try simp only[Act.put,waf,wae,wag,wab,wac,wad]
   refine wpAnyH_take (i:=4) (v:=undef) rfl Zk Zk Zk (λ_ _ _ h=>h) (Or.inr ⟨by rfl,rfl⟩) Za ?_;try simp only[Act.put,waf,wae,wag,wab,wac,wad]
   refine wpAnyH_take (i:=5) (v:=?_) rfl Zk Zk Zk (λ_ _ _ h=>h) (Or.inl ⟨by rfl,?_⟩) Za ?_;rotate_left;(·intro u h;(try dsimp only at h);(try simp only[wab,wac,wad]);go_simp;try with_reducible rfl);try simp only[Act.put,waf,wae,wag,wab,wac,wad]
   refine wpAnyH_take (i:=6) (v:=?_) rfl Zk Zk Zk (λ_ _ _ h=>h) (Or.inl ⟨by rfl,?_⟩) Za ?_;rotate_left;(·intro u h;(try dsimp only at h);(try simp only[wab,wac,wad]);go_simp;try with_reducible rfl);try simp only[Act.put,waf,wae,wag,wab,wac,wad]
   refine wpAnyH_take (i:=7) (v:=undef) rfl Zk Zk Zk (λ_ _ _ h=>h) (Or.inr ⟨by rfl,rfl⟩) Za ?_;try simp only[Act.put,waf,wae,wag,wab,wac,wad]
   refine wpAnyH_take (i:=8) (v:=undef) rfl Zk Zk Zk (λ_ _ _ h=>h) (Or.inr ⟨by rfl,rfl⟩) Za ?_;try simp only[Act.put,waf,wae,wag,wab,wac,wad]
   refine wpAnyH_take (i:=9) (v:=undef) rfl Zk Zk Zk (λ_ _ _ h=>h) (Or.inr ⟨by rfl,rfl⟩) Za ?_;try simp only[Act.put,waf,wae,wag,wab,wac,wad]
   refine wpAnyH_take (i:=10) (v:=undef) rfl Zk Zk Zk (λ_ _ _ h=>h) (Or.inr ⟨by rfl,rfl⟩) Za ?_;try simp only[Act.put,waf,wae,wag,wab,wac,wad]
   refine wpAnyH_take (i:=11) (v:=undef) rfl Zk Zk Zk (λ_ _ _ h=>h) (Or.inr ⟨by rfl,rfl⟩) Za ?_;try simp only[Act.put,waf,wae,wag,wab,wac,wad]
   refine wpAnyH_take (i:=12) (v:=undef) rfl Zk Zk Zk (λ_ _ _ h=>h) (Or.inr ⟨by rfl,rfl⟩) Za ?_;try simp only[Act.put,waf,wae,wag,wab,wac,wad]
   refine wpAnyH_take (i:=13) (v:=undef) rfl Zk Zk Zk (λ_ _ _ h=>h) (Or.inr ⟨by rfl,rfl⟩) Za ?_;try simp only[Act.put,waf,wae,wag,wab,wac,wad]
   refine wpAnyH_take (i:=14) (v:=undef) rfl Zk Zk Zk (λ_ _ _ h=>h) (Or.inr ⟨by rfl,rfl⟩) Za ?_;try simp only[Act.put,waf,wae,wag,wab,wac,wad]
   refine wpAnyH_take (i:=15) (v:=undef) rfl Zk Zk Zk (λ_ _ _ h=>h) (Or.inr ⟨by rfl,rfl⟩) Za ?_;try simp only[Act.put,waf,wae,wag,wab,wac,wad]
   refine wpAnyH_take (i:=16) (v:=undef) rfl Zk Zk Zk (λ_ _ _ h=>h) (Or.inr ⟨by rfl,rfl⟩) Za ?_;try simp only[Act.put,waf,wae,wag,wab,wac,wad]
   refine wpAnyH_take (i:=17) (v:=undef) rfl Zk Zk Zk (λ_ _ _ h=>h) (Or.inr ⟨by rfl,rfl⟩) Za ?_;try simp only[Act.put,waf,wae,wag,wab,wac,wad]
   refine wpAnyH_take (i:=18) (v:=?_) rfl Zk Zk Zk (λ_ _ _ h=>h) (Or.inl ⟨by rfl,?_⟩) Za ?_;rotate_left;(·intro u h;(try dsimp only at h);(try simp only[wab,wac,wad]);go_simp;try with_reducible rfl);try simp only[Act.put,waf,wae,wag,wab,wac,wad]
   refine wpAnyH_done Zk ?_ _;go_wp2_with fail;refine(qax 1 _).mono ?_;rintro e VR ⟨rfl,hBR⟩;have hAR:=hA9d.out.below hBR;have hLR:=(hBR.block _ (waj.1 hL9.out).1).trans hL9.out;unfold anV;obtain⟨⟨p0,p1,p2⟩,pf⟩:=qaf hLR;have hfin:=waa (AtH.done (t:=doneA A E n L ws) (R:=λa x _=>x=anX a) (a:=(1,0,0)) (x:=anX (1,0,0)) (hAR.own (B:=w.heap.size) Zo hF0 hR0 (qam (.int .i64 1) (.int .i64 0) (.int .u64 ((0:Nat):Int))) hlt hab) hobR rfl);replace hLR:=waa hLR;clear hBR hAR;go_wp2_with fail;refine qak rfl rfl rfl (qai (qan hLR.out _ _ _)) ?_;exact hfin.out
  by_cases hk2:9<=kd
  ·have hobR:doneA A E n L ws E.sp i l s= .done ((1,0,0),ws) i l s:=by rw[doneA,if_pos (.inl (.inr Zo))];rfl
   clear hw;refine wp_region_held_drew (S:=(λU=>U.cell? ⟨A.ab,5,none⟩=some (.int .i64 kd))) Zk (f5) (λhHeld=>?_);refine wpAnyH_take (i:=0) (v:=?_) rfl Zk Zk Zk (λ_ _ _ h=>h) (Or.inl ⟨by rfl,?_⟩) Za ?_;rotate_left;(·intro u h;(try dsimp only at h);(try simp only[wab,wac]);go_simp;try with_reducible rfl);try simp only[Act.put,waf,wae,wag,wab,wac]
   refine wpAnyH_take (i:=1) (v:=?_) rfl Zk Zk Zk (λ_ _ _ h=>h) (Or.inl ⟨by rfl,?_⟩) Za ?_;rotate_left;(·intro u h;(try dsimp only at h);(try simp only[wab,wac,wad]);go_simp;try with_reducible rfl);try simp only[Act.put,waf,wae,wag,wab,wac,wad]
   refine wpAnyH_take (i:=2) (v:=?_) rfl Zk Zk Zk (λ_ _ _ h=>h) (Or.inl ⟨by rfl,?_⟩) Za ?_;rotate_left;(·intro u h;(try dsimp only at h);(try simp only[wab,wac,wad]);go_simp;try with_reducible rfl);try simp only[Act.put,waf,wae,wag,wab,wac,wad]
   refine wpAnyH_take (i:=3) (v:=?_) rfl Zk Zk Zk (λ_ _ _ h=>h) (Or.inl ⟨by rfl,?_⟩) Za ?_;rotate_left;(·intro u h;(try dsimp only at h);(try simp only[wab,wac,wad]);go_simp;try with_reducible rfl);try simp only[Act.put,waf,wae,wag,wab,wac,wad]
   refine wpAnyH_take (i:=4) (v:=?_) rfl Zk Zk Zk (λ_ _ _ h=>h) (Or.inl ⟨by rfl,?_⟩) Za ?_;rotate_left;(·intro u h;(try dsimp only at h);(try simp only[wab,wac,wad]);go_simp;try with_reducible rfl);try simp only[Act.put,waf,wae,wag,wab,wac,wad]
   refine wpAnyH_take (i:=5) (v:=?_) rfl Zk Zk Zk (λ_ _ _ h=>h) (Or.inl ⟨by rfl,?_⟩) Za ?_;rotate_left;(·intro u h;(try dsimp only at h);(try simp only[wab,wac,wad]);go_simp;try with_reducible rfl);try simp only[Act.put,waf,wae,wag,wab,wac,wad]
   refine wpAnyH_take (i:=6) (v:=?_) rfl Zk Zk Zk (λ_ _ _ h=>h) (Or.inl ⟨by rfl,?_⟩) Za ?_;rotate_left;(·intro u h;(try dsimp only at h);(try simp only[wab,wac,wad]);go_simp;try with_reducible rfl);try simp only[Act.put,waf,wae,wag,wab,wac,wad]
   refine wpAnyH_take (i:=7) (v:=undef) rfl Zk Zk Zk (λ_ _ _ h=>h) (Or.inr ⟨by rfl,rfl⟩) Za ?_;try simp only[Act.put,waf,wae,wag,wab,wac,wad]
   refine wpAnyH_take (i:=8) (v:=undef) rfl Zk Zk Zk (λ_ _ _ h=>h) (Or.inr ⟨by rfl,rfl⟩) Za ?_;try simp only[Act.put,waf,wae,wag,wab,wac,wad]
   refine wpAnyH_take (i:=9) (v:=undef) rfl Zk Zk Zk (λ_ _ _ h=>h) (Or.inr ⟨by rfl,rfl⟩) Za ?_;try simp only[Act.put,waf,wae,wag,wab,wac,wad]
   refine wpAnyH_take (i:=10) (v:=undef) rfl Zk Zk Zk (λ_ _ _ h=>h) (Or.inr ⟨by rfl,rfl⟩) Za ?_;try simp only[Act.put,waf,wae,wag,wab,wac,wad]
   refine wpAnyH_take (i:=11) (v:=undef) rfl Zk Zk Zk (λ_ _ _ h=>h) (Or.inr ⟨by rfl,rfl⟩) Za ?_;try simp only[Act.put,waf,wae,wag,wab,wac,wad]
   refine wpAnyH_take (i:=12) (v:=undef) rfl Zk Zk Zk (λ_ _ _ h=>h) (Or.inr ⟨by rfl,rfl⟩) Za ?_;try simp only[Act.put,waf,wae,wag,wab,wac,wad]
   refine wpAnyH_take (i:=13) (v:=undef) rfl Zk Zk Zk (λ_ _ _ h=>h) (Or.inr ⟨by rfl,rfl⟩) Za ?_;try simp only[Act.put,waf,wae,wag,wab,wac,wad]
   refine wpAnyH_take (i:=14) (v:=undef) rfl Zk Zk Zk (λ_ _ _ h=>h) (Or.inr ⟨by rfl,rfl⟩) Za ?_;try simp only[Act.put,waf,wae,wag,wab,wac,wad]
   refine wpAnyH_take (i:=15) (v:=undef) rfl Zk Zk Zk (λ_ _ _ h=>h) (Or.inr ⟨by rfl,rfl⟩) Za ?_;try simp only[Act.put,waf,wae,wag,wab,wac,wad]
   refine wpAnyH_take (i:=16) (v:=undef) rfl Zk Zk Zk (λ_ _ _ h=>h) (Or.inr ⟨by rfl,rfl⟩) Za ?_;try simp only[Act.put,waf,wae,wag,wab,wac,wad]
   refine wpAnyH_take (i:=17) (v:=undef) rfl Zk Zk Zk (λ_ _ _ h=>h) (Or.inr ⟨by rfl,rfl⟩) Za ?_;try simp only[Act.put,waf,wae,wag,wab,wac,wad]
   refine wpAnyH_take (i:=18) (v:=?_) rfl Zk Zk Zk (λ_ _ _ h=>h) (Or.inl ⟨by rfl,?_⟩) Za ?_;rotate_left;(·intro u h;(try dsimp only at h);(try simp only[wab,wac,wad]);go_simp;try with_reducible rfl);try simp only[Act.put,waf,wae,wag,wab,wac,wad]
   refine wpAnyH_done Zk ?_ _;go_wp2_with fail;refine(qax 1 _).mono ?_;rintro e VR ⟨rfl,hBR⟩;have hAR:=hA9d.out.below hBR;have hLR:=(hBR.block _ (waj.1 hL9.out).1).trans hL9.out;unfold anV;obtain⟨⟨p0,p1,p2⟩,pf⟩:=qaf hLR;have hfin:=waa (AtH.done (t:=doneA A E n L ws) (R:=λa x _=>x=anX a) (a:=(1,0,0)) (x:=anX (1,0,0)) (hAR.own (B:=w.heap.size) Zo hF0 hR0 (qam (.int .i64 1) (.int .i64 0) (.int .u64 ((0:Nat):Int))) hlt hab) hobR rfl);replace hLR:=waa hLR;clear hBR hAR;go_wp2_with fail;refine qak rfl rfl rfl (qai (qan hLR.out _ _ _)) ?_;exact hfin.out
  refine wp_region_held_drew (S:=(λU=>(U.cell? ⟨A.ab,1,none⟩=some (.int .i64 A.s)/\U.cell? ⟨A.ab,2,none⟩=some (.int .i64 A.l)/\U.cell? ⟨A.ab,3,none⟩=some (.int .i64 A.r))/\U.cell? ⟨A.ab,6,none⟩=some (.int .i64 A.who))) Zk (⟨⟨k1,k2,k3⟩,k6⟩) (λhHeld=>?_);refine wpAnyH_take (i:=0) (v:=?_) rfl Zk Zk Zk (λ_ _ _ h=>h) (Or.inl ⟨by rfl,?_⟩) Za ?_;rotate_left;(·intro u h;(try dsimp only at h);(try simp only[wab,wac]);go_simp;try with_reducible rfl);try simp only[Act.put,waf,wae,wag,wab,wac]
  refine wpAnyH_take (i:=1) (v:=?_) rfl Zk Zk Zk (λ_ _ _ h=>h) (Or.inl ⟨by rfl,?_⟩) Za ?_;rotate_left;(·intro u h;(try dsimp only at h);(try simp only[wab,wac,wad]);go_simp;try with_reducible rfl);try simp only[Act.put,waf,wae,wag,wab,wac,wad]
  refine wpAnyH_take (i:=2) (v:=?_) rfl Zk Zk Zk (λ_ _ _ h=>h) (Or.inl ⟨by rfl,?_⟩) Za ?_;rotate_left;(·intro u h;(try dsimp only at h);(try simp only[wab,wac,wad]);go_simp;try with_reducible rfl);try simp only[Act.put,waf,wae,wag,wab,wac,wad]
  refine wpAnyH_take (i:=3) (v:=?_) rfl Zk Zk Zk (λ_ _ _ h=>h) (Or.inl ⟨by rfl,?_⟩) Za ?_;rotate_left;(·intro u h;(try dsimp only at h);(try simp only[wab,wac,wad]);go_simp;try with_reducible rfl);try simp only[Act.put,waf,wae,wag,wab,wac,wad]
  refine wpAnyH_take (i:=4) (v:=?_) rfl Zk Zk Zk (λ_ _ _ h=>h) (Or.inl ⟨by rfl,?_⟩) Za ?_;rotate_left;(·intro u h;(try dsimp only at h);(try simp only[wab,wac,wad]);go_simp;try with_reducible rfl);try simp only[Act.put,waf,wae,wag,wab,wac,wad]
  refine wpAnyH_take (i:=5) (v:=?_) rfl Zk Zk Zk (λ_ _ _ h=>h) (Or.inl ⟨by rfl,?_⟩) Za ?_;rotate_left;(·intro u h;(try dsimp only at h);(try simp only[wab,wac,wad]);go_simp;try with_reducible rfl);try simp only[Act.put,waf,wae,wag,wab,wac,wad]
  refine wpAnyH_take (i:=6) (v:=?_) rfl Zk Zk Zk (λ_ _ _ h=>h) (Or.inl ⟨by rfl,?_⟩) Za ?_;rotate_left;(·intro u h;(try dsimp only at h);(try simp only[wab,wac,wad]);go_simp;try with_reducible rfl);try simp only[Act.put,waf,wae,wag,wab,wac,wad]
  refine wpAnyH_take (i:=7) (v:=?_) rfl Zk Zk Zk (λ_ _ _ h=>h) (Or.inl ⟨by rfl,?_⟩) Za ?_;rotate_left;(·intro u h;(try dsimp only at h);(try simp only[wab,wac,wad]);go_simp;try with_reducible rfl);try simp only[Act.put,waf,wae,wag,wab,wac,wad]
  refine wpAnyH_take (i:=8) (v:=?_) rfl Zk Zk Zk (λ_ _ _ h=>h) (Or.inl ⟨by rfl,?_⟩) Za ?_;rotate_left;(·intro u h;(try dsimp only at h);(try simp only[wab,wac,wad]);go_simp;try with_reducible rfl);try simp only[Act.put,waf,wae,wag,wab,wac,wad]
  refine wpAnyH_take (i:=9) (v:=?_) rfl Zk Zk Zk (λ_ _ _ h=>h) (Or.inl ⟨by rfl,?_⟩) Za ?_;rotate_left;(·intro u h;(try dsimp only at h);(try simp only[wab,wac,wad]);go_simp;try with_reducible rfl);try simp only[Act.put,waf,wae,wag,wab,wac,wad]
  refine wpAnyH_take (i:=10) (v:=?_) rfl Zk Zk Zk (λ_ _ _ h=>h) (Or.inl ⟨by rfl,?_⟩) Za ?_;rotate_left;(·intro u h;(try dsimp only at h);(try simp only[wab,wac,wad]);go_simp;try with_reducible rfl);try simp only[Act.put,waf,wae,wag,wab,wac,wad]
  refine wpAnyH_take (i:=11) (v:=?_) rfl Zk Zk Zk (λ_ _ _ h=>h) (Or.inl ⟨by rfl,?_⟩) Za ?_;rotate_left;(·intro u h;(try dsimp only at h);(try simp only[wab,wac,wad]);go_simp;try with_reducible rfl);try simp only[Act.put,waf,wae,wag,wab,wac,wad]
  refine wpAnyH_take (i:=12) (v:=?_) rfl Zk Zk Zk (λ_ _ _ h=>h) (Or.inl ⟨by rfl,?_⟩) Za ?_;rotate_left;(·intro u h;(try dsimp only at h);(try simp only[wab,wac,wad]);go_simp;try with_reducible rfl);try simp only[Act.put,waf,wae,wag,wab,wac,wad]
  refine wpAnyH_take (i:=13) (v:=?_) rfl Zk Zk Zk (λ_ _ _ h=>h) (Or.inl ⟨by rfl,?_⟩) Za ?_;rotate_left;(·intro u h;(try dsimp only at h);(try simp only[wab,wac,wad]);go_simp;try with_reducible rfl);try simp only[Act.put,waf,wae,wag,wab,wac,wad]
  refine wpAnyH_take (i:=14) (v:=?_) rfl Zk Zk Zk (λ_ _ _ h=>h) (Or.inl ⟨by rfl,?_⟩) Za ?_;rotate_left;(·intro u h;(try dsimp only at h);(try simp only[wab,wac,wad]);go_simp;try with_reducible rfl);try simp only[Act.put,waf,wae,wag,wab,wac,wad]
  refine wpAnyH_take (i:=15) (v:=?_) rfl Zk Zk Zk (λ_ _ _ h=>h) (Or.inl ⟨by rfl,?_⟩) Za ?_;rotate_left;(·intro u h;(try dsimp only at h);(try simp only[wab,wac,wad]);go_simp;try with_reducible rfl);try simp only[Act.put,waf,wae,wag,wab,wac,wad]
  refine wpAnyH_ready (rs:=[16]) Zk Zs ?_;refine AllReadyH.cons rfl (λK hK=>?_) AllReadyH.nil
  (try simp only[wab,wac,wad])
  go_simp
  refine(hla.out _).mono ?_;rintro e VL ⟨rfl,hBL⟩;have hAL:=waa (hA9d.out.below hBL);have hLL:=waa ((hBL.block _ hs9).trans hL9.out);have hKL:=waa ((hBL.block _ hk9).trans hK9.out);obtain⟨j1,j2,j3,j6⟩:VL.cell? ⟨A.ab,1,none⟩=some (.int .i64 A.s)/\VL.cell? ⟨A.ab,2,none⟩=some (.int .i64 A.l)/\VL.cell? ⟨A.ab,3,none⟩=some (.int .i64 A.r)/\VL.cell? ⟨A.ab,6,none⟩=some (.int .i64 A.who):=⟨qaa hBL k1,qaa hBL k2,qaa hBL k3,qaa hBL k6⟩
  clear hBL;go_wp2_with fail;refine hK.out _ _ (⟨⟨j1,j2,j3⟩,j6⟩) (λhHeld2=>?_);clear hK K hHeld;have hHeld:=hHeld2;clear hHeld2;try simp only[Act.put,waf,wae,wag,wab,wac,wad]
  refine wpAnyH_take (i:=17) (v:=?_) rfl Zk Zk Zk (λ_ _ _ h=>h) (Or.inl ⟨by rfl,?_⟩) Za ?_;rotate_left;(·intro u h;(try dsimp only at h);(try simp only[wab,wac,wad]);go_simp;try with_reducible rfl);try simp only[Act.put,waf,wae,wag,wab,wac,wad]
  refine wpAnyH_take (i:=18) (v:=?_) rfl Zk Zk Zk (λ_ _ _ h=>h) (Or.inl ⟨by rfl,?_⟩) Za ?_;rotate_left;(·intro u h;(try dsimp only at h);(try simp only[wab,wac,wad]);go_simp;try with_reducible rfl);try simp only[Act.put,waf,wae,wag,wab,wac,wad]
  refine wpAnyH_done Zk ?_ _;by_cases hln:qa3 A.s A.l A.r A.who<0
  ·have hobR:doneA A E n L ws E.sp i l s= .done ((1,0,0),ws) i l s:=by rw[doneA,if_pos (.inr hln)];rfl
   clear hw;go_wp2_with fail;refine(qax 1 _).mono ?_;rintro e VR ⟨rfl,hBR⟩;have hAR:=hAL.out.below hBR;have hLR:=(hBR.block _ (waj.1 hLL.out).1).trans hLL.out;unfold anV;obtain⟨⟨p0,p1,p2⟩,pf⟩:=qaf hLR;have hfin:=waa (AtH.done (t:=doneA A E n L ws) (R:=λa x _=>x=anX a) (a:=(1,0,0)) (x:=anX (1,0,0)) (hAR.own (B:=w.heap.size) Zo hF0 hR0 (qam (.int .i64 1) (.int .i64 0) (.int .u64 ((0:Nat):Int))) hlt hab) hobR rfl);replace hLR:=waa hLR;clear hBR hAR;go_wp2_with fail;refine qak rfl rfl rfl (qai (qan hLR.out _ _ _)) ?_;exact hfin.out
  ·have hnn:¬((A.kind<1\/9<=A.kind)\/qa3 A.s A.l A.r A.who<0):=by
    rintro((e|e)|e)
    ·omega
    ·omega
    ·exact hln e
   by_cases hk1:kd=1
   ·have hdef:doneA A E n L ws=mallocA A E n L ws:=by rw[doneA,if_neg hnn,if_pos Zo]
    subst hk1;have hob:=waa (show doneA A E n L ws E.sp i l s=mallocA A E n L ws E.sp i l s from by rw[hdef]);rw[hdef] at hw;have q1_:VL.cell? ⟨KB,1,none⟩=some (.func (.func 166) #[] #[]):=qab hKL.out 1;replace hw:=waa hw;clear hdef hnn hKL;have hsm:=waa (qhv (H:=H) hAL.out.a hD ho hed hw.out (λk hk=>wak (hH k hk) hAL.out.u.size));go_wp2_with fail;refine hsm.out.mono ?_;intro e V2 hpost;obtain⟨hu2,hp2⟩:=hpost;cases ho2:mallocA A E n L ws E.sp i l s with
    |wild=>exact absurd ho2 hw.out
    |stop bl l2 s2=>
     rw[ho2] at hp2;obtain⟨F2,rfl,hO2,hg2⟩:=hp2;exact⟨rfl,qal (hAL.out.offH hO2 hg2 hu2) (by rw[hob.out];exact ho2)⟩
    |done b i2 l2 s2=>
     rw[ho2] at hp2;obtain⟨x2,F2,v2,rfl,rfl,hI2,hg2,hr2⟩:=hp2;have hob3:=hob.out.trans ho2;have hsW:w.heap.size<VL.heap.size:=(waj.1 hLL.out).1;have hL3:=hu2.block2 hLL.out (by
      rintro(e|e|e|e)
      ·exact hF0 e
      ·omega
      ·exact hR0 e
      ·exact hHB e)
     have hF2:=hg2.no hsW hF0;have hR2:v2.ownBlock≠some w.heap.size:=λe=>(hr2 _ e).elim hR0 (λe=>by omega)
     have hA3:=hAL.out.next hI2 hg2 hu2 hr2;obtain⟨⟨y0,y1,y2⟩,yw⟩:=b;unfold anX anV;dsimp only
     obtain⟨⟨q0,q1,q2⟩,qf⟩:=qaf hL3;have hfin:=waa (AtH.done (t:=doneA A E n L ws) (R:=λa x _=>x=anX a) (a:=(y0,y1,y2)) (x:=anX (y0,y1,y2)) (hA3.own (B:=w.heap.size) Zo hF2 hR2 (qam (.int .i64 y0) (.int .i64 y1) (.int .u64 (y2:Int))) hlt hab) hob3 rfl);replace hL3:=waa hL3;clear hA3 hI2 hg2 hu2 hr2 hsm hob3 ho2;go_wp2_with fail;refine qak rfl rfl rfl (qai (qan hL3.out _ _ _)) ?_;exact hfin.out
   by_cases hk2:kd=2
   ·have hdef:doneA A E n L ws=freeA A E L ws:=by rw[doneA,if_neg hnn,if_neg Zo,if_pos Zo]
    subst hk2;have hob:=waa (show doneA A E n L ws E.sp i l s=freeA A E L ws E.sp i l s from by rw[hdef]);rw[hdef] at hw;have q1_:VL.cell? ⟨KB,2,none⟩=some (.func (.func 167) #[] #[]):=qab hKL.out 2;replace hw:=waa hw;clear hdef hnn hKL;have hsm:=waa (qkm (H:=H) hAL.out.a hD ho hm hw.out (λk hk=>wak (hH k hk) hAL.out.u.size));go_wp2_with fail;refine hsm.out.mono ?_;intro e V2 hpost;obtain⟨hu2,hp2⟩:=hpost;cases ho2:freeA A E L ws E.sp i l s with
    |wild=>exact absurd ho2 hw.out
    |stop bl l2 s2=>
     rw[ho2] at hp2;obtain⟨F2,rfl,hO2,hg2⟩:=hp2;exact⟨rfl,qal (hAL.out.offH hO2 hg2 hu2) (by rw[hob.out];exact ho2)⟩
    |done b i2 l2 s2=>
     rw[ho2] at hp2;obtain⟨x2,F2,v2,rfl,rfl,hI2,hg2,hr2⟩:=hp2;have hob3:=hob.out.trans ho2;have hsW:w.heap.size<VL.heap.size:=(waj.1 hLL.out).1;have hL3:=hu2.block2 hLL.out (by
      rintro(e|e|e|e)
      ·exact hF0 e
      ·omega
      ·exact hR0 e
      ·exact hHB e)
     have hF2:=hg2.no hsW hF0;have hR2:v2.ownBlock≠some w.heap.size:=λe=>(hr2 _ e).elim hR0 (λe=>by omega)
     have hA3:=hAL.out.next hI2 hg2 hu2 hr2;obtain⟨⟨y0,y1,y2⟩,yw⟩:=b;unfold anX anV;dsimp only
     obtain⟨⟨q0,q1,q2⟩,qf⟩:=qaf hL3;have hfin:=waa (AtH.done (t:=doneA A E n L ws) (R:=λa x _=>x=anX a) (a:=(y0,y1,y2)) (x:=anX (y0,y1,y2)) (hA3.own (B:=w.heap.size) Zo hF2 hR2 (qam (.int .i64 y0) (.int .i64 y1) (.int .u64 (y2:Int))) hlt hab) hob3 rfl);replace hL3:=waa hL3;clear hA3 hI2 hg2 hu2 hr2 hsm hob3 ho2;go_wp2_with fail;refine qak rfl rfl rfl (qai (qan hL3.out _ _ _)) ?_;exact hfin.out
   ·exact absurd (by rw[doneA,if_neg hnn,if_neg Zo,if_neg Zo];rfl) hw
end
end Go.Proofs.YtgjhkafggagniaaGreat
