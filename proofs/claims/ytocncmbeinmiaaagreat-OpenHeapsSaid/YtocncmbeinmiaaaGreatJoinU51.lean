/- Parts. No condition. -/
import Derived.Test.YtocncmbeinmiaaaGreatJoinU50
set_option linter.unusedVariables false
set_option maxRecDepth 100000
set_option maxHeartbeats 8000000
namespace Go.Proofs.YtocncmbeinmiaaaGreat
open Go Go.RowKit
theorem qaaf(w:World):(Instr.makeSlice 77 (.int .i64 1) (.int .i64 1)).run Tryz.prog w= .ok (.slice (some ⟨w.heap.size,0,none⟩) 1 1) (w.alloc (.cells (caC (λ_=> .slice none 0 0) 1) 76)):=by kernel_rfl
theorem qaa1(w:World):(Instr.makeSlice 77 (.int .i64 2) (.int .i64 2)).run Tryz.prog w= .ok (.slice (some ⟨w.heap.size,0,none⟩) 2 2) (w.alloc (.cells (caC (λ_=> .slice none 0 0) 2) 76)):=by kernel_rfl
theorem qabh(w:World):(Instr.makeSlice 77 (.int .i64 3) (.int .i64 3)).run Tryz.prog w= .ok (.slice (some ⟨w.heap.size,0,none⟩) 3 3) (w.alloc (.cells (caC (λ_=> .slice none 0 0) 3) 76)):=by kernel_rfl
theorem q9s(w:World):(Instr.makeSlice 77 (.int .i64 4) (.int .i64 4)).run Tryz.prog w= .ok (.slice (some ⟨w.heap.size,0,none⟩) 4 4) (w.alloc (.cells (caC (λ_=> .slice none 0 0) 4) 76)):=by kernel_rfl
theorem q62{L:Nat}(h:1<=L/\L<=4)(w:World):(Instr.makeSlice 77 (.int .i64 (L:Int)) (.int .i64 (L:Int))).run Tryz.prog w= .ok (.slice (some ⟨w.heap.size,0,none⟩) L L) (w.alloc (.cells (caC (λ_=> .slice none 0 0) L) 76)):=by
 have h4:L=1\/L=2\/L=3\/L=4:=Zo
 rcases h4 with rfl|rfl|rfl|rfl
 ·exact qaaf w
 ·exact qaa1 w
 ·exact qabh w
 ·exact q9s w
theorem qace(hs:List (Int×Int×Int)):∀u∈hV hs,u.oneCell'=true:=λv hv=>by
 unfold hV at hv;rw[wdk] at hv;obtain⟨x,-,hx⟩:=hv;simp only[wbg,wgz,or_false] at hx;rcases hx with rfl|rfl|rfl<;>rfl
theorem qyw{s L:Nat}{r:Int}{g cap:Nat}{B:Option Addr}{mcap:Nat}{ms:List Nat}{hs:List (Int×Int×Int)}(w:World)(hdim:(1<=s/\s<=16)/\1<=L/\L<=4)(hR:HdsRd w (some ⟨g,0,none⟩) s hs)(hM:Rd w B s (u64V ms))(hd:hdsB (s:Int) (L:Int) r hs=true)(hms:∀y∈ms,y<18446744073709551616):
  Calls Tryz.prog 58 #[.agg #[.int .i64 (s:Int),.int .i64 (L:Int),.int .i64 r],.slice (some ⟨g,0,none⟩) s cap,.slice B s mcap] w λe w'=>∃p rv,e= .returned (.pointer (some ⟨p,0,none⟩))/\R18 w' w.heap.size p s L r hs rv (newR s L r hs ms s)/\Below w.heap.size w w':=by
 obtain⟨i0,ii,iz0,iz1,iz2⟩:=info_parts qga;have hfl:hs.length=s:=hR.1;have hvl:(hV hs).length=s*3:=by rw[qfg,hfl]
 have hv1:=qace hs;have hmk:=λV=>q62 hdim.2 V
 have hB0:=(wac w.heap.size w).alloc (wab _) (.cells #[.int .i64 (s:Int),.int .i64 (L:Int),.int .i64 r] 23);have hx:(w.alloc (.cells #[.int .i64 (s:Int),.int .i64 (L:Int),.int .i64 r] 23)).heap[w.heap.size]? =some (.cells #[.int .i64 (s:Int),.int .i64 (L:Int),.int .i64 r] 23 (0,0)):=heap_alloc_new w _;have k0:(w.alloc (.cells #[.int .i64 (s:Int),.int .i64 (L:Int),.int .i64 r] 23)).cell? ⟨w.heap.size,0,none⟩=some (.int .i64 (s:Int)):=by rw[qaa hx];rfl
 have k1:(w.alloc (.cells #[.int .i64 (s:Int),.int .i64 (L:Int),.int .i64 r] 23)).cell? ⟨w.heap.size,1,none⟩=some (.int .i64 (L:Int)):=by rw[qaa hx];rfl
 have k2:(w.alloc (.cells #[.int .i64 (s:Int),.int .i64 (L:Int),.int .i64 r] 23)).cell? ⟨w.heap.size,2,none⟩=some (.int .i64 r):=by rw[qaa hx];rfl
 have hwz:w.heap.size<=(w.alloc (.cells #[.int .i64 (s:Int),.int .i64 (L:Int),.int .i64 r] 23)).heap.size:=hB0.size;have hG0:=waa (Gm.new w (s:Int) (L:Int) r);replace hB0:=waa hB0;replace hR:=waa hR;replace hM:=waa hM;replace hms:=waa hms;clear hx;go_enter Tryz.func58,Tryz.ntmps58;go_upto_region 1 with fail
 generalize w.alloc (.cells #[.int .i64 (s:Int),.int .i64 (L:Int),.int .i64 r] 23)=W0 at hB0 k0 k1 k2 hwz hG0 ⊢;go_cut [7] from 12 to 20 (λs7 wx=>∃p:Nat,s7= .pointer (some ⟨p,0,none⟩)/\Hid (∃rv,R18 wx w.heap.size p s L r hs rv (λ_=>[]))/\Hid (Below w.heap.size w wx)/\Hid (Gm wx w.heap.size (s:Int) (L:Int) r))
 case first=>
  refine wp_region_held_drew (S:=(λU=>U.cell? ⟨w.heap.size,0,none⟩=some (.int .i64 (s:Int))/\U.cell? ⟨w.heap.size,1,none⟩=some (.int .i64 (L:Int))/\U.cell? ⟨w.heap.size,2,none⟩=some (.int .i64 r))) Zk (⟨k0,k1,k2⟩) (λhHeld=>?_);refine wpAnyH_take (i:=0) (v:=?_) rfl Zk Zk Zk (λ_ _ _ h=>h) (Or.inl ⟨by rfl,?_⟩) Za ?_;rotate_left;(·intro u h;(try dsimp only at h);(try simp only[wad,wae]);go_simp;try with_reducible rfl);try simp only[Act.put,wag,wah,wai,wad,wae]
  refine wpAnyH_take (i:=2) (v:=?_) rfl Zk Zk Zk (λ_ _ _ h=>h) (Or.inl ⟨by rfl,?_⟩) Za ?_;rotate_left;(·intro u h;(try dsimp only at h);(try simp only[wad,wae,waf]);go_simp;try with_reducible rfl);try simp only[Act.put,wag,wah,wai,wad,wae,waf]
  refine wpAnyH_take (i:=4) (v:=?_) rfl Zk Zk Zk (λ_ _ _ h=>h) (Or.inl ⟨by rfl,?_⟩) Za ?_;rotate_left;(·intro u h;(try dsimp only at h);(try simp only[wad,wae,waf]);go_simp;try with_reducible rfl);try simp only[Act.put,wag,wah,wai,wad,wae,waf]
  refine wpAnyH_take (i:=5) (v:=?_) rfl Zk Zk Zk (λ_ _ _ h=>h) (Or.inl ⟨by rfl,?_⟩) Za ?_;rotate_left;(·intro u h;(try dsimp only at h);(try simp only[wad,wae,waf]);go_simp;try with_reducible rfl);try simp only[Act.put,wag,wah,wai,wad,wae,waf]
  refine wpAnyH_ready (rs:=[1,6]) Zk Zs ?_;refine AllReadyH.cons rfl (λK hK=>?_) (AllReadyH.cons rfl (λK hK=>?_) AllReadyH.nil)
  ·(try simp only[wad,wae,waf])
   go_simp
   have hBe:Below W0.heap.size W0 (W0.alloc (.cells #[] 82)).drew:=((wac W0.heap.size W0).alloc (by first|exact wab _|simp) _).drew;refine hK.out _ _ (⟨qac hBe k0,qac hBe k1,qac hBe k2⟩) (λhHeld2=>?_);clear hK K hHeld;have hHeld:=hHeld2;clear hHeld2;try simp only[Act.put,wag,wah,wai,wad,wae,waf]
   refine wpAnyH_ready (rs:=[3,6]) Zk Zs ?_;refine AllReadyH.cons rfl (λK hK=>?_) (AllReadyH.cons rfl (λK hK=>?_) AllReadyH.nil)
   ·have hlit:=wcq (base:=W0.heap.size) (e:=82) (size:=3) W0 #[] 0 (by first|exact wab _|simp) Zd rfl
    have hcB:Below w.heap.size w (W0.alloc (.cells #[] 82)).drew:=hB0.out.trans (hBe.mono hwz);have hnews:=qhg (hR.out.below hcB);refine step_append_lies _ Zr _ _ 75 Zr W0.heap.size 82 i0 _ 3 24 wde ii iz0 iz1 iz2 Zr Zd _ 0 [] Zr (show World.ownsRow (W0.alloc (.cells #[] 82)).drew _ _ _ _ _ _ from hlit) ⟨g,0,none⟩ s cap (hV hs) Zr hvl hnews hv1 Zo (by simp only[maxLen];omega) Zo hBe.size _ Zr ?_;intro g2 c2 V3 hown3 hgrow3 hat3 hlg3;rw[wa4,wba] at hown3;simp only[wa4];have hB3:Below W0.heap.size W0 V3:=hBe.grown hgrow3 hBe.size (λj e=>by injection e with e;subst e;first|exact wab _|simp);have hBe:=hB3;refine hK.out _ _ (⟨qac hBe k0,qac hBe k1,qac hBe k2⟩) (λhHeld2=>?_);clear hK K hHeld;have hHeld:=hHeld2;clear hHeld2;try simp only[Act.put,wag,wah,wai,wad,wae,waf]
    refine wpAnyH_ready (rs:=[6]) Zk Zs ?_;refine AllReadyH.cons rfl (λK hK=>?_) AllReadyH.nil
    (try simp only[wad,wae,waf])
    go_simp
    have hBe:Below W0.heap.size W0 (V3.alloc (.cells (caC (λ_=> .slice none 0 0) L) 76)):=(hB3).trans (((wac _ _).alloc (wab _) _).mono (hB3).size);refine hK.out _ _ (⟨qac hBe k0,qac hBe k1,qac hBe k2⟩) (λhHeld2=>?_);clear hK K hHeld;have hHeld:=hHeld2;clear hHeld2;try simp only[Act.put,wag,wah,wai,wad,wae,waf]
    refine wpAnyH_take (i:=7) (v:=?_) rfl Zk Zk Zk (λ_ _ _ h=>h) (Or.inl ⟨by rfl,?_⟩) Za ?_;rotate_left;(·intro u h;(try dsimp only at h);(try simp only[wad,wae,waf]);go_simp;try with_reducible rfl);try simp only[Act.put,wag,wah,wai,wad,wae,waf]
    refine wpAnyH_ready (rs:=[8]) Zk Zs ?_;refine AllReadyH.cons rfl (λK hK=>?_) AllReadyH.nil
    (try simp only[wad,wae,waf])
    go_simp
    have hBx:Below ((V3.alloc (.cells (caC (λ_=> .slice none 0 0) L) 76))).heap.size (V3.alloc (.cells (caC (λ_=> .slice none 0 0) L) 76)) ((V3.alloc (.cells (caC (λ_=> .slice none 0 0) L) 76)).alloc (.cells (hpC (λ_=> .slice none 0 0) (s:Int) (L:Int) r (.slice (some ⟨g2,0,none⟩) s c2) (.slice (some ⟨V3.heap.size,0,none⟩) L L)) 79)):=(wac _ _).alloc (wab _) _;refine hK.out _ _ (⟨qac hBx (qac hBe k0),qac hBx (qac hBe k1),qac hBx (qac hBe k2)⟩) (λhHeld2=>?_);clear hK K hHeld;have hHeld:=hHeld2;clear hHeld2;try simp only[Act.put,wag,wah,wai,wad,wae,waf]
    refine wpAnyH_take (i:=9) (v:=?_) rfl Zk Zk Zk (λ_ _ _ h=>h) (Or.inl ⟨by rfl,?_⟩) Za ?_;rotate_left;(·intro u h;(try dsimp only at h);(try simp only[wad,wae,waf]);go_simp;try with_reducible rfl);try simp only[Act.put,wag,wah,wai,wad,wae,waf]
    refine wpAnyH_done Zk ?_ _;go_wp2_with fail;go_meet
    have hz:(V3.alloc (.cells (caC (λ_=> .slice none 0 0) L) 76)).heap.size=V3.heap.size+1:=by simp
    have hq:=heap_alloc_new (V3.alloc (.cells (caC (λ_=> .slice none 0 0) L) 76)) (.cells (hpC (λ_=> .slice none 0 0) (s:Int) (L:Int) r (.slice (some ⟨g2,0,none⟩) s c2) (.slice (some ⟨V3.heap.size,0,none⟩) L L)) 79);rw[hz] at hq;exact⟨_,rfl,waa ⟨_,R18.made hq (qaf (qax (qaf hown3 ((wac _ _).alloc (wab _) _)) hwz) hBx) (by rw[<-hz];exact wap hwz hBe.size)⟩,waa (hB0.out.trans ((hBe.trans (hBx.mono hBe.size)).mono hwz)),waa ((hG0.out.below hBe hG0.out.lt).below hBx (waw hG0.out.lt hBe.size))⟩
   ·(try simp only[wad,wae,waf])
    go_simp
    have hBe:Below W0.heap.size W0 ((W0.alloc (.cells #[] 82)).alloc (.cells (caC (λ_=> .slice none 0 0) L) 76)).drew:=(((wac W0.heap.size W0).alloc (by first|exact wab _|simp) _).alloc (by first|exact wab _|simp) _).drew;refine hK.out _ _ (⟨qac hBe k0,qac hBe k1,qac hBe k2⟩) (λhHeld2=>?_);clear hK K hHeld;have hHeld:=hHeld2;clear hHeld2;try simp only[Act.put,wag,wah,wai,wad,wae,waf]
    refine wpAnyH_ready (rs:=[3]) Zk Zs ?_;refine AllReadyH.cons rfl (λK hK=>?_) AllReadyH.nil;have hlit:=wcq (base:=W0.heap.size) (e:=82) (size:=3) W0 #[] 0 (by first|exact wab _|simp) Zd rfl;have hlit:=qaf hlit ((wac _ _).alloc (wab _) (.cells (caC (λ_=> .slice none 0 0) L) 76));have hcB:Below w.heap.size w ((W0.alloc (.cells #[] 82)).alloc (.cells (caC (λ_=> .slice none 0 0) L) 76)).drew:=hB0.out.trans (hBe.mono hwz);have hnews:=qhg (hR.out.below hcB);refine step_append_lies _ Zr _ _ 75 Zr W0.heap.size 82 i0 _ 3 24 wde ii iz0 iz1 iz2 Zr Zd _ 0 [] Zr (show World.ownsRow ((W0.alloc (.cells #[] 82)).alloc (.cells (caC (λ_=> .slice none 0 0) L) 76)).drew _ _ _ _ _ _ from hlit) ⟨g,0,none⟩ s cap (hV hs) Zr hvl hnews hv1 Zo (by simp only[maxLen];omega) Zo hBe.size _ Zr ?_;intro g2 c2 V3 hown3 hgrow3 hat3 hlg3;rw[wa4,wba] at hown3;simp only[wa4];have hB3:Below W0.heap.size W0 V3:=hBe.grown hgrow3 hBe.size (λj e=>by injection e with e;subst e;first|exact wab _|simp);have hBe:=hB3;refine hK.out _ _ (⟨qac hBe k0,qac hBe k1,qac hBe k2⟩) (λhHeld2=>?_);clear hK K hHeld;have hHeld:=hHeld2;clear hHeld2;try simp only[Act.put,wag,wah,wai,wad,wae,waf]
    refine wpAnyH_take (i:=7) (v:=?_) rfl Zk Zk Zk (λ_ _ _ h=>h) (Or.inl ⟨by rfl,?_⟩) Za ?_;rotate_left;(·intro u h;(try dsimp only at h);(try simp only[wad,wae,waf]);go_simp;try with_reducible rfl);try simp only[Act.put,wag,wah,wai,wad,wae,waf]
    refine wpAnyH_ready (rs:=[8]) Zk Zs ?_;refine AllReadyH.cons rfl (λK hK=>?_) AllReadyH.nil
    (try simp only[wad,wae,waf])
    go_simp
    have hBx:Below (V3).heap.size V3 (V3.alloc (.cells (hpC (λ_=> .slice none 0 0) (s:Int) (L:Int) r (.slice (some ⟨g2,0,none⟩) s c2) (.slice (some ⟨W0.heap.size+1,0,none⟩) L L)) 79)):=(wac _ _).alloc (wab _) _;refine hK.out _ _ (⟨qac hBx (qac hBe k0),qac hBx (qac hBe k1),qac hBx (qac hBe k2)⟩) (λhHeld2=>?_);clear hK K hHeld;have hHeld:=hHeld2;clear hHeld2;try simp only[Act.put,wag,wah,wai,wad,wae,waf]
    refine wpAnyH_take (i:=9) (v:=?_) rfl Zk Zk Zk (λ_ _ _ h=>h) (Or.inl ⟨by rfl,?_⟩) Za ?_;rotate_left;(·intro u h;(try dsimp only at h);(try simp only[wad,wae,waf]);go_simp;try with_reducible rfl);try simp only[Act.put,wag,wah,wai,wad,wae,waf]
    refine wpAnyH_done Zk ?_ _;go_wp2_with fail;go_meet
    exact⟨_,rfl,waa ⟨_,R18.made (heap_alloc_new V3 _) (qaf (qax (hown3) hwz) hBx) (wap hwz hBe.size)⟩,waa (hB0.out.trans ((hBe.trans (hBx.mono hBe.size)).mono hwz)),waa ((hG0.out.below hBe hG0.out.lt).below hBx (waw hG0.out.lt hBe.size))⟩
  ·(try simp only[wad,wae,waf])
   go_simp
   have hBe:Below W0.heap.size W0 (W0.alloc (.cells (caC (λ_=> .slice none 0 0) L) 76)).drew:=((wac W0.heap.size W0).alloc (by first|exact wab _|simp) _).drew;refine hK.out _ _ (⟨qac hBe k0,qac hBe k1,qac hBe k2⟩) (λhHeld2=>?_);clear hK K hHeld;have hHeld:=hHeld2;clear hHeld2;try simp only[Act.put,wag,wah,wai,wad,wae,waf]
   refine wpAnyH_ready (rs:=[1]) Zk Zs ?_;refine AllReadyH.cons rfl (λK hK=>?_) AllReadyH.nil
   (try simp only[wad,wae,waf])
   go_simp
   have hBe:Below W0.heap.size W0 ((W0.alloc (.cells (caC (λ_=> .slice none 0 0) L) 76)).alloc (.cells #[] 82)).drew:=(((wac W0.heap.size W0).alloc (by first|exact wab _|simp) _).alloc (by first|exact wab _|simp) _).drew;refine hK.out _ _ (⟨qac hBe k0,qac hBe k1,qac hBe k2⟩) (λhHeld2=>?_);clear hK K hHeld;have hHeld:=hHeld2;clear hHeld2;try simp only[Act.put,wag,wah,wai,wad,wae,waf]
   refine wpAnyH_ready (rs:=[3]) Zk Zs ?_;refine AllReadyH.cons rfl (λK hK=>?_) AllReadyH.nil;have hlit:=wcq (base:=W0.heap.size) (e:=82) (size:=3) (W0.alloc (.cells (caC (λ_=> .slice none 0 0) L) 76)) #[] 0 (by first|exact wab _|simp) Zd rfl;rw[show(W0.alloc (.cells (caC (λ_=> .slice none 0 0) L) 76)).heap.size=W0.heap.size+1 by simp] at hlit;have hcB:Below w.heap.size w ((W0.alloc (.cells (caC (λ_=> .slice none 0 0) L) 76)).alloc (.cells #[] 82)).drew:=hB0.out.trans (hBe.mono hwz);have hnews:=qhg (hR.out.below hcB);refine step_append_lies _ Zr _ _ 75 Zr W0.heap.size 82 i0 _ 3 24 wde ii iz0 iz1 iz2 Zr Zd _ 0 [] Zr (show World.ownsRow ((W0.alloc (.cells (caC (λ_=> .slice none 0 0) L) 76)).alloc (.cells #[] 82)).drew _ _ _ _ _ _ from hlit) ⟨g,0,none⟩ s cap (hV hs) Zr hvl hnews hv1 Zo (by simp only[maxLen];omega) Zo hBe.size _ Zr ?_;intro g2 c2 V3 hown3 hgrow3 hat3 hlg3;rw[wa4,wba] at hown3;simp only[wa4];have hB3:Below W0.heap.size W0 V3:=hBe.grown hgrow3 hBe.size (λj e=>by injection e with e;subst e;first|exact wab _|simp);have hBe:=hB3;refine hK.out _ _ (⟨qac hBe k0,qac hBe k1,qac hBe k2⟩) (λhHeld2=>?_);clear hK K hHeld;have hHeld:=hHeld2;clear hHeld2;try simp only[Act.put,wag,wah,wai,wad,wae,waf]
   refine wpAnyH_take (i:=7) (v:=?_) rfl Zk Zk Zk (λ_ _ _ h=>h) (Or.inl ⟨by rfl,?_⟩) Za ?_;rotate_left;(·intro u h;(try dsimp only at h);(try simp only[wad,wae,waf]);go_simp;try with_reducible rfl);try simp only[Act.put,wag,wah,wai,wad,wae,waf]
   refine wpAnyH_ready (rs:=[8]) Zk Zs ?_;refine AllReadyH.cons rfl (λK hK=>?_) AllReadyH.nil
   (try simp only[wad,wae,waf])
   go_simp
   have hBx:Below (V3).heap.size V3 (V3.alloc (.cells (hpC (λ_=> .slice none 0 0) (s:Int) (L:Int) r (.slice (some ⟨g2,0,none⟩) s c2) (.slice (some ⟨W0.heap.size,0,none⟩) L L)) 79)):=(wac _ _).alloc (wab _) _;refine hK.out _ _ (⟨qac hBx (qac hBe k0),qac hBx (qac hBe k1),qac hBx (qac hBe k2)⟩) (λhHeld2=>?_);clear hK K hHeld;have hHeld:=hHeld2;clear hHeld2;try simp only[Act.put,wag,wah,wai,wad,wae,waf]
   refine wpAnyH_take (i:=9) (v:=?_) rfl Zk Zk Zk (λ_ _ _ h=>h) (Or.inl ⟨by rfl,?_⟩) Za ?_;rotate_left;(·intro u h;(try dsimp only at h);(try simp only[wad,wae,waf]);go_simp;try with_reducible rfl);try simp only[Act.put,wag,wah,wai,wad,wae,waf]
   refine wpAnyH_done Zk ?_ _;go_wp2_with fail;go_meet
   exact⟨_,rfl,waa ⟨_,R18.made (heap_alloc_new V3 _) (qaf (qax (hown3) hwz) hBx) (wap hwz hBe.size)⟩,waa (hB0.out.trans ((hBe.trans (hBx.mono hBe.size)).mono hwz)),waa ((hG0.out.below hBe hG0.out.lt).below hBx (waw hG0.out.lt hBe.size))⟩
 case rest=>
  obtain⟨p,rfl,hH0,hB,hG⟩:=hcut;have hH:=waa (show ∃rv,R18 _ w.heap.size p s L r hs rv (rfS hs ms ((qbd (s:Int) (L:Int) r hs).take 0)) from by rw[wdx,qaap];exact hH0.out);obtain⟨c0,c1,c2,-⟩:=hG.out.cells;have hra:=waa (λ(V:World) (hV:Below w.heap.size w V)=>qpw (s:Int) (L:Int) r (some ⟨g,0,none⟩) cap hs V (by rw[hfl];exact hR.out.below hV) Zo);rw[hfl] at hra;have hbin:=waa (λb (hb:b∈qbd (s:Int) (L:Int) r hs)=>qej hb);have hNl:=qfb (s:Int) (L:Int) r hs;have hall:=waa (qabu (ms:=ms) hd hfl);have hdb:=waa (hdsB_iff.1 hd).2.2;have hml:=waa hM.out.1;clear k0 k1 k2 hH0 hB0 hv1 hvl hmk i0 ii iz0 iz1 iz2 hG0 hwz hd;go_wp2_with fail;refine(hra.out _ hB.out).mono ?_;rintro e w2 ⟨v,rfl,hrow,hB2⟩;obtain⟨A,c,rfl,-⟩:=BsRd.of_own hrow;have hH2:=waa (show ∃rv,R18 w2 w.heap.size p s L r hs rv (rfS hs ms ((qbd (s:Int) (L:Int) r hs).take 0)) from by
   obtain⟨rv,h⟩:=hH.out;exact⟨rv,h.below hB2⟩)
  have hrow2:=waa (qax hrow hB.out.size);have hB3:=waa (hB.out.trans (hB2.mono hB.out.size));clear hrow hB2 hH hB hG c0 c1 c2 hra;generalize qbd (s:Int) (L:Int) r hs=AB at hH2 hrow2 hbin hNl hall ⊢;generalize hN:AB.length=N at hNl hrow2 ⊢;replace hN:=waa hN;go_wp2_with fail;go_loopg [9] N (λk s9 wr=>∃i:Nat,s9= .int .i64 (i:Int)/\N - i<=k/\i<=N/\Hid (∃rv,R18 wr w.heap.size p s L r hs rv (rfS hs ms (AB.take i)))/\Hid (wr.ownsRow w.heap.size 179 4 (.slice A N c) N (bV AB))/\Hid (Below w.heap.size w wr))
  case atStart=>exact⟨0,rfl,Zo,Zo,hH2,hrow2,hB3⟩
  case round=>
   clear hH2 hrow2 hB3;obtain⟨i,rfl,hki,hiN,hH,hrow,hBr⟩:=hrel;by_cases hlt:i<N
   ·have z1:(i:Int)<(N:Int):=Zo
    have z2:(0:Int)<=(i:Int):=Zo
    obtain⟨A',c',hv,hbr⟩:=BsRd.of_own hrow.out;injection hv with hv1 _ hv2;subst hv1 hv2;obtain⟨q,ba,bs,bi,bw,rfl,hb,b0,b1,b2,b3⟩:=hbr.at_ hlt;obtain⟨-,hs0,hs1,hi0,hi1,-⟩:=hbin.out _ (waq hb);dsimp only at hs0 hs1 hi0 hi1;obtain⟨S,rfl⟩:=waz hs0;have hSs:S<s:=Zo
    obtain⟨x,hx⟩:∃x,hs[S]? =some x:=⟨_,waj (by rw[hfl];exact hSs)⟩
    obtain⟨kd,cl,ow⟩:=x;obtain⟨qh,hq,hcx⟩:=(hR.out.below hBr.out).2 Zo;injection hq with hq;subst hq;have x0:=(hcx S _ hx).1;have x1:=(hcx S _ hx).2.1;have x2:=(hcx S _ hx).2.2;dsimp only at x0 x1 x2;obtain⟨y0,hy0⟩:∃x,(u64V ms)[S]? =some x:=⟨_,waj (by rw[hml.out];exact hSs)⟩
    obtain⟨qm,rfl,hcm⟩:=(hM.out.below hBr.out).2 Zo;have m0:=hcm S _ hy0;simp only[u64V,wa1,wcz] at hy0;obtain⟨y,hy,rfl⟩:=hy0;have hylt:=hms.out y (waq hy);have key1:((hs[((ba,(S:Int),bi,bw):BL).2.1.toNat]?).getD (0,0,0))=(kd,cl,ow):=by
     show(hs[((S:Nat):Int).toNat]?).getD _=_
     rw[wam,hx];rfl
    have key2:ms.getD ((ba,(S:Int),bi,bw):BL).2.1.toNat 0=y:=by
     show ms.getD ((S:Nat):Int).toNat 0=y
     rw[wam,wax,hy];rfl
    have hcl:=hdb.out _ (waq hx);have hts:=qko hb;rw[wb5,wa4] at x0;rw[wb5] at x1 x2;simp only[wa4] at x1 x2;have hBa:Below wr.heap.size wr (wr.alloc (.cells #[.int .i64 (S:Int),.int .i64 bi,.int .i64 bw] 164)):=(wac _ _).alloc (wab _) _;have hBb:Below wr.heap.size wr ((wr.alloc (.cells #[.int .i64 (S:Int),.int .i64 bi,.int .i64 bw] 164)).alloc (.cells #[.int .i64 kd,.int .i64 cl,.int .i64 ow] 82)):=hBa.alloc hBa.size _;have x0':=qac hBa x0;have x1':=qac hBa x1;have x2':=qac hBa x2;have b0':=qac hBa b0;have s0:(wr.alloc (.cells #[.int .i64 (S:Int),.int .i64 bi,.int .i64 bw] 164)).cell? ⟨wr.heap.size,0,none⟩=some (.int .i64 (S:Int)):=by rw[qaa (heap_alloc_new wr _)];rfl
    have s1:(wr.alloc (.cells #[.int .i64 (S:Int),.int .i64 bi,.int .i64 bw] 164)).cell? ⟨wr.heap.size,1,none⟩=some (.int .i64 bi):=by rw[qaa (heap_alloc_new wr _)];rfl
    have hrowb:=waa (qaf hrow.out hBb);have hHb:=waa (show ∃rv,R18 ((wr.alloc (.cells #[.int .i64 (S:Int),.int .i64 bi,.int .i64 bw] 164)).alloc (.cells #[.int .i64 kd,.int .i64 cl,.int .i64 ow] 82)) w.heap.size p s L r hs rv (rfS hs ms (AB.take i)) from by
     obtain⟨rv,h⟩:=hH.out;exact⟨rv,h.below hBb⟩)
    have hBrb:=waa (hBr.out.trans (hBb.mono hBr.out.size));have m0':=qac hBb m0;have b0'':=qac hBb b0;have hha:=waa (λV=>qjk y bi V hylt Zo Zo);replace hcl:=waa hcl;replace key1:=waa key1;replace key2:=waa key2;replace hts:=waa hts;clear hcx hcm hbr hrow hH hBr hBb m0 hy;go_upto_region 7 with fail
    generalize hW1:wr.alloc (.cells #[.int .i64 (S:Int),.int .i64 bi,.int .i64 bw] 164)=W1 at x0' x1' x2' b0' s0 s1 hrowb hHb hBrb m0' b0'' hBa ⊢;have hBc:Below W1.heap.size W1 (W1.alloc (.cells #[.int .i64 kd,.int .i64 cl,.int .i64 ow] 82)):=(wac _ _).alloc (wab _) _;have t0:=qac hBc s0;have t1:=qac hBc s1;have h0:(W1.alloc (.cells #[.int .i64 kd,.int .i64 cl,.int .i64 ow] 82)).cell? ⟨W1.heap.size,0,none⟩=some (.int .i64 kd):=by rw[qaa (heap_alloc_new W1 _)];rfl
    have h1:(W1.alloc (.cells #[.int .i64 kd,.int .i64 cl,.int .i64 ow] 82)).cell? ⟨W1.heap.size,1,none⟩=some (.int .i64 cl):=by rw[qaa (heap_alloc_new W1 _)];rfl
    have h11:(W1.alloc (.cells #[.int .i64 kd,.int .i64 cl,.int .i64 ow] 82)).heap[W1.heap.size]? =some (.cells #[.int .i64 kd,.int .i64 cl,.int .i64 ow] 82 (0,0)):=heap_alloc_new W1 _;clear hW1 b0 x0 x1 x2;go_upto_region 8 with fail
    clear x0' x1' x2' s0 s1 b0' hBc hBa;generalize W1.alloc (.cells #[.int .i64 kd,.int .i64 cl,.int .i64 ow] 82)=W2 at t0 t1 h0 h1 h11 m0' b0'' hrowb hHb hBrb ⊢;generalize W1.heap.size=z11 at h0 h1 h11 ⊢;generalize wr.heap.size=z10 at t0 t1 ⊢;by_cases hk:kd=1
    ·subst hk
     cases hq:hasB y bi with
     |true=>
      rw[hq] at hha;have hH2:=waa (show ∃rv,R18 W2 w.heap.size p s L r hs rv (rfS hs ms (AB.take (i+1))) from by
       rw[hts.out,qti (λe=>by rw[key2.out] at e;exact absurd (hq.symm.trans e.2) Zd)];exact hHb.out)
      clear hHb hdb;go_quiet (first|(go_at_call 95;exact qau (hha.out _)))
      go_wp2_with fail;go_roundg (N - (i+1))
      case measure=>omega
      case rel=>exact⟨i+1,by go_num,wab _,Zo,hH2,hrowb,waa (qad hBrb.out _)⟩
     |false=>
      rw[hq] at hha;go_quiet (first|(go_at_call 95;exact qau (hha.out _)))
      obtain⟨C,rfl⟩:∃C:Nat,cl=(C:Int):=waz (by
       have:=hcl.out
       unfold hdB qav at this;simp at this
       omega)
      have hC4:C<4:=by
       have:=hcl.out
       unfold hdB qav at this;simp at this
       omega
      have z5:(0:Int)<=(C:Int):=Zo
      have z6:(C:Int)<4:=Zo
      go_upto_region 9 with fail
      replace hHb:=waa (show ∃rv,R18 (W2.drewN nq) w.heap.size p s L r hs rv (rfS hs ms (AB.take i)) from hHb.out);replace hrowb:=waa (show(W2.drewN nq).ownsRow w.heap.size 179 4 (.slice (some q) N c) N (bV AB) from hrowb.out);replace hBrb:=waa (qad hBrb.out nq);replace h11:(W2.drewN nq).heap[z11]? =_:=h11;replace h1:(W2.drewN nq).cell? ⟨z11,1,none⟩=some (.int .i64 (C:Int)):=h1;replace b0'':(W2.drewN nq).cell? (q.add (i*4))=some (.int .i64 ba):=b0'';clear h0 t0 t1 m0';generalize W2.drewN nq=V2 at hHb hrowb hBrb h11 h1 b0'' ⊢;obtain⟨rv,hR18⟩:=hHb.out;have hR18':=hR18;obtain⟨⟨gh,hcp,cv,hblk,-⟩,hrows,-,hbp⟩:=hR18';have hplt:p<V2.heap.size:=(wal.1 hblk).1;have hzlt:z11<V2.heap.size:=(wal.1 h11).1;have hnp:(rv C).ownBlock≠some p:=qcm hblk Zd (hrows C hC4);have hnz:(rv C).ownBlock≠some z11:=qcm h11 Zd (hrows C hC4);have hpz:p≠z11:=by
       rintro rfl;rw[h11] at hblk;injection hblk with hblk;injection hblk with _ h2 _;exact absurd h2 Zd
      obtain⟨hqlt,hnq,hpq⟩:q.block<V2.heap.size/\(rv C).ownBlock≠some q.block/\p≠q.block:=by
       rcases hrowb.out.2 with ⟨e,-⟩|⟨g9,cap9,cur9,e,-,hg9,-⟩
       ·cases e
       ·injection e with e
        injection e with e;subst e;exact⟨(wal.1 hg9).1,qcm hg9 Zd (hrows C hC4),by
         rintro rfl;rw[hg9] at hblk;injection hblk with hblk;injection hblk with _ h2 _;exact absurd h2 Zd⟩
      have hqad:(q.add (i*4)).block=q.block:=by cases (i*4)<;>rfl
      have k9:V2.cell? ⟨p,4+C,none⟩=some (rv C):=by rw[qaa hblk];exact qgd hC4
      have hlen:(rfS hs ms (AB.take i) C).length+1<=1099511627776:=by
       have h2:=qw5 (hs:=hs) (ms:=ms) C (AB.take i);have h3:(AB.take i).length<=N:=by rw[war,hN.out];omega
       omega
      obtain⟨RA,RC,hrve,hRl,hRR⟩:=(hrows C hC4).shape;replace hR18:=waa hR18;replace hrows:=waa hrows;have hblk':=hblk;have hbV:w.heap.size<=V2.heap.size:=hBrb.out.size;refine wp_region_held_drew (S:=(λU=>U.cell? ⟨z11,1,none⟩=some (.int .i64 (C:Int))/\U.cell? (q.add (i*4))=some (.int .i64 ba))) Zk (⟨h1,b0''⟩) (λhHeld=>?_);refine wpAnyH_take (i:=0) (v:=?_) rfl Zk Zk Zk (λ_ _ _ h=>h) (Or.inl ⟨by rfl,?_⟩) Za ?_;rotate_left;(·intro u h;(try dsimp only at h);(try simp only[wad,wae]);go_simp;try with_reducible rfl);try simp only[Act.put,wag,wah,wai,wad,wae]
      refine wpAnyH_take (i:=1) (v:=?_) rfl Zk Zk Zk (λ_ _ _ h=>h) (Or.inl ⟨by rfl,?_⟩) Za ?_;rotate_left;(·intro u h;(try dsimp only at h);(try simp only[wad,wae,waf]);go_simp;try with_reducible rfl);try simp only[Act.put,wag,wah,wai,wad,wae,waf]
      refine wpAnyH_take (i:=2) (v:=?_) rfl Zk Zk Zk (λ_ _ _ h=>h) (Or.inl ⟨by rfl,?_⟩) Za ?_;rotate_left;(·intro u h;(try dsimp only at h);(try simp only[wad,wae,waf]);go_simp;try with_reducible rfl);try simp only[Act.put,wag,wah,wai,wad,wae,waf]
      refine wpAnyH_take (i:=3) (v:=?_) rfl Zk Zk Zk (λ_ _ _ h=>h) (Or.inl ⟨by rfl,?_⟩) Za ?_;rotate_left;(·intro u h;(try dsimp only at h);(try simp only[wad,wae,waf]);go_simp;try with_reducible rfl);try simp only[Act.put,wag,wah,wai,wad,wae,waf]
      refine wpAnyH_take (i:=4) (v:=?_) rfl Zk Zk Zk (λ_ _ _ h=>h) (Or.inl ⟨by rfl,?_⟩) Za ?_;rotate_left;(·intro u h;(try dsimp only at h);(try simp only[wad,wae,waf]);go_simp;try with_reducible rfl);try simp only[Act.put,wag,wah,wai,wad,wae,waf]
      refine wpAnyH_take (i:=5) (v:=?_) rfl Zk Zk Zk (λ_ _ _ h=>h) (Or.inl ⟨by rfl,?_⟩) Za ?_;rotate_left;(·intro u h;(try dsimp only at h);(try simp only[wad,wae,waf]);go_simp;try with_reducible rfl);try simp only[Act.put,wag,wah,wai,wad,wae,waf]
      refine wpAnyH_take (i:=6) (v:=?_) rfl Zk Zk Zk (λ_ _ _ h=>h) (Or.inl ⟨by rfl,?_⟩) Za ?_;rotate_left;(·intro u h;(try dsimp only at h);(try simp only[wad,wae,waf]);go_simp;try with_reducible rfl);try simp only[Act.put,wag,wah,wai,wad,wae,waf]
      refine wpAnyH_take (i:=7) (v:=?_) rfl Zk Zk Zk (λ_ _ _ h=>h) (Or.inl ⟨by rfl,?_⟩) Za ?_;rotate_left;(·intro u h;(try dsimp only at h);(try simp only[wad,wae,waf]);go_simp;try with_reducible rfl);try simp only[Act.put,wag,wah,wai,wad,wae,waf]
      refine wpAnyH_take (i:=8) (v:=?_) rfl Zk Zk Zk (λ_ _ _ h=>h) (Or.inl ⟨by rfl,?_⟩) Za ?_;rotate_left;(·intro u h;(try dsimp only at h);(try simp only[wad,wae,waf]);go_simp;try with_reducible rfl);try simp only[Act.put,wag,wah,wai,wad,wae,waf]
      refine wpAnyH_take (i:=10) (v:=?_) rfl Zk Zk Zk (λ_ _ _ h=>h) (Or.inl ⟨by rfl,?_⟩) Za ?_;rotate_left;(·intro u h;(try dsimp only at h);(try simp only[wad,wae,waf]);go_simp;try with_reducible rfl);try simp only[Act.put,wag,wah,wai,wad,wae,waf]
      refine wpAnyH_take (i:=11) (v:=?_) rfl Zk Zk Zk (λ_ _ _ h=>h) (Or.inl ⟨by rfl,?_⟩) Za ?_;rotate_left;(·intro u h;(try dsimp only at h);(try simp only[wad,wae,waf]);go_simp;try with_reducible rfl);try simp only[Act.put,wag,wah,wai,wad,wae,waf]
      refine wpAnyH_take (i:=12) (v:=?_) rfl Zk Zk Zk (λ_ _ _ h=>h) (Or.inl ⟨by rfl,?_⟩) Za ?_;rotate_left;(·intro u h;(try dsimp only at h);(try simp only[wad,wae,waf]);go_simp;try with_reducible rfl);try simp only[Act.put,wag,wah,wai,wad,wae,waf]
      refine wpAnyH_take (i:=13) (v:=?_) rfl Zk Zk Zk (λ_ _ _ h=>h) (Or.inl ⟨by rfl,?_⟩) Za ?_;rotate_left;(·intro u h;(try dsimp only at h);(try simp only[wad,wae,waf]);go_simp;try with_reducible rfl);try simp only[Act.put,wag,wah,wai,wad,wae,waf]
      refine wpAnyH_take (i:=14) (v:=?_) rfl Zk Zk Zk (λ_ _ _ h=>h) (Or.inl ⟨by rfl,?_⟩) Za ?_;rotate_left;(·intro u h;(try dsimp only at h);(try simp only[wad,wae,waf]);go_simp;try with_reducible rfl);try simp only[Act.put,wag,wah,wai,wad,wae,waf]
      refine wpAnyH_take (i:=17) (v:=?_) rfl Zk Zk Zk (λ_ _ _ h=>h) (Or.inl ⟨by rfl,?_⟩) Za ?_;rotate_left;(·intro u h;(try dsimp only at h);(try simp only[wad,wae,waf]);go_simp;try with_reducible rfl);try simp only[Act.put,wag,wah,wai,wad,wae,waf]
      refine wpAnyH_take (i:=18) (v:=?_) rfl Zk Zk Zk (λ_ _ _ h=>h) (Or.inl ⟨by rfl,?_⟩) Za ?_;rotate_left;(·intro u h;(try dsimp only at h);(try simp only[wad,wae,waf]);go_simp;try with_reducible rfl);try simp only[Act.put,wag,wah,wai,wad,wae,waf]
      refine wpAnyH_ready (rs:=[9,15]) Zk Zs ?_;refine AllReadyH.cons rfl (λK hK=>?_) (AllReadyH.cons rfl (λK hK=>?_) AllReadyH.nil)
      ·have k9':V2.drew.cell? ⟨p,4+C,none⟩=some (rv C):=k9
       (try simp only[wad,wae,waf])
       go_simp
       refine hK.out _ _ (⟨h1,b0''⟩) (λhHeld2=>?_);clear hK K hHeld;have hHeld:=hHeld2;clear hHeld2;try simp only[Act.put,wag,wah,wai,wad,wae,waf]
       refine wpAnyH_ready (rs:=[15]) Zk Zs ?_;refine AllReadyH.cons rfl (λK hK=>?_) AllReadyH.nil
       (try simp only[wad,wae,waf])
       go_simp
       have hBs:Below V2.heap.size V2 (V2.drew.alloc (.cells #[.int .i64 ba] 3)):=(wac V2.heap.size V2).drew.alloc (wab _) _;refine hK.out _ _ (⟨qac hBs h1,qac hBs b0''⟩) (λhHeld2=>?_);clear hK K hHeld;have hHeld:=hHeld2;clear hHeld2;try simp only[Act.put,wag,wah,wai,wad,wae,waf]
       refine wpAnyH_ready (rs:=[16]) Zk Zs ?_;refine AllReadyH.cons rfl (λK hK=>?_) AllReadyH.nil;refine qed Zr _ _ Zr w.heap.size (rv C) (rfS hs ms (AB.take i) C) (by first|rfl|exact hrve.symm|exact hrve) ((hrows.out C hC4).below hBs) ⟨V2.heap.size,0,none⟩ 1 1 [ba] Zr rfl Zo (λj x hx=>by
        match j,hx with
        |0,hx=>
         injection hx with hx;subst hx;exact qaa (heap_alloc_new V2.drew _) 0) hlen (wap hbV hBs.size) ?_
       intro u2 w3 hr2 hgr2 hob2;obtain⟨TA,TC,rfl,hTl,hTR⟩:=hr2.shape;generalize hTN:(rfS hs ms (AB.take i) C++[ba]).length=TN at hob2 hTl ⊢;rw[hTN] at hr2;have hzb:∀k,k<V2.heap.size->(rv C).ownBlock≠some k->w3.heap[k]? =V2.heap[k]?:=λk hk hne=>(hgr2.block k (waw hk hBs.size) (λe=>hne e.symm)).trans (hBs.block k hk)
       have hA3:w3.heap[p]? =some (.cells (hpC rv (s:Int) (L:Int) r (.slice (some ⟨gh,0,none⟩) s hcp) cv) 79 (0,0)):=(hzb p hplt hnp).trans hblk;have hA3f:w3.frozen? ⟨p,4+C,none⟩=false:=qaj hA3 (4+C);have hA3c:w3.cell? ⟨p,4+C,none⟩=some (rv C):=by rw[qaa hA3];exact qgd hC4
       have hz3:w3.cell? ⟨z11,1,none⟩=some (.int .i64 (C:Int)):=(wdl (hzb z11 hzlt hnz)).trans h1;have hq3:w3.cell? (q.add (i*4))=some (.int .i64 ba):=(wdl (by rw[hqad];exact hzb q.block hqlt hnq)).trans b0'';refine hK.out _ _ (⟨hz3,hq3⟩) (λhHeld2=>?_);clear hK K hHeld;have hHeld:=hHeld2;clear hHeld2;try simp only[Act.put,wag,wah,wai,wad,wae,waf]
       refine wpAnyH_take (i:=19) (v:=?_) rfl Zk Zk Zk (λ_ _ _ h=>h) (Or.inl ⟨by rfl,?_⟩) Za ?_;rotate_left;(·intro u h;(try dsimp only at h);(try simp only[wad,wae,waf]);go_simp;try with_reducible rfl);try simp only[Act.put,wag,wah,wai,wad,wae,waf]
       refine wpAnyH_ready (rs:=[20]) Zk Zs ?_;refine AllReadyH.cons rfl (λK hK=>?_) AllReadyH.nil
       (try simp only[wad,wae,waf])
       go_simp
       refine hK.out _ _ (⟨qbc hz3 (λe=>hpz e.symm),qbc hq3 (λe=>hpq (by rw[<-e,hqad]))⟩) (λhHeld2=>?_);clear hK K hHeld;have hHeld:=hHeld2;clear hHeld2;try simp only[Act.put,wag,wah,wai,wad,wae,waf]
       refine wpAnyH_done Zk ?_ _;have hu:Upd (λk=>k=p\/(rv C).ownBlock=some k) V2 (w3.setCell ⟨p,4+C,none⟩ (.slice TA TN TC)):=(((Upd.of_below hBs (wab _):Upd (λ_=>False) V2 _).mono (λ_ e=>e.elim)).grown hgr2 (λk e=> .inl (.inr e))).setCell (.inl (.inl rfl)) _;have hnb:=qcm hA3 Zd hr2;have hr3:=hr2.upd ((Upd.refl (λk=>k=p) w3).setCell (p:=⟨p,4+C,none⟩) (.inl rfl) (.slice TA TN TC)) (λg hg e=>hnb (e▸hg));have hR3:=hR18.out.put hC4 hblk hu (λk hk=>hk) (by rw[qah hA3]) hr3 (by
        rcases hob2 with e|⟨g2,e,hg2⟩
        ·exact .inl e
        ·exact .inr ⟨g2,e,wap hBs.size hg2⟩)
       have hH3:=waa (show ∃rv,R18 (w3.setCell ⟨p,4+C,none⟩ (.slice TA TN TC)) w.heap.size p s L r hs rv (rfS hs ms (AB.take (i+1))) from⟨_,by
        rw[hts.out,qwi (C:=C) (by rw[key1.out]) (by rw[key2.out];exact hq) (by rw[key1.out];exact wam C)];exact hR3⟩)
       have hrow3:=waa (qde hrowb.out hu (λk hk e=>by
        injection hk with hk;subst hk;rcases e with e|e
        ·exact hpq e.symm
        ·exact hnq e))
       have hB3:=waa (hBrb.out.trans (hu.below (λk e=>by
        rcases e with rfl|e
        ·exact hbp
        ·exact((hrows.out C hC4).lt k e).1) hbV))
       clear hR3 hr3 hnb hu hR18 hrows hrowb hBrb hHb hA3 hA3c hA3f hz3 hq3 hr2 hgr2 hob2;go_wp2_with fail;go_roundg (N - (i+1))
       case measure=>omega
       case rel=>exact⟨i+1,by go_num,wab _,Zo,hH3,hrow3,hB3⟩
      ·(try simp only[wad,wae,waf])
       go_simp
       have hBs:Below V2.heap.size V2 (V2.drew.alloc (.cells #[.int .i64 ba] 3)):=(wac V2.heap.size V2).drew.alloc (wab _) _;refine hK.out _ _ (⟨qac hBs h1,qac hBs b0''⟩) (λhHeld2=>?_);clear hK K hHeld;have hHeld:=hHeld2;clear hHeld2;try simp only[Act.put,wag,wah,wai,wad,wae,waf]
       refine wpAnyH_ready (rs:=[9]) Zk Zs ?_;refine AllReadyH.cons rfl (λK hK=>?_) AllReadyH.nil;have k9':(V2.drew.alloc (.cells #[.int .i64 ba] 3)).cell? ⟨p,4+C,none⟩=some (rv C):=qac ((wac V2.heap.size V2).drew.alloc (wab _) _) k9
       (try simp only[wad,wae,waf])
       go_simp
       refine hK.out _ _ (⟨qac hBs h1,qac hBs b0''⟩) (λhHeld2=>?_);clear hK K hHeld;have hHeld:=hHeld2;clear hHeld2;try simp only[Act.put,wag,wah,wai,wad,wae,waf]
       refine wpAnyH_ready (rs:=[16]) Zk Zs ?_;refine AllReadyH.cons rfl (λK hK=>?_) AllReadyH.nil;refine qed Zr _ _ Zr w.heap.size (rv C) (rfS hs ms (AB.take i) C) (by first|rfl|exact hrve.symm|exact hrve) ((hrows.out C hC4).below hBs) ⟨V2.heap.size,0,none⟩ 1 1 [ba] Zr rfl Zo (λj x hx=>by
        match j,hx with
        |0,hx=>
         injection hx with hx;subst hx;exact qaa (heap_alloc_new V2.drew _) 0) hlen (wap hbV hBs.size) ?_
       intro u2 w3 hr2 hgr2 hob2;obtain⟨TA,TC,rfl,hTl,hTR⟩:=hr2.shape;generalize hTN:(rfS hs ms (AB.take i) C++[ba]).length=TN at hob2 hTl ⊢;rw[hTN] at hr2;have hzb:∀k,k<V2.heap.size->(rv C).ownBlock≠some k->w3.heap[k]? =V2.heap[k]?:=λk hk hne=>(hgr2.block k (waw hk hBs.size) (λe=>hne e.symm)).trans (hBs.block k hk)
       have hA3:w3.heap[p]? =some (.cells (hpC rv (s:Int) (L:Int) r (.slice (some ⟨gh,0,none⟩) s hcp) cv) 79 (0,0)):=(hzb p hplt hnp).trans hblk;have hA3f:w3.frozen? ⟨p,4+C,none⟩=false:=qaj hA3 (4+C);have hA3c:w3.cell? ⟨p,4+C,none⟩=some (rv C):=by rw[qaa hA3];exact qgd hC4
       have hz3:w3.cell? ⟨z11,1,none⟩=some (.int .i64 (C:Int)):=(wdl (hzb z11 hzlt hnz)).trans h1;have hq3:w3.cell? (q.add (i*4))=some (.int .i64 ba):=(wdl (by rw[hqad];exact hzb q.block hqlt hnq)).trans b0'';refine hK.out _ _ (⟨hz3,hq3⟩) (λhHeld2=>?_);clear hK K hHeld;have hHeld:=hHeld2;clear hHeld2;try simp only[Act.put,wag,wah,wai,wad,wae,waf]
       refine wpAnyH_take (i:=19) (v:=?_) rfl Zk Zk Zk (λ_ _ _ h=>h) (Or.inl ⟨by rfl,?_⟩) Za ?_;rotate_left;(·intro u h;(try dsimp only at h);(try simp only[wad,wae,waf]);go_simp;try with_reducible rfl);try simp only[Act.put,wag,wah,wai,wad,wae,waf]
       refine wpAnyH_ready (rs:=[20]) Zk Zs ?_;refine AllReadyH.cons rfl (λK hK=>?_) AllReadyH.nil
       (try simp only[wad,wae,waf])
       go_simp
       refine hK.out _ _ (⟨qbc hz3 (λe=>hpz e.symm),qbc hq3 (λe=>hpq (by rw[<-e,hqad]))⟩) (λhHeld2=>?_);clear hK K hHeld;have hHeld:=hHeld2;clear hHeld2;try simp only[Act.put,wag,wah,wai,wad,wae,waf]
       refine wpAnyH_done Zk ?_ _;have hu:Upd (λk=>k=p\/(rv C).ownBlock=some k) V2 (w3.setCell ⟨p,4+C,none⟩ (.slice TA TN TC)):=(((Upd.of_below hBs (wab _):Upd (λ_=>False) V2 _).mono (λ_ e=>e.elim)).grown hgr2 (λk e=> .inl (.inr e))).setCell (.inl (.inl rfl)) _;have hnb:=qcm hA3 Zd hr2;have hr3:=hr2.upd ((Upd.refl (λk=>k=p) w3).setCell (p:=⟨p,4+C,none⟩) (.inl rfl) (.slice TA TN TC)) (λg hg e=>hnb (e▸hg));have hR3:=hR18.out.put hC4 hblk hu (λk hk=>hk) (by rw[qah hA3]) hr3 (by
        rcases hob2 with e|⟨g2,e,hg2⟩
        ·exact .inl e
        ·exact .inr ⟨g2,e,wap hBs.size hg2⟩)
       have hH3:=waa (show ∃rv,R18 (w3.setCell ⟨p,4+C,none⟩ (.slice TA TN TC)) w.heap.size p s L r hs rv (rfS hs ms (AB.take (i+1))) from⟨_,by
        rw[hts.out,qwi (C:=C) (by rw[key1.out]) (by rw[key2.out];exact hq) (by rw[key1.out];exact wam C)];exact hR3⟩)
       have hrow3:=waa (qde hrowb.out hu (λk hk e=>by
        injection hk with hk;subst hk;rcases e with e|e
        ·exact hpq e.symm
        ·exact hnq e))
       have hB3:=waa (hBrb.out.trans (hu.below (λk e=>by
        rcases e with rfl|e
        ·exact hbp
        ·exact((hrows.out C hC4).lt k e).1) hbV))
       clear hR3 hr3 hnb hu hR18 hrows hrowb hBrb hHb hA3 hA3c hA3f hz3 hq3 hr2 hgr2 hob2;go_wp2_with fail;go_roundg (N - (i+1))
       case measure=>omega
       case rel=>exact⟨i+1,by go_num,wab _,Zo,hH3,hrow3,hB3⟩
    ·have hk1:decide (kd=1)=false:=decide_eq_false hk
     have hk2:(kd==1)=false:=beq_eq_false_iff_ne.2 hk;have hH2:=waa (show ∃rv,R18 W2 w.heap.size p s L r hs rv (rfS hs ms (AB.take (i+1))) from by
      rw[hts.out,qti (λe=>by rw[key1.out] at e;exact hk e.1)];exact hHb.out)
     clear hHb hdb;go_quiet (fail)
     go_wp2_with fail;go_roundg (N - (i+1))
     case measure=>omega
     case rel=>exact⟨i+1,by go_num,wab _,Zo,hH2,hrowb,waa (qad hBrb.out _)⟩
   ·obtain rfl:i=N:=Zo
    have hfin:=waa (show ∃rv,R18 _ w.heap.size p s L r hs rv (newR s L r hs ms s) from by
     obtain⟨rv,h⟩:=hH.out;rw[wa2 (by rw[hN.out];exact wab _),hall.out] at h;exact⟨rv,h⟩)
    clear hH hrow;go_wp2_with fail;go_ret;obtain⟨rv,h⟩:=hfin.out;exact⟨p,rv,rfl,h,hBr.out⟩
end Go.Proofs.YtocncmbeinmiaaaGreat
