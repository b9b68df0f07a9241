/- Parts. No condition. -/
import Derived.Test.YtgjhkafggagniaaGreatJoinV46
import Derived.Test.YtgjhkafggagniaaGreatJoinV47
set_option linter.unusedVariables false
set_option maxRecDepth 100000
set_option maxHeartbeats 8000000
namespace Go.Proofs.YtgjhkafggagniaaGreat
open Go Go.RowKit
theorem qa9{W:World}{g s:Nat}(h:W.heap[g]? =some (.cells (u64V (List.replicate s 0)).toArray 40 (0,0))):Rd W (some ⟨g,0,none⟩) s (u64V (List.replicate s 0)):=by
 refine⟨by simp[u64V],λ_=>⟨_,rfl,λj x hx=>?_⟩⟩;rw[wbg,qab h,wav,wcd];exact hx
theorem LkR.below{w w':World}{p g k:Nat}{l:List Int}(h:LkR w p g k l)(hB:Below w.heap.size w w'):LkR w' p g k l:=h.upd (Upd.of_below hB (wah _):Upd (λ_=>False) _ _) (λe=>e) (λe=>e)
def qc8(W:World)(B wb:Nat)(s L:Nat)(r:Int)(n:Nat)(S:List Nat):Prop:=∃p gs gk m hb tp tg G b0 base b1 b2,Wd W wb (s:Int) (L:Int) r p hb tp/\RegQ W b0 p n 0 gs gk m S S (λ_=>none)/\HpX base hb s L r (frH s,λ_=>[]) G W/\LkR W tp tg 2 [-1,-1]/\
 (∀k,rgF p gs gk m k->B<=k/\k<b1)/\(∀k,G k->b1<=k/\k<b2)/\(b2<=tp/\b2<=tg)/\B<=wb/\B<=b1/\b1<=b2
theorem qyi{s L:Nat}{r:Int}{n:Nat}(w:World)(hm:mayB (s:Int) (L:Int) r=true)(hdim:(1<=s/\s<=16)/\1<=L/\L<=4)(hn:(qbn (s:Int) (L:Int) r).length=n*8)(hn0:0<n/\n<=2048)(hfl:∀x∈qbn (s:Int) (L:Int) r,x<18446744073709551616):
  Calls Tryz.prog 14 #[.agg #[.int .i64 (s:Int),.int .i64 (L:Int),.int .i64 r]] w λe w'=>∃wb,e= .returned (.pointer (some ⟨wb,0,none⟩))/\qc8 w' w.heap.size wb s L r n (qbn (s:Int) (L:Int) r)/\Below w.heap.size w w':=by
 have hfr:=waa (λV=>qn2 (s:Int) (L:Int) r V hm);have hof:=waa (λ(A:Option Addr) (cap:Nat) (V:World) (hR:Rd V A (n*8) (u64V (qbn (s:Int) (L:Int) r)))=>qzp (cap:=cap) hR hn0.1 hn0.2 hfl);have hnw:=waa (λ(g:Nat) (q:Addr) (V:World) (h1:HdsRd V (some ⟨g,0,none⟩) s (frH s)) (h2:Rd V (some q) s (u64V (List.replicate s 0)))=>qva (cap:=s) (mcap:=s) V hm hdim h1 h2);have hlk:=waa (λV=>(show Calls Tryz.prog 36 #[.int .i64 2] V _ from qxz 2 Zo Zo V));rw[hn] at hfr;generalize qbn (s:Int) (L:Int) r=S at hfr hof ⊢;have hmk1:=λV=>qif s Zo V
 have hmk2:=λV=>qjh s Zo V
 have hB0:=(wai w.heap.size w).alloc (wah _) (.cells #[.int .i64 (s:Int),.int .i64 (L:Int),.int .i64 r] 36);obtain⟨c0,c1,c2,-⟩:=(Gi.new w (s:Int) (L:Int) r).cells;obtain⟨W1,hW1⟩:∃W1,w.alloc (.cells #[.int .i64 (s:Int),.int .i64 (L:Int),.int .i64 r] 36)=W1:=⟨_,rfl⟩
 rw[hW1] at hB0 c0 c1 c2;have hs0:w.heap.size<W1.heap.size:=by rw[<-hW1];simp
 have hB:=waa hB0;clear hB0 hn hfl;go_enter Tryz.func14,Tryz.ntmps14;go_upto_region 1 with fail
 try rw[hW1]
 refine wp_region_held_drew (S:=(λU=>U.cell? ⟨w.heap.size,0,none⟩=some (.int .i64 (s:Int))/\U.cell? ⟨w.heap.size,1,none⟩=some (.int .i64 (L:Int))/\U.cell? ⟨w.heap.size,2,none⟩=some (.int .i64 r))) Zk (⟨c0,c1,c2⟩) (λhHeld=>?_);refine wpAnyH_take (i:=0) (v:=?_) rfl Zk Zk Zk (λ_ _ _ h=>h) (Or.inl ⟨by rfl,?_⟩) Za ?_;rotate_left;(·intro u h;(try dsimp only at h);(try simp only[wab,wac]);go_simp;try with_reducible rfl);try simp only[Act.put,waf,wae,wag,wab,wac]
 refine wpAnyH_take (i:=1) (v:=?_) rfl Zk Zk Zk (λ_ _ _ h=>h) (Or.inl ⟨by rfl,?_⟩) Za ?_;rotate_left;(·intro u h;(try dsimp only at h);(try simp only[wab,wac,wad]);go_simp;try with_reducible rfl);try simp only[Act.put,waf,wae,wag,wab,wac,wad]
 refine wpAnyH_take (i:=4) (v:=?_) rfl Zk Zk Zk (λ_ _ _ h=>h) (Or.inl ⟨by rfl,?_⟩) Za ?_;rotate_left;(·intro u h;(try dsimp only at h);(try simp only[wab,wac,wad]);go_simp;try with_reducible rfl);try simp only[Act.put,waf,wae,wag,wab,wac,wad]
 refine wpAnyH_take (i:=5) (v:=?_) rfl Zk Zk Zk (λ_ _ _ h=>h) (Or.inl ⟨by rfl,?_⟩) Za ?_;rotate_left;(·intro u h;(try dsimp only at h);(try simp only[wab,wac,wad]);go_simp;try with_reducible rfl);try simp only[Act.put,waf,wae,wag,wab,wac,wad]
 refine wpAnyH_take (i:=6) (v:=?_) rfl Zk Zk Zk (λ_ _ _ h=>h) (Or.inl ⟨by rfl,?_⟩) Za ?_;rotate_left;(·intro u h;(try dsimp only at h);(try simp only[wab,wac,wad]);go_simp;try with_reducible rfl);try simp only[Act.put,waf,wae,wag,wab,wac,wad]
 refine wpAnyH_take (i:=8) (v:=?_) rfl Zk Zk Zk (λ_ _ _ h=>h) (Or.inl ⟨by rfl,?_⟩) Za ?_;rotate_left;(·intro u h;(try dsimp only at h);(try simp only[wab,wac,wad]);go_simp;try with_reducible rfl);try simp only[Act.put,waf,wae,wag,wab,wac,wad]
 refine wpAnyH_take (i:=9) (v:=?_) rfl Zk Zk Zk (λ_ _ _ h=>h) (Or.inl ⟨by rfl,?_⟩) Za ?_;rotate_left;(·intro u h;(try dsimp only at h);(try simp only[wab,wac,wad]);go_simp;try with_reducible rfl);try simp only[Act.put,waf,wae,wag,wab,wac,wad]
 refine wpAnyH_ready (rs:=[2,7,10]) Zk Zs ?_;refine AllReadyH.cons rfl (λK hK=>?_) (AllReadyH.cons rfl (λK hK=>?_) (AllReadyH.cons rfl (λK hK=>?_) AllReadyH.nil))
 ·(try simp only[wab,wac,wad])
  go_simp
  refine(hfr.out _).mono ?_;rintro e V1 ⟨vF,rfl,hrow,hBn⟩;obtain⟨AF,cF,rfl,hRd⟩:=Rd.of_own hrow;replace hBn:=(wai W1.heap.size W1).drew.trans hBn;replace c0:=qaa hBn c0;replace c1:=qaa hBn c1;replace c2:=qaa hBn c2;replace hB:=waa (hB.out.trans (hBn.mono hB.out.size));have hs1:=wak hs0 hBn.size;have hz0:=hBn.size;replace hRd:=waa hRd;clear hrow hBn;go_wp2_with fail;refine hK.out _ _ (⟨c0,c1,c2⟩) (λhHeld2=>?_);clear hK K hHeld;have hHeld:=hHeld2;clear hHeld2;try simp only[Act.put,waf,wae,wag,wab,wac,wad]
  refine wpAnyH_ready (rs:=[3,7,10]) Zk Zs ?_;refine AllReadyH.cons rfl (λK hK=>?_) (AllReadyH.cons rfl (λK hK=>?_) (AllReadyH.cons rfl (λK hK=>?_) AllReadyH.nil))
  ·(try simp only[wab,wac,wad])
   go_simp
   refine(hof.out AF cF _ hRd.out).mono ?_;rintro e V2 ⟨p,rfl,hreg,hBn⟩;obtain⟨gs,gk,m,hq⟩:=hreg.q;have hql:=hq.lts;replace c0:=qaa hBn c0;replace c1:=qaa hBn c1;replace c2:=qaa hBn c2;replace hB:=waa (hB.out.trans (hBn.mono hB.out.size));have hs2:=wak hs1 hBn.size;have hz1:=hBn.size;replace hRd:=waa (hRd.out.below hBn);have hqb:∀k,rgF p gs gk m k->V1.heap.size<=k/\k<V2.heap.size:=by
    rintro k (e|e|e|e)<;>omega
   replace hq:=waa hq;clear hreg hBn hql hRd;go_wp2_with fail;refine hK.out _ _ (⟨c0,c1,c2⟩) (λhHeld2=>?_);clear hK K hHeld;have hHeld:=hHeld2;clear hHeld2;try simp only[Act.put,waf,wae,wag,wab,wac,wad]
   refine wpAnyH_ready (rs:=[7,10]) Zk Zs ?_;refine AllReadyH.cons rfl (λK hK=>?_) (AllReadyH.cons rfl (λK hK=>?_) AllReadyH.nil)
   ·(try simp only[wab,wac,wad])
    go_simp
    try simp only[hmk1]
    try simp only[wau]
    have hBn:=((wai V2.heap.size V2).alloc (wah _) (.cells (hV (List.replicate s (0,0,0))).toArray 134))
    have hMh:(V2.alloc (.cells (hV (List.replicate s (0,0,0))).toArray 134)).heap[V2.heap.size]? =some (.cells (hV (List.replicate s (0,0,0))).toArray 134 (0,0)):=heap_alloc_new V2 _;obtain⟨V3,hV3⟩:∃V,(V2.alloc (.cells (hV (List.replicate s (0,0,0))).toArray 134))=V:=⟨_,rfl⟩
    rw[hV3] at hBn hMh;try rw[hV3]
    replace c0:=qaa hBn c0;replace c1:=qaa hBn c1;replace c2:=qaa hBn c2;replace hB:=waa (hB.out.trans (hBn.mono hB.out.size));have hs3:=wak hs2 hBn.size;have hz2:=hBn.size;replace hq:=waa (hq.out.upd (Upd.of_below hBn (wah _):Upd (λ_=>False) _ _) (λ_ _ e=>e));obtain⟨hMhB,hhMhB⟩:∃b,V2.heap.size=b:=⟨_,rfl⟩
    rw[hhMhB] at hMh;try rw[hhMhB]
    replace hMh:=waa hMh;clear hBn;refine hK.out _ _ (⟨c0,c1,c2⟩) (λhHeld2=>?_);clear hK K hHeld;have hHeld:=hHeld2;clear hHeld2;try simp only[Act.put,waf,wae,wag,wab,wac,wad]
    refine wpAnyH_ready (rs:=[10]) Zk Zs ?_;refine AllReadyH.cons rfl (λK hK=>?_) AllReadyH.nil
    (try simp only[wab,wac,wad])
    go_simp
    try simp only[hmk2]
    try simp only[wau]
    have hBn:=((wai V3.heap.size V3).alloc (wah _) (.cells (u64V (List.replicate s 0)).toArray 40))
    have hMw:(V3.alloc (.cells (u64V (List.replicate s 0)).toArray 40)).heap[V3.heap.size]? =some (.cells (u64V (List.replicate s 0)).toArray 40 (0,0)):=heap_alloc_new V3 _;obtain⟨V4,hV4⟩:∃V,(V3.alloc (.cells (u64V (List.replicate s 0)).toArray 40))=V:=⟨_,rfl⟩
    rw[hV4] at hBn hMw;try rw[hV4]
    replace c0:=qaa hBn c0;replace c1:=qaa hBn c1;replace c2:=qaa hBn c2;replace hB:=waa (hB.out.trans (hBn.mono hB.out.size));have hs4:=wak hs3 hBn.size;have hz3:=hBn.size;replace hMh:=waa ((hBn.block _ (waj.1 hMh.out).1).trans hMh.out);replace hq:=waa (hq.out.upd (Upd.of_below hBn (wah _):Upd (λ_=>False) _ _) (λ_ _ e=>e));obtain⟨hMwB,hhMwB⟩:∃b,V3.heap.size=b:=⟨_,rfl⟩
    rw[hhMwB] at hMw;try rw[hhMwB]
    replace hMw:=waa hMw;clear hBn;refine hK.out _ _ (⟨c0,c1,c2⟩) (λhHeld2=>?_);clear hK K hHeld;have hHeld:=hHeld2;clear hHeld2;try simp only[Act.put,waf,wae,wag,wab,wac,wad]
    refine wpAnyH_ready (rs:=[11]) Zk Zs ?_;refine AllReadyH.cons rfl (λK hK=>?_) AllReadyH.nil
    (try simp only[wab,wac,wad])
    go_simp
    have hHd:HdsRd V4 (some ⟨hMhB,0,none⟩) s (frH s):=by have:=HdsRd.of_blk hMh.out;rwa [wa0] at this
    refine(hnw.out hMhB ⟨hMwB,0,none⟩ _ hHd (qa9 hMw.out)).mono ?_;rintro e V5 ⟨hb,FG,rfl,hHp,hFG,hBn⟩;obtain⟨G,hG,hGF⟩:=HpX.of hHp;replace c0:=qaa hBn c0;replace c1:=qaa hBn c1;replace c2:=qaa hBn c2;replace hB:=waa (hB.out.trans (hBn.mono hB.out.size));have hs5:=wak hs4 hBn.size;have hz4:=hBn.size;replace hMh:=waa ((hBn.block _ (waj.1 hMh.out).1).trans hMh.out);replace hMw:=waa ((hBn.block _ (waj.1 hMw.out).1).trans hMw.out);replace hq:=waa (hq.out.upd (Upd.of_below hBn (wah _):Upd (λ_=>False) _ _) (λ_ _ e=>e));have hGb:∀k,G k->V4.heap.size<=k/\k<V5.heap.size:=λk hk=>⟨hFG k (hGF k hk),hG.lt hk⟩
    replace hG:=waa hG;clear hHp hFG hGF hBn hHd;go_wp2_with fail;refine hK.out _ _ (⟨c0,c1,c2⟩) (λhHeld2=>?_);clear hK K hHeld;have hHeld:=hHeld2;clear hHeld2;try simp only[Act.put,waf,wae,wag,wab,wac,wad]
    refine wpAnyH_ready (rs:=[12]) Zk Zs ?_;refine AllReadyH.cons rfl (λK hK=>?_) AllReadyH.nil
    (try simp only[wab,wac,wad])
    go_simp
    refine(hlk.out _).mono ?_;rintro e V6 ⟨⟨tp,tg,rfl,htp,htg,hT⟩,hBn⟩;replace c0:=qaa hBn c0;replace c1:=qaa hBn c1;replace c2:=qaa hBn c2;replace hB:=waa (hB.out.trans (hBn.mono hB.out.size));have hs6:=wak hs5 hBn.size;have hz5:=hBn.size;replace hq:=waa (hq.out.upd (Upd.of_below hBn (wah _):Upd (λ_=>False) _ _) (λ_ _ e=>e));replace hG:=waa (hG.out.upd (Upd.of_below hBn (wah _):Upd (λ_=>False) _ _) (λ_ _ e=>e));replace hT:=waa hT;clear hBn;go_wp2_with fail;refine hK.out _ _ (⟨c0,c1,c2⟩) (λhHeld2=>?_);clear hK K hHeld;have hHeld:=hHeld2;clear hHeld2;try simp only[Act.put,waf,wae,wag,wab,wac,wad]
    refine wpAnyH_take (i:=13) (v:=?_) rfl Zk Zk Zk (λ_ _ _ h=>h) (Or.inl ⟨by rfl,?_⟩) Za ?_;rotate_left;(·intro u h;(try dsimp only at h);(try simp only[wab,wac,wad]);go_simp;try with_reducible rfl);try simp only[Act.put,waf,wae,wag,wab,wac,wad]
    refine wpAnyH_ready (rs:=[14]) Zk Zs ?_;refine AllReadyH.cons rfl (λK hK=>?_) AllReadyH.nil
    (try simp only[wab,wac,wad])
    go_simp
    have hBn:=(wai V6.heap.size V6).alloc (wah _) (.cells #[.int .i64 (s:Int),.int .i64 (L:Int),.int .i64 r,.pointer (some ⟨p,0,none⟩),.pointer (some ⟨hb,0,none⟩),.pointer (some ⟨tp,0,none⟩)] 57);have hwd:Wd (V6.alloc (.cells #[.int .i64 (s:Int),.int .i64 (L:Int),.int .i64 r,.pointer (some ⟨p,0,none⟩),.pointer (some ⟨hb,0,none⟩),.pointer (some ⟨tp,0,none⟩)] 57)) V6.heap.size (s:Int) (L:Int) r p hb tp:=heap_alloc_new V6 _;have hTT:LkR (V6.alloc (.cells #[.int .i64 (s:Int),.int .i64 (L:Int),.int .i64 r,.pointer (some ⟨p,0,none⟩),.pointer (some ⟨hb,0,none⟩),.pointer (some ⟨tp,0,none⟩)] 57)) tp tg 2 [-1,-1]:=hT.out.below hBn;replace c0:=qaa hBn c0;replace c1:=qaa hBn c1;replace c2:=qaa hBn c2;replace hB:=waa (hB.out.trans (hBn.mono hB.out.size));have hs7:=wak hs6 hBn.size;have hz6:=hBn.size;replace hq:=waa (hq.out.upd (Upd.of_below hBn (wah _):Upd (λ_=>False) _ _) (λ_ _ e=>e));replace hG:=waa (hG.out.upd (Upd.of_below hBn (wah _):Upd (λ_=>False) _ _) (λ_ _ e=>e));have hfin:=waa (show qc8 (V6.alloc (.cells #[.int .i64 (s:Int),.int .i64 (L:Int),.int .i64 r,.pointer (some ⟨p,0,none⟩),.pointer (some ⟨hb,0,none⟩),.pointer (some ⟨tp,0,none⟩)] 57)) w.heap.size V6.heap.size s L r n S from⟨p,gs,gk,m,hb,tp,tg,G,_,_,V2.heap.size,V5.heap.size,hwd,hq.out,hG.out,hTT,λk hk=>by have:=hqb k hk;omega,λk hk=>by have:=hGb k hk;omega,⟨Zo,Zo⟩,Zo,Zo,Zo⟩);clear hBn hwd hTT;refine hK.out _ _ (⟨c0,c1,c2⟩) (λhHeld2=>?_);clear hK K hHeld;have hHeld:=hHeld2;clear hHeld2;try simp only[Act.put,waf,wae,wag,wab,wac,wad]
    refine wpAnyH_take (i:=15) (v:=?_) rfl Zk Zk Zk (λ_ _ _ h=>h) (Or.inl ⟨by rfl,?_⟩) Za ?_;rotate_left;(·intro u h;(try dsimp only at h);(try simp only[wab,wac,wad]);go_simp;try with_reducible rfl);try simp only[Act.put,waf,wae,wag,wab,wac,wad]
    refine wpAnyH_done Zk ?_ _;clear hHeld;go_wp2_with fail;go_ret;exact⟨_,rfl,hfin.out,hB.out⟩
   ·(try simp only[wab,wac,wad])
    go_simp
    try simp only[hmk2]
    try simp only[wau]
    have hBn:=((wai V2.heap.size V2).alloc (wah _) (.cells (u64V (List.replicate s 0)).toArray 40))
    have hMw:(V2.alloc (.cells (u64V (List.replicate s 0)).toArray 40)).heap[V2.heap.size]? =some (.cells (u64V (List.replicate s 0)).toArray 40 (0,0)):=heap_alloc_new V2 _;obtain⟨V3,hV3⟩:∃V,(V2.alloc (.cells (u64V (List.replicate s 0)).toArray 40))=V:=⟨_,rfl⟩
    rw[hV3] at hBn hMw;try rw[hV3]
    replace c0:=qaa hBn c0;replace c1:=qaa hBn c1;replace c2:=qaa hBn c2;replace hB:=waa (hB.out.trans (hBn.mono hB.out.size));have hs3:=wak hs2 hBn.size;have hz2:=hBn.size;replace hq:=waa (hq.out.upd (Upd.of_below hBn (wah _):Upd (λ_=>False) _ _) (λ_ _ e=>e));obtain⟨hMwB,hhMwB⟩:∃b,V2.heap.size=b:=⟨_,rfl⟩
    rw[hhMwB] at hMw;try rw[hhMwB]
    replace hMw:=waa hMw;clear hBn;refine hK.out _ _ (⟨c0,c1,c2⟩) (λhHeld2=>?_);clear hK K hHeld;have hHeld:=hHeld2;clear hHeld2;try simp only[Act.put,waf,wae,wag,wab,wac,wad]
    refine wpAnyH_ready (rs:=[7]) Zk Zs ?_;refine AllReadyH.cons rfl (λK hK=>?_) AllReadyH.nil
    (try simp only[wab,wac,wad])
    go_simp
    try simp only[hmk1]
    try simp only[wau]
    have hBn:=((wai V3.heap.size V3).alloc (wah _) (.cells (hV (List.replicate s (0,0,0))).toArray 134))
    have hMh:(V3.alloc (.cells (hV (List.replicate s (0,0,0))).toArray 134)).heap[V3.heap.size]? =some (.cells (hV (List.replicate s (0,0,0))).toArray 134 (0,0)):=heap_alloc_new V3 _;obtain⟨V4,hV4⟩:∃V,(V3.alloc (.cells (hV (List.replicate s (0,0,0))).toArray 134))=V:=⟨_,rfl⟩
    rw[hV4] at hBn hMh;try rw[hV4]
    replace c0:=qaa hBn c0;replace c1:=qaa hBn c1;replace c2:=qaa hBn c2;replace hB:=waa (hB.out.trans (hBn.mono hB.out.size));have hs4:=wak hs3 hBn.size;have hz3:=hBn.size;replace hMw:=waa ((hBn.block _ (waj.1 hMw.out).1).trans hMw.out);replace hq:=waa (hq.out.upd (Upd.of_below hBn (wah _):Upd (λ_=>False) _ _) (λ_ _ e=>e));obtain⟨hMhB,hhMhB⟩:∃b,V3.heap.size=b:=⟨_,rfl⟩
    rw[hhMhB] at hMh;try rw[hhMhB]
    replace hMh:=waa hMh;clear hBn;refine hK.out _ _ (⟨c0,c1,c2⟩) (λhHeld2=>?_);clear hK K hHeld;have hHeld:=hHeld2;clear hHeld2;try simp only[Act.put,waf,wae,wag,wab,wac,wad]
    refine wpAnyH_ready (rs:=[11]) Zk Zs ?_;refine AllReadyH.cons rfl (λK hK=>?_) AllReadyH.nil
    (try simp only[wab,wac,wad])
    go_simp
    have hHd:HdsRd V4 (some ⟨hMhB,0,none⟩) s (frH s):=by have:=HdsRd.of_blk hMh.out;rwa [wa0] at this
    refine(hnw.out hMhB ⟨hMwB,0,none⟩ _ hHd (qa9 hMw.out)).mono ?_;rintro e V5 ⟨hb,FG,rfl,hHp,hFG,hBn⟩;obtain⟨G,hG,hGF⟩:=HpX.of hHp;replace c0:=qaa hBn c0;replace c1:=qaa hBn c1;replace c2:=qaa hBn c2;replace hB:=waa (hB.out.trans (hBn.mono hB.out.size));have hs5:=wak hs4 hBn.size;have hz4:=hBn.size;replace hMh:=waa ((hBn.block _ (waj.1 hMh.out).1).trans hMh.out);replace hMw:=waa ((hBn.block _ (waj.1 hMw.out).1).trans hMw.out);replace hq:=waa (hq.out.upd (Upd.of_below hBn (wah _):Upd (λ_=>False) _ _) (λ_ _ e=>e));have hGb:∀k,G k->V4.heap.size<=k/\k<V5.heap.size:=λk hk=>⟨hFG k (hGF k hk),hG.lt hk⟩
    replace hG:=waa hG;clear hHp hFG hGF hBn hHd;go_wp2_with fail;refine hK.out _ _ (⟨c0,c1,c2⟩) (λhHeld2=>?_);clear hK K hHeld;have hHeld:=hHeld2;clear hHeld2;try simp only[Act.put,waf,wae,wag,wab,wac,wad]
    refine wpAnyH_ready (rs:=[12]) Zk Zs ?_;refine AllReadyH.cons rfl (λK hK=>?_) AllReadyH.nil
    (try simp only[wab,wac,wad])
    go_simp
    refine(hlk.out _).mono ?_;rintro e V6 ⟨⟨tp,tg,rfl,htp,htg,hT⟩,hBn⟩;replace c0:=qaa hBn c0;replace c1:=qaa hBn c1;replace c2:=qaa hBn c2;replace hB:=waa (hB.out.trans (hBn.mono hB.out.size));have hs6:=wak hs5 hBn.size;have hz5:=hBn.size;replace hq:=waa (hq.out.upd (Upd.of_below hBn (wah _):Upd (λ_=>False) _ _) (λ_ _ e=>e));replace hG:=waa (hG.out.upd (Upd.of_below hBn (wah _):Upd (λ_=>False) _ _) (λ_ _ e=>e));replace hT:=waa hT;clear hBn;go_wp2_with fail;refine hK.out _ _ (⟨c0,c1,c2⟩) (λhHeld2=>?_);clear hK K hHeld;have hHeld:=hHeld2;clear hHeld2;try simp only[Act.put,waf,wae,wag,wab,wac,wad]
    refine wpAnyH_take (i:=13) (v:=?_) rfl Zk Zk Zk (λ_ _ _ h=>h) (Or.inl ⟨by rfl,?_⟩) Za ?_;rotate_left;(·intro u h;(try dsimp only at h);(try simp only[wab,wac,wad]);go_simp;try with_reducible rfl);try simp only[Act.put,waf,wae,wag,wab,wac,wad]
    refine wpAnyH_ready (rs:=[14]) Zk Zs ?_;refine AllReadyH.cons rfl (λK hK=>?_) AllReadyH.nil
    (try simp only[wab,wac,wad])
    go_simp
    have hBn:=(wai V6.heap.size V6).alloc (wah _) (.cells #[.int .i64 (s:Int),.int .i64 (L:Int),.int .i64 r,.pointer (some ⟨p,0,none⟩),.pointer (some ⟨hb,0,none⟩),.pointer (some ⟨tp,0,none⟩)] 57);have hwd:Wd (V6.alloc (.cells #[.int .i64 (s:Int),.int .i64 (L:Int),.int .i64 r,.pointer (some ⟨p,0,none⟩),.pointer (some ⟨hb,0,none⟩),.pointer (some ⟨tp,0,none⟩)] 57)) V6.heap.size (s:Int) (L:Int) r p hb tp:=heap_alloc_new V6 _;have hTT:LkR (V6.alloc (.cells #[.int .i64 (s:Int),.int .i64 (L:Int),.int .i64 r,.pointer (some ⟨p,0,none⟩),.pointer (some ⟨hb,0,none⟩),.pointer (some ⟨tp,0,none⟩)] 57)) tp tg 2 [-1,-1]:=hT.out.below hBn;replace c0:=qaa hBn c0;replace c1:=qaa hBn c1;replace c2:=qaa hBn c2;replace hB:=waa (hB.out.trans (hBn.mono hB.out.size));have hs7:=wak hs6 hBn.size;have hz6:=hBn.size;replace hq:=waa (hq.out.upd (Upd.of_below hBn (wah _):Upd (λ_=>False) _ _) (λ_ _ e=>e));replace hG:=waa (hG.out.upd (Upd.of_below hBn (wah _):Upd (λ_=>False) _ _) (λ_ _ e=>e));have hfin:=waa (show qc8 (V6.alloc (.cells #[.int .i64 (s:Int),.int .i64 (L:Int),.int .i64 r,.pointer (some ⟨p,0,none⟩),.pointer (some ⟨hb,0,none⟩),.pointer (some ⟨tp,0,none⟩)] 57)) w.heap.size V6.heap.size s L r n S from⟨p,gs,gk,m,hb,tp,tg,G,_,_,V2.heap.size,V5.heap.size,hwd,hq.out,hG.out,hTT,λk hk=>by have:=hqb k hk;omega,λk hk=>by have:=hGb k hk;omega,⟨Zo,Zo⟩,Zo,Zo,Zo⟩);clear hBn hwd hTT;refine hK.out _ _ (⟨c0,c1,c2⟩) (λhHeld2=>?_);clear hK K hHeld;have hHeld:=hHeld2;clear hHeld2;try simp only[Act.put,waf,wae,wag,wab,wac,wad]
    refine wpAnyH_take (i:=15) (v:=?_) rfl Zk Zk Zk (λ_ _ _ h=>h) (Or.inl ⟨by rfl,?_⟩) Za ?_;rotate_left;(·intro u h;(try dsimp only at h);(try simp only[wab,wac,wad]);go_simp;try with_reducible rfl);try simp only[Act.put,waf,wae,wag,wab,wac,wad]
    refine wpAnyH_done Zk ?_ _;clear hHeld;go_wp2_with fail;go_ret;exact⟨_,rfl,hfin.out,hB.out⟩
  ·(try simp only[wab,wac,wad])
   go_simp
   try simp only[hmk1]
   try simp only[wau]
   have hBn:=((wai V1.heap.size V1).alloc (wah _) (.cells (hV (List.replicate s (0,0,0))).toArray 134))
   have hMh:(V1.alloc (.cells (hV (List.replicate s (0,0,0))).toArray 134)).heap[V1.heap.size]? =some (.cells (hV (List.replicate s (0,0,0))).toArray 134 (0,0)):=heap_alloc_new V1 _;obtain⟨V2,hV2⟩:∃V,(V1.alloc (.cells (hV (List.replicate s (0,0,0))).toArray 134))=V:=⟨_,rfl⟩
   rw[hV2] at hBn hMh;try rw[hV2]
   replace c0:=qaa hBn c0;replace c1:=qaa hBn c1;replace c2:=qaa hBn c2;replace hB:=waa (hB.out.trans (hBn.mono hB.out.size));have hs2:=wak hs1 hBn.size;have hz1:=hBn.size;replace hRd:=waa (hRd.out.below hBn);obtain⟨hMhB,hhMhB⟩:∃b,V1.heap.size=b:=⟨_,rfl⟩
   rw[hhMhB] at hMh;try rw[hhMhB]
   replace hMh:=waa hMh;clear hBn;refine hK.out _ _ (⟨c0,c1,c2⟩) (λhHeld2=>?_);clear hK K hHeld;have hHeld:=hHeld2;clear hHeld2;try simp only[Act.put,waf,wae,wag,wab,wac,wad]
   refine wpAnyH_ready (rs:=[3,10]) Zk Zs ?_;refine AllReadyH.cons rfl (λK hK=>?_) (AllReadyH.cons rfl (λK hK=>?_) AllReadyH.nil)
   ·(try simp only[wab,wac,wad])
    go_simp
    refine(hof.out AF cF _ hRd.out).mono ?_;rintro e V3 ⟨p,rfl,hreg,hBn⟩;obtain⟨gs,gk,m,hq⟩:=hreg.q;have hql:=hq.lts;replace c0:=qaa hBn c0;replace c1:=qaa hBn c1;replace c2:=qaa hBn c2;replace hB:=waa (hB.out.trans (hBn.mono hB.out.size));have hs3:=wak hs2 hBn.size;have hz2:=hBn.size;replace hRd:=waa (hRd.out.below hBn);replace hMh:=waa ((hBn.block _ (waj.1 hMh.out).1).trans hMh.out);have hqb:∀k,rgF p gs gk m k->V2.heap.size<=k/\k<V3.heap.size:=by
     rintro k (e|e|e|e)<;>omega
    replace hq:=waa hq;clear hreg hBn hql hRd;go_wp2_with fail;refine hK.out _ _ (⟨c0,c1,c2⟩) (λhHeld2=>?_);clear hK K hHeld;have hHeld:=hHeld2;clear hHeld2;try simp only[Act.put,waf,wae,wag,wab,wac,wad]
    refine wpAnyH_ready (rs:=[10]) Zk Zs ?_;refine AllReadyH.cons rfl (λK hK=>?_) AllReadyH.nil
    (try simp only[wab,wac,wad])
    go_simp
    try simp only[hmk2]
    try simp only[wau]
    have hBn:=((wai V3.heap.size V3).alloc (wah _) (.cells (u64V (List.replicate s 0)).toArray 40))
    have hMw:(V3.alloc (.cells (u64V (List.replicate s 0)).toArray 40)).heap[V3.heap.size]? =some (.cells (u64V (List.replicate s 0)).toArray 40 (0,0)):=heap_alloc_new V3 _;obtain⟨V4,hV4⟩:∃V,(V3.alloc (.cells (u64V (List.replicate s 0)).toArray 40))=V:=⟨_,rfl⟩
    rw[hV4] at hBn hMw;try rw[hV4]
    replace c0:=qaa hBn c0;replace c1:=qaa hBn c1;replace c2:=qaa hBn c2;replace hB:=waa (hB.out.trans (hBn.mono hB.out.size));have hs4:=wak hs3 hBn.size;have hz3:=hBn.size;replace hMh:=waa ((hBn.block _ (waj.1 hMh.out).1).trans hMh.out);replace hq:=waa (hq.out.upd (Upd.of_below hBn (wah _):Upd (λ_=>False) _ _) (λ_ _ e=>e));obtain⟨hMwB,hhMwB⟩:∃b,V3.heap.size=b:=⟨_,rfl⟩
    rw[hhMwB] at hMw;try rw[hhMwB]
    replace hMw:=waa hMw;clear hBn;refine hK.out _ _ (⟨c0,c1,c2⟩) (λhHeld2=>?_);clear hK K hHeld;have hHeld:=hHeld2;clear hHeld2;try simp only[Act.put,waf,wae,wag,wab,wac,wad]
    refine wpAnyH_ready (rs:=[11]) Zk Zs ?_;refine AllReadyH.cons rfl (λK hK=>?_) AllReadyH.nil
    (try simp only[wab,wac,wad])
    go_simp
    have hHd:HdsRd V4 (some ⟨hMhB,0,none⟩) s (frH s):=by have:=HdsRd.of_blk hMh.out;rwa [wa0] at this
    refine(hnw.out hMhB ⟨hMwB,0,none⟩ _ hHd (qa9 hMw.out)).mono ?_;rintro e V5 ⟨hb,FG,rfl,hHp,hFG,hBn⟩;obtain⟨G,hG,hGF⟩:=HpX.of hHp;replace c0:=qaa hBn c0;replace c1:=qaa hBn c1;replace c2:=qaa hBn c2;replace hB:=waa (hB.out.trans (hBn.mono hB.out.size));have hs5:=wak hs4 hBn.size;have hz4:=hBn.size;replace hMh:=waa ((hBn.block _ (waj.1 hMh.out).1).trans hMh.out);replace hMw:=waa ((hBn.block _ (waj.1 hMw.out).1).trans hMw.out);replace hq:=waa (hq.out.upd (Upd.of_below hBn (wah _):Upd (λ_=>False) _ _) (λ_ _ e=>e));have hGb:∀k,G k->V4.heap.size<=k/\k<V5.heap.size:=λk hk=>⟨hFG k (hGF k hk),hG.lt hk⟩
    replace hG:=waa hG;clear hHp hFG hGF hBn hHd;go_wp2_with fail;refine hK.out _ _ (⟨c0,c1,c2⟩) (λhHeld2=>?_);clear hK K hHeld;have hHeld:=hHeld2;clear hHeld2;try simp only[Act.put,waf,wae,wag,wab,wac,wad]
    refine wpAnyH_ready (rs:=[12]) Zk Zs ?_;refine AllReadyH.cons rfl (λK hK=>?_) AllReadyH.nil
    (try simp only[wab,wac,wad])
    go_simp
    refine(hlk.out _).mono ?_;rintro e V6 ⟨⟨tp,tg,rfl,htp,htg,hT⟩,hBn⟩;replace c0:=qaa hBn c0;replace c1:=qaa hBn c1;replace c2:=qaa hBn c2;replace hB:=waa (hB.out.trans (hBn.mono hB.out.size));have hs6:=wak hs5 hBn.size;have hz5:=hBn.size;replace hq:=waa (hq.out.upd (Upd.of_below hBn (wah _):Upd (λ_=>False) _ _) (λ_ _ e=>e));replace hG:=waa (hG.out.upd (Upd.of_below hBn (wah _):Upd (λ_=>False) _ _) (λ_ _ e=>e));replace hT:=waa hT;clear hBn;go_wp2_with fail;refine hK.out _ _ (⟨c0,c1,c2⟩) (λhHeld2=>?_);clear hK K hHeld;have hHeld:=hHeld2;clear hHeld2;try simp only[Act.put,waf,wae,wag,wab,wac,wad]
    refine wpAnyH_take (i:=13) (v:=?_) rfl Zk Zk Zk (λ_ _ _ h=>h) (Or.inl ⟨by rfl,?_⟩) Za ?_;rotate_left;(·intro u h;(try dsimp only at h);(try simp only[wab,wac,wad]);go_simp;try with_reducible rfl);try simp only[Act.put,waf,wae,wag,wab,wac,wad]
    refine wpAnyH_ready (rs:=[14]) Zk Zs ?_;refine AllReadyH.cons rfl (λK hK=>?_) AllReadyH.nil
    (try simp only[wab,wac,wad])
    go_simp
    have hBn:=(wai V6.heap.size V6).alloc (wah _) (.cells #[.int .i64 (s:Int),.int .i64 (L:Int),.int .i64 r,.pointer (some ⟨p,0,none⟩),.pointer (some ⟨hb,0,none⟩),.pointer (some ⟨tp,0,none⟩)] 57);have hwd:Wd (V6.alloc (.cells #[.int .i64 (s:Int),.int .i64 (L:Int),.int .i64 r,.pointer (some ⟨p,0,none⟩),.pointer (some ⟨hb,0,none⟩),.pointer (some ⟨tp,0,none⟩)] 57)) V6.heap.size (s:Int) (L:Int) r p hb tp:=heap_alloc_new V6 _;have hTT:LkR (V6.alloc (.cells #[.int .i64 (s:Int),.int .i64 (L:Int),.int .i64 r,.pointer (some ⟨p,0,none⟩),.pointer (some ⟨hb,0,none⟩),.pointer (some ⟨tp,0,none⟩)] 57)) tp tg 2 [-1,-1]:=hT.out.below hBn;replace c0:=qaa hBn c0;replace c1:=qaa hBn c1;replace c2:=qaa hBn c2;replace hB:=waa (hB.out.trans (hBn.mono hB.out.size));have hs7:=wak hs6 hBn.size;have hz6:=hBn.size;replace hq:=waa (hq.out.upd (Upd.of_below hBn (wah _):Upd (λ_=>False) _ _) (λ_ _ e=>e));replace hG:=waa (hG.out.upd (Upd.of_below hBn (wah _):Upd (λ_=>False) _ _) (λ_ _ e=>e));have hfin:=waa (show qc8 (V6.alloc (.cells #[.int .i64 (s:Int),.int .i64 (L:Int),.int .i64 r,.pointer (some ⟨p,0,none⟩),.pointer (some ⟨hb,0,none⟩),.pointer (some ⟨tp,0,none⟩)] 57)) w.heap.size V6.heap.size s L r n S from⟨p,gs,gk,m,hb,tp,tg,G,_,_,V3.heap.size,V5.heap.size,hwd,hq.out,hG.out,hTT,λk hk=>by have:=hqb k hk;omega,λk hk=>by have:=hGb k hk;omega,⟨Zo,Zo⟩,Zo,Zo,Zo⟩);clear hBn hwd hTT;refine hK.out _ _ (⟨c0,c1,c2⟩) (λhHeld2=>?_);clear hK K hHeld;have hHeld:=hHeld2;clear hHeld2;try simp only[Act.put,waf,wae,wag,wab,wac,wad]
    refine wpAnyH_take (i:=15) (v:=?_) rfl Zk Zk Zk (λ_ _ _ h=>h) (Or.inl ⟨by rfl,?_⟩) Za ?_;rotate_left;(·intro u h;(try dsimp only at h);(try simp only[wab,wac,wad]);go_simp;try with_reducible rfl);try simp only[Act.put,waf,wae,wag,wab,wac,wad]
    refine wpAnyH_done Zk ?_ _;clear hHeld;go_wp2_with fail;go_ret;exact⟨_,rfl,hfin.out,hB.out⟩
   ·(try simp only[wab,wac,wad])
    go_simp
    try simp only[hmk2]
    try simp only[wau]
    have hBn:=((wai V2.heap.size V2).alloc (wah _) (.cells (u64V (List.replicate s 0)).toArray 40))
    have hMw:(V2.alloc (.cells (u64V (List.replicate s 0)).toArray 40)).heap[V2.heap.size]? =some (.cells (u64V (List.replicate s 0)).toArray 40 (0,0)):=heap_alloc_new V2 _;obtain⟨V3,hV3⟩:∃V,(V2.alloc (.cells (u64V (List.replicate s 0)).toArray 40))=V:=⟨_,rfl⟩
    rw[hV3] at hBn hMw;try rw[hV3]
    replace c0:=qaa hBn c0;replace c1:=qaa hBn c1;replace c2:=qaa hBn c2;replace hB:=waa (hB.out.trans (hBn.mono hB.out.size));have hs3:=wak hs2 hBn.size;have hz2:=hBn.size;replace hRd:=waa (hRd.out.below hBn);replace hMh:=waa ((hBn.block _ (waj.1 hMh.out).1).trans hMh.out);obtain⟨hMwB,hhMwB⟩:∃b,V2.heap.size=b:=⟨_,rfl⟩
    rw[hhMwB] at hMw;try rw[hhMwB]
    replace hMw:=waa hMw;clear hBn;refine hK.out _ _ (⟨c0,c1,c2⟩) (λhHeld2=>?_);clear hK K hHeld;have hHeld:=hHeld2;clear hHeld2;try simp only[Act.put,waf,wae,wag,wab,wac,wad]
    refine wpAnyH_ready (rs:=[3]) Zk Zs ?_;refine AllReadyH.cons rfl (λK hK=>?_) AllReadyH.nil
    (try simp only[wab,wac,wad])
    go_simp
    refine(hof.out AF cF _ hRd.out).mono ?_;rintro e V4 ⟨p,rfl,hreg,hBn⟩;obtain⟨gs,gk,m,hq⟩:=hreg.q;have hql:=hq.lts;replace c0:=qaa hBn c0;replace c1:=qaa hBn c1;replace c2:=qaa hBn c2;replace hB:=waa (hB.out.trans (hBn.mono hB.out.size));have hs4:=wak hs3 hBn.size;have hz3:=hBn.size;replace hRd:=waa (hRd.out.below hBn);replace hMh:=waa ((hBn.block _ (waj.1 hMh.out).1).trans hMh.out);replace hMw:=waa ((hBn.block _ (waj.1 hMw.out).1).trans hMw.out);have hqb:∀k,rgF p gs gk m k->V3.heap.size<=k/\k<V4.heap.size:=by
     rintro k (e|e|e|e)<;>omega
    replace hq:=waa hq;clear hreg hBn hql hRd;go_wp2_with fail;refine hK.out _ _ (⟨c0,c1,c2⟩) (λhHeld2=>?_);clear hK K hHeld;have hHeld:=hHeld2;clear hHeld2;try simp only[Act.put,waf,wae,wag,wab,wac,wad]
    refine wpAnyH_ready (rs:=[11]) Zk Zs ?_;refine AllReadyH.cons rfl (λK hK=>?_) AllReadyH.nil
    (try simp only[wab,wac,wad])
    go_simp
    have hHd:HdsRd V4 (some ⟨hMhB,0,none⟩) s (frH s):=by have:=HdsRd.of_blk hMh.out;rwa [wa0] at this
    refine(hnw.out hMhB ⟨hMwB,0,none⟩ _ hHd (qa9 hMw.out)).mono ?_;rintro e V5 ⟨hb,FG,rfl,hHp,hFG,hBn⟩;obtain⟨G,hG,hGF⟩:=HpX.of hHp;replace c0:=qaa hBn c0;replace c1:=qaa hBn c1;replace c2:=qaa hBn c2;replace hB:=waa (hB.out.trans (hBn.mono hB.out.size));have hs5:=wak hs4 hBn.size;have hz4:=hBn.size;replace hMh:=waa ((hBn.block _ (waj.1 hMh.out).1).trans hMh.out);replace hMw:=waa ((hBn.block _ (waj.1 hMw.out).1).trans hMw.out);replace hq:=waa (hq.out.upd (Upd.of_below hBn (wah _):Upd (λ_=>False) _ _) (λ_ _ e=>e));have hGb:∀k,G k->V4.heap.size<=k/\k<V5.heap.size:=λk hk=>⟨hFG k (hGF k hk),hG.lt hk⟩
    replace hG:=waa hG;clear hHp hFG hGF hBn hHd;go_wp2_with fail;refine hK.out _ _ (⟨c0,c1,c2⟩) (λhHeld2=>?_);clear hK K hHeld;have hHeld:=hHeld2;clear hHeld2;try simp only[Act.put,waf,wae,wag,wab,wac,wad]
    refine wpAnyH_ready (rs:=[12]) Zk Zs ?_;refine AllReadyH.cons rfl (λK hK=>?_) AllReadyH.nil
    (try simp only[wab,wac,wad])
    go_simp
    refine(hlk.out _).mono ?_;rintro e V6 ⟨⟨tp,tg,rfl,htp,htg,hT⟩,hBn⟩;replace c0:=qaa hBn c0;replace c1:=qaa hBn c1;replace c2:=qaa hBn c2;replace hB:=waa (hB.out.trans (hBn.mono hB.out.size));have hs6:=wak hs5 hBn.size;have hz5:=hBn.size;replace hq:=waa (hq.out.upd (Upd.of_below hBn (wah _):Upd (λ_=>False) _ _) (λ_ _ e=>e));replace hG:=waa (hG.out.upd (Upd.of_below hBn (wah _):Upd (λ_=>False) _ _) (λ_ _ e=>e));replace hT:=waa hT;clear hBn;go_wp2_with fail;refine hK.out _ _ (⟨c0,c1,c2⟩) (λhHeld2=>?_);clear hK K hHeld;have hHeld:=hHeld2;clear hHeld2;try simp only[Act.put,waf,wae,wag,wab,wac,wad]
    refine wpAnyH_take (i:=13) (v:=?_) rfl Zk Zk Zk (λ_ _ _ h=>h) (Or.inl ⟨by rfl,?_⟩) Za ?_;rotate_left;(·intro u h;(try dsimp only at h);(try simp only[wab,wac,wad]);go_simp;try with_reducible rfl);try simp only[Act.put,waf,wae,wag,wab,wac,wad]
    refine wpAnyH_ready (rs:=[14]) Zk Zs ?_;refine AllReadyH.cons rfl (λK hK=>?_) AllReadyH.nil
    (try simp only[wab,wac,wad])
    go_simp
    have hBn:=(wai V6.heap.size V6).alloc (wah _) (.cells #[.int .i64 (s:Int),.int .i64 (L:Int),.int .i64 r,.pointer (some ⟨p,0,none⟩),.pointer (some ⟨hb,0,none⟩),.pointer (some ⟨tp,0,none⟩)] 57);have hwd:Wd (V6.alloc (.cells #[.int .i64 (s:Int),.int .i64 (L:Int),.int .i64 r,.pointer (some ⟨p,0,none⟩),.pointer (some ⟨hb,0,none⟩),.pointer (some ⟨tp,0,none⟩)] 57)) V6.heap.size (s:Int) (L:Int) r p hb tp:=heap_alloc_new V6 _;have hTT:LkR (V6.alloc (.cells #[.int .i64 (s:Int),.int .i64 (L:Int),.int .i64 r,.pointer (some ⟨p,0,none⟩),.pointer (some ⟨hb,0,none⟩),.pointer (some ⟨tp,0,none⟩)] 57)) tp tg 2 [-1,-1]:=hT.out.below hBn;replace c0:=qaa hBn c0;replace c1:=qaa hBn c1;replace c2:=qaa hBn c2;replace hB:=waa (hB.out.trans (hBn.mono hB.out.size));have hs7:=wak hs6 hBn.size;have hz6:=hBn.size;replace hq:=waa (hq.out.upd (Upd.of_below hBn (wah _):Upd (λ_=>False) _ _) (λ_ _ e=>e));replace hG:=waa (hG.out.upd (Upd.of_below hBn (wah _):Upd (λ_=>False) _ _) (λ_ _ e=>e));have hfin:=waa (show qc8 (V6.alloc (.cells #[.int .i64 (s:Int),.int .i64 (L:Int),.int .i64 r,.pointer (some ⟨p,0,none⟩),.pointer (some ⟨hb,0,none⟩),.pointer (some ⟨tp,0,none⟩)] 57)) w.heap.size V6.heap.size s L r n S from⟨p,gs,gk,m,hb,tp,tg,G,_,_,V4.heap.size,V5.heap.size,hwd,hq.out,hG.out,hTT,λk hk=>by have:=hqb k hk;omega,λk hk=>by have:=hGb k hk;omega,⟨Zo,Zo⟩,Zo,Zo,Zo⟩);clear hBn hwd hTT;refine hK.out _ _ (⟨c0,c1,c2⟩) (λhHeld2=>?_);clear hK K hHeld;have hHeld:=hHeld2;clear hHeld2;try simp only[Act.put,waf,wae,wag,wab,wac,wad]
    refine wpAnyH_take (i:=15) (v:=?_) rfl Zk Zk Zk (λ_ _ _ h=>h) (Or.inl ⟨by rfl,?_⟩) Za ?_;rotate_left;(·intro u h;(try dsimp only at h);(try simp only[wab,wac,wad]);go_simp;try with_reducible rfl);try simp only[Act.put,waf,wae,wag,wab,wac,wad]
    refine wpAnyH_done Zk ?_ _;clear hHeld;go_wp2_with fail;go_ret;exact⟨_,rfl,hfin.out,hB.out⟩
  ·(try simp only[wab,wac,wad])
   go_simp
   try simp only[hmk2]
   try simp only[wau]
   have hBn:=((wai V1.heap.size V1).alloc (wah _) (.cells (u64V (List.replicate s 0)).toArray 40))
   have hMw:(V1.alloc (.cells (u64V (List.replicate s 0)).toArray 40)).heap[V1.heap.size]? =some (.cells (u64V (List.replicate s 0)).toArray 40 (0,0)):=heap_alloc_new V1 _;obtain⟨V2,hV2⟩:∃V,(V1.alloc (.cells (u64V (List.replicate s 0)).toArray 40))=V:=⟨_,rfl⟩
   rw[hV2] at hBn hMw;try rw[hV2]
   replace c0:=qaa hBn c0;replace c1:=qaa hBn c1;replace c2:=qaa hBn c2;replace hB:=waa (hB.out.trans (hBn.mono hB.out.size));have hs2:=wak hs1 hBn.size;have hz1:=hBn.size;replace hRd:=waa (hRd.out.below hBn);obtain⟨hMwB,hhMwB⟩:∃b,V1.heap.size=b:=⟨_,rfl⟩
   rw[hhMwB] at hMw;try rw[hhMwB]
   replace hMw:=waa hMw;clear hBn;refine hK.out _ _ (⟨c0,c1,c2⟩) (λhHeld2=>?_);clear hK K hHeld;have hHeld:=hHeld2;clear hHeld2;try simp only[Act.put,waf,wae,wag,wab,wac,wad]
   refine wpAnyH_ready (rs:=[3,7]) Zk Zs ?_;refine AllReadyH.cons rfl (λK hK=>?_) (AllReadyH.cons rfl (λK hK=>?_) AllReadyH.nil)
   ·(try simp only[wab,wac,wad])
    go_simp
    refine(hof.out AF cF _ hRd.out).mono ?_;rintro e V3 ⟨p,rfl,hreg,hBn⟩;obtain⟨gs,gk,m,hq⟩:=hreg.q;have hql:=hq.lts;replace c0:=qaa hBn c0;replace c1:=qaa hBn c1;replace c2:=qaa hBn c2;replace hB:=waa (hB.out.trans (hBn.mono hB.out.size));have hs3:=wak hs2 hBn.size;have hz2:=hBn.size;replace hRd:=waa (hRd.out.below hBn);replace hMw:=waa ((hBn.block _ (waj.1 hMw.out).1).trans hMw.out);have hqb:∀k,rgF p gs gk m k->V2.heap.size<=k/\k<V3.heap.size:=by
     rintro k (e|e|e|e)<;>omega
    replace hq:=waa hq;clear hreg hBn hql hRd;go_wp2_with fail;refine hK.out _ _ (⟨c0,c1,c2⟩) (λhHeld2=>?_);clear hK K hHeld;have hHeld:=hHeld2;clear hHeld2;try simp only[Act.put,waf,wae,wag,wab,wac,wad]
    refine wpAnyH_ready (rs:=[7]) Zk Zs ?_;refine AllReadyH.cons rfl (λK hK=>?_) AllReadyH.nil
    (try simp only[wab,wac,wad])
    go_simp
    try simp only[hmk1]
    try simp only[wau]
    have hBn:=((wai V3.heap.size V3).alloc (wah _) (.cells (hV (List.replicate s (0,0,0))).toArray 134))
    have hMh:(V3.alloc (.cells (hV (List.replicate s (0,0,0))).toArray 134)).heap[V3.heap.size]? =some (.cells (hV (List.replicate s (0,0,0))).toArray 134 (0,0)):=heap_alloc_new V3 _;obtain⟨V4,hV4⟩:∃V,(V3.alloc (.cells (hV (List.replicate s (0,0,0))).toArray 134))=V:=⟨_,rfl⟩
    rw[hV4] at hBn hMh;try rw[hV4]
    replace c0:=qaa hBn c0;replace c1:=qaa hBn c1;replace c2:=qaa hBn c2;replace hB:=waa (hB.out.trans (hBn.mono hB.out.size));have hs4:=wak hs3 hBn.size;have hz3:=hBn.size;replace hMw:=waa ((hBn.block _ (waj.1 hMw.out).1).trans hMw.out);replace hq:=waa (hq.out.upd (Upd.of_below hBn (wah _):Upd (λ_=>False) _ _) (λ_ _ e=>e));obtain⟨hMhB,hhMhB⟩:∃b,V3.heap.size=b:=⟨_,rfl⟩
    rw[hhMhB] at hMh;try rw[hhMhB]
    replace hMh:=waa hMh;clear hBn;refine hK.out _ _ (⟨c0,c1,c2⟩) (λhHeld2=>?_);clear hK K hHeld;have hHeld:=hHeld2;clear hHeld2;try simp only[Act.put,waf,wae,wag,wab,wac,wad]
    refine wpAnyH_ready (rs:=[11]) Zk Zs ?_;refine AllReadyH.cons rfl (λK hK=>?_) AllReadyH.nil
    (try simp only[wab,wac,wad])
    go_simp
    have hHd:HdsRd V4 (some ⟨hMhB,0,none⟩) s (frH s):=by have:=HdsRd.of_blk hMh.out;rwa [wa0] at this
    refine(hnw.out hMhB ⟨hMwB,0,none⟩ _ hHd (qa9 hMw.out)).mono ?_;rintro e V5 ⟨hb,FG,rfl,hHp,hFG,hBn⟩;obtain⟨G,hG,hGF⟩:=HpX.of hHp;replace c0:=qaa hBn c0;replace c1:=qaa hBn c1;replace c2:=qaa hBn c2;replace hB:=waa (hB.out.trans (hBn.mono hB.out.size));have hs5:=wak hs4 hBn.size;have hz4:=hBn.size;replace hMh:=waa ((hBn.block _ (waj.1 hMh.out).1).trans hMh.out);replace hMw:=waa ((hBn.block _ (waj.1 hMw.out).1).trans hMw.out);replace hq:=waa (hq.out.upd (Upd.of_below hBn (wah _):Upd (λ_=>False) _ _) (λ_ _ e=>e));have hGb:∀k,G k->V4.heap.size<=k/\k<V5.heap.size:=λk hk=>⟨hFG k (hGF k hk),hG.lt hk⟩
    replace hG:=waa hG;clear hHp hFG hGF hBn hHd;go_wp2_with fail;refine hK.out _ _ (⟨c0,c1,c2⟩) (λhHeld2=>?_);clear hK K hHeld;have hHeld:=hHeld2;clear hHeld2;try simp only[Act.put,waf,wae,wag,wab,wac,wad]
    refine wpAnyH_ready (rs:=[12]) Zk Zs ?_;refine AllReadyH.cons rfl (λK hK=>?_) AllReadyH.nil
    (try simp only[wab,wac,wad])
    go_simp
    refine(hlk.out _).mono ?_;rintro e V6 ⟨⟨tp,tg,rfl,htp,htg,hT⟩,hBn⟩;replace c0:=qaa hBn c0;replace c1:=qaa hBn c1;replace c2:=qaa hBn c2;replace hB:=waa (hB.out.trans (hBn.mono hB.out.size));have hs6:=wak hs5 hBn.size;have hz5:=hBn.size;replace hq:=waa (hq.out.upd (Upd.of_below hBn (wah _):Upd (λ_=>False) _ _) (λ_ _ e=>e));replace hG:=waa (hG.out.upd (Upd.of_below hBn (wah _):Upd (λ_=>False) _ _) (λ_ _ e=>e));replace hT:=waa hT;clear hBn;go_wp2_with fail;refine hK.out _ _ (⟨c0,c1,c2⟩) (λhHeld2=>?_);clear hK K hHeld;have hHeld:=hHeld2;clear hHeld2;try simp only[Act.put,waf,wae,wag,wab,wac,wad]
    refine wpAnyH_take (i:=13) (v:=?_) rfl Zk Zk Zk (λ_ _ _ h=>h) (Or.inl ⟨by rfl,?_⟩) Za ?_;rotate_left;(·intro u h;(try dsimp only at h);(try simp only[wab,wac,wad]);go_simp;try with_reducible rfl);try simp only[Act.put,waf,wae,wag,wab,wac,wad]
    refine wpAnyH_ready (rs:=[14]) Zk Zs ?_;refine AllReadyH.cons rfl (λK hK=>?_) AllReadyH.nil
    (try simp only[wab,wac,wad])
    go_simp
    have hBn:=(wai V6.heap.size V6).alloc (wah _) (.cells #[.int .i64 (s:Int),.int .i64 (L:Int),.int .i64 r,.pointer (some ⟨p,0,none⟩),.pointer (some ⟨hb,0,none⟩),.pointer (some ⟨tp,0,none⟩)] 57);have hwd:Wd (V6.alloc (.cells #[.int .i64 (s:Int),.int .i64 (L:Int),.int .i64 r,.pointer (some ⟨p,0,none⟩),.pointer (some ⟨hb,0,none⟩),.pointer (some ⟨tp,0,none⟩)] 57)) V6.heap.size (s:Int) (L:Int) r p hb tp:=heap_alloc_new V6 _;have hTT:LkR (V6.alloc (.cells #[.int .i64 (s:Int),.int .i64 (L:Int),.int .i64 r,.pointer (some ⟨p,0,none⟩),.pointer (some ⟨hb,0,none⟩),.pointer (some ⟨tp,0,none⟩)] 57)) tp tg 2 [-1,-1]:=hT.out.below hBn;replace c0:=qaa hBn c0;replace c1:=qaa hBn c1;replace c2:=qaa hBn c2;replace hB:=waa (hB.out.trans (hBn.mono hB.out.size));have hs7:=wak hs6 hBn.size;have hz6:=hBn.size;replace hq:=waa (hq.out.upd (Upd.of_below hBn (wah _):Upd (λ_=>False) _ _) (λ_ _ e=>e));replace hG:=waa (hG.out.upd (Upd.of_below hBn (wah _):Upd (λ_=>False) _ _) (λ_ _ e=>e));have hfin:=waa (show qc8 (V6.alloc (.cells #[.int .i64 (s:Int),.int .i64 (L:Int),.int .i64 r,.pointer (some ⟨p,0,none⟩),.pointer (some ⟨hb,0,none⟩),.pointer (some ⟨tp,0,none⟩)] 57)) w.heap.size V6.heap.size s L r n S from⟨p,gs,gk,m,hb,tp,tg,G,_,_,V3.heap.size,V5.heap.size,hwd,hq.out,hG.out,hTT,λk hk=>by have:=hqb k hk;omega,λk hk=>by have:=hGb k hk;omega,⟨Zo,Zo⟩,Zo,Zo,Zo⟩);clear hBn hwd hTT;refine hK.out _ _ (⟨c0,c1,c2⟩) (λhHeld2=>?_);clear hK K hHeld;have hHeld:=hHeld2;clear hHeld2;try simp only[Act.put,waf,wae,wag,wab,wac,wad]
    refine wpAnyH_take (i:=15) (v:=?_) rfl Zk Zk Zk (λ_ _ _ h=>h) (Or.inl ⟨by rfl,?_⟩) Za ?_;rotate_left;(·intro u h;(try dsimp only at h);(try simp only[wab,wac,wad]);go_simp;try with_reducible rfl);try simp only[Act.put,waf,wae,wag,wab,wac,wad]
    refine wpAnyH_done Zk ?_ _;clear hHeld;go_wp2_with fail;go_ret;exact⟨_,rfl,hfin.out,hB.out⟩
   ·(try simp only[wab,wac,wad])
    go_simp
    try simp only[hmk1]
    try simp only[wau]
    have hBn:=((wai V2.heap.size V2).alloc (wah _) (.cells (hV (List.replicate s (0,0,0))).toArray 134))
    have hMh:(V2.alloc (.cells (hV (List.replicate s (0,0,0))).toArray 134)).heap[V2.heap.size]? =some (.cells (hV (List.replicate s (0,0,0))).toArray 134 (0,0)):=heap_alloc_new V2 _;obtain⟨V3,hV3⟩:∃V,(V2.alloc (.cells (hV (List.replicate s (0,0,0))).toArray 134))=V:=⟨_,rfl⟩
    rw[hV3] at hBn hMh;try rw[hV3]
    replace c0:=qaa hBn c0;replace c1:=qaa hBn c1;replace c2:=qaa hBn c2;replace hB:=waa (hB.out.trans (hBn.mono hB.out.size));have hs3:=wak hs2 hBn.size;have hz2:=hBn.size;replace hRd:=waa (hRd.out.below hBn);replace hMw:=waa ((hBn.block _ (waj.1 hMw.out).1).trans hMw.out);obtain⟨hMhB,hhMhB⟩:∃b,V2.heap.size=b:=⟨_,rfl⟩
    rw[hhMhB] at hMh;try rw[hhMhB]
    replace hMh:=waa hMh;clear hBn;refine hK.out _ _ (⟨c0,c1,c2⟩) (λhHeld2=>?_);clear hK K hHeld;have hHeld:=hHeld2;clear hHeld2;try simp only[Act.put,waf,wae,wag,wab,wac,wad]
    refine wpAnyH_ready (rs:=[3]) Zk Zs ?_;refine AllReadyH.cons rfl (λK hK=>?_) AllReadyH.nil
    (try simp only[wab,wac,wad])
    go_simp
    refine(hof.out AF cF _ hRd.out).mono ?_;rintro e V4 ⟨p,rfl,hreg,hBn⟩;obtain⟨gs,gk,m,hq⟩:=hreg.q;have hql:=hq.lts;replace c0:=qaa hBn c0;replace c1:=qaa hBn c1;replace c2:=qaa hBn c2;replace hB:=waa (hB.out.trans (hBn.mono hB.out.size));have hs4:=wak hs3 hBn.size;have hz3:=hBn.size;replace hRd:=waa (hRd.out.below hBn);replace hMh:=waa ((hBn.block _ (waj.1 hMh.out).1).trans hMh.out);replace hMw:=waa ((hBn.block _ (waj.1 hMw.out).1).trans hMw.out);have hqb:∀k,rgF p gs gk m k->V3.heap.size<=k/\k<V4.heap.size:=by
     rintro k (e|e|e|e)<;>omega
    replace hq:=waa hq;clear hreg hBn hql hRd;go_wp2_with fail;refine hK.out _ _ (⟨c0,c1,c2⟩) (λhHeld2=>?_);clear hK K hHeld;have hHeld:=hHeld2;clear hHeld2;try simp only[Act.put,waf,wae,wag,wab,wac,wad]
    refine wpAnyH_ready (rs:=[11]) Zk Zs ?_;refine AllReadyH.cons rfl (λK hK=>?_) AllReadyH.nil
    (try simp only[wab,wac,wad])
    go_simp
    have hHd:HdsRd V4 (some ⟨hMhB,0,none⟩) s (frH s):=by have:=HdsRd.of_blk hMh.out;rwa [wa0] at this
    refine(hnw.out hMhB ⟨hMwB,0,none⟩ _ hHd (qa9 hMw.out)).mono ?_;rintro e V5 ⟨hb,FG,rfl,hHp,hFG,hBn⟩;obtain⟨G,hG,hGF⟩:=HpX.of hHp;replace c0:=qaa hBn c0;replace c1:=qaa hBn c1;replace c2:=qaa hBn c2;replace hB:=waa (hB.out.trans (hBn.mono hB.out.size));have hs5:=wak hs4 hBn.size;have hz4:=hBn.size;replace hMh:=waa ((hBn.block _ (waj.1 hMh.out).1).trans hMh.out);replace hMw:=waa ((hBn.block _ (waj.1 hMw.out).1).trans hMw.out);replace hq:=waa (hq.out.upd (Upd.of_below hBn (wah _):Upd (λ_=>False) _ _) (λ_ _ e=>e));have hGb:∀k,G k->V4.heap.size<=k/\k<V5.heap.size:=λk hk=>⟨hFG k (hGF k hk),hG.lt hk⟩
    replace hG:=waa hG;clear hHp hFG hGF hBn hHd;go_wp2_with fail;refine hK.out _ _ (⟨c0,c1,c2⟩) (λhHeld2=>?_);clear hK K hHeld;have hHeld:=hHeld2;clear hHeld2;try simp only[Act.put,waf,wae,wag,wab,wac,wad]
    refine wpAnyH_ready (rs:=[12]) Zk Zs ?_;refine AllReadyH.cons rfl (λK hK=>?_) AllReadyH.nil
    (try simp only[wab,wac,wad])
    go_simp
    refine(hlk.out _).mono ?_;rintro e V6 ⟨⟨tp,tg,rfl,htp,htg,hT⟩,hBn⟩;replace c0:=qaa hBn c0;replace c1:=qaa hBn c1;replace c2:=qaa hBn c2;replace hB:=waa (hB.out.trans (hBn.mono hB.out.size));have hs6:=wak hs5 hBn.size;have hz5:=hBn.size;replace hq:=waa (hq.out.upd (Upd.of_below hBn (wah _):Upd (λ_=>False) _ _) (λ_ _ e=>e));replace hG:=waa (hG.out.upd (Upd.of_below hBn (wah _):Upd (λ_=>False) _ _) (λ_ _ e=>e));replace hT:=waa hT;clear hBn;go_wp2_with fail;refine hK.out _ _ (⟨c0,c1,c2⟩) (λhHeld2=>?_);clear hK K hHeld;have hHeld:=hHeld2;clear hHeld2;try simp only[Act.put,waf,wae,wag,wab,wac,wad]
    refine wpAnyH_take (i:=13) (v:=?_) rfl Zk Zk Zk (λ_ _ _ h=>h) (Or.inl ⟨by rfl,?_⟩) Za ?_;rotate_left;(·intro u h;(try dsimp only at h);(try simp only[wab,wac,wad]);go_simp;try with_reducible rfl);try simp only[Act.put,waf,wae,wag,wab,wac,wad]
    refine wpAnyH_ready (rs:=[14]) Zk Zs ?_;refine AllReadyH.cons rfl (λK hK=>?_) AllReadyH.nil
    (try simp only[wab,wac,wad])
    go_simp
    have hBn:=(wai V6.heap.size V6).alloc (wah _) (.cells #[.int .i64 (s:Int),.int .i64 (L:Int),.int .i64 r,.pointer (some ⟨p,0,none⟩),.pointer (some ⟨hb,0,none⟩),.pointer (some ⟨tp,0,none⟩)] 57);have hwd:Wd (V6.alloc (.cells #[.int .i64 (s:Int),.int .i64 (L:Int),.int .i64 r,.pointer (some ⟨p,0,none⟩),.pointer (some ⟨hb,0,none⟩),.pointer (some ⟨tp,0,none⟩)] 57)) V6.heap.size (s:Int) (L:Int) r p hb tp:=heap_alloc_new V6 _;have hTT:LkR (V6.alloc (.cells #[.int .i64 (s:Int),.int .i64 (L:Int),.int .i64 r,.pointer (some ⟨p,0,none⟩),.pointer (some ⟨hb,0,none⟩),.pointer (some ⟨tp,0,none⟩)] 57)) tp tg 2 [-1,-1]:=hT.out.below hBn;replace c0:=qaa hBn c0;replace c1:=qaa hBn c1;replace c2:=qaa hBn c2;replace hB:=waa (hB.out.trans (hBn.mono hB.out.size));have hs7:=wak hs6 hBn.size;have hz6:=hBn.size;replace hq:=waa (hq.out.upd (Upd.of_below hBn (wah _):Upd (λ_=>False) _ _) (λ_ _ e=>e));replace hG:=waa (hG.out.upd (Upd.of_below hBn (wah _):Upd (λ_=>False) _ _) (λ_ _ e=>e));have hfin:=waa (show qc8 (V6.alloc (.cells #[.int .i64 (s:Int),.int .i64 (L:Int),.int .i64 r,.pointer (some ⟨p,0,none⟩),.pointer (some ⟨hb,0,none⟩),.pointer (some ⟨tp,0,none⟩)] 57)) w.heap.size V6.heap.size s L r n S from⟨p,gs,gk,m,hb,tp,tg,G,_,_,V4.heap.size,V5.heap.size,hwd,hq.out,hG.out,hTT,λk hk=>by have:=hqb k hk;omega,λk hk=>by have:=hGb k hk;omega,⟨Zo,Zo⟩,Zo,Zo,Zo⟩);clear hBn hwd hTT;refine hK.out _ _ (⟨c0,c1,c2⟩) (λhHeld2=>?_);clear hK K hHeld;have hHeld:=hHeld2;clear hHeld2;try simp only[Act.put,waf,wae,wag,wab,wac,wad]
    refine wpAnyH_take (i:=15) (v:=?_) rfl Zk Zk Zk (λ_ _ _ h=>h) (Or.inl ⟨by rfl,?_⟩) Za ?_;rotate_left;(·intro u h;(try dsimp only at h);(try simp only[wab,wac,wad]);go_simp;try with_reducible rfl);try simp only[Act.put,waf,wae,wag,wab,wac,wad]
    refine wpAnyH_done Zk ?_ _;clear hHeld;go_wp2_with fail;go_ret;exact⟨_,rfl,hfin.out,hB.out⟩
 ·(try simp only[wab,wac,wad])
  go_simp
  try simp only[hmk1]
  try simp only[wau]
  have hBn:=((wai W1.heap.size W1).alloc (wah _) (.cells (hV (List.replicate s (0,0,0))).toArray 134)).drew;have hMh:(W1.alloc (.cells (hV (List.replicate s (0,0,0))).toArray 134)).drew.heap[W1.heap.size]? =some (.cells (hV (List.replicate s (0,0,0))).toArray 134 (0,0)):=heap_alloc_new W1 _;obtain⟨V1,hV1⟩:∃V,(W1.alloc (.cells (hV (List.replicate s (0,0,0))).toArray 134)).drew=V:=⟨_,rfl⟩
  rw[hV1] at hBn hMh;try rw[hV1]
  replace c0:=qaa hBn c0;replace c1:=qaa hBn c1;replace c2:=qaa hBn c2;replace hB:=waa (hB.out.trans (hBn.mono hB.out.size));have hs1:=wak hs0 hBn.size;have hz0:=hBn.size;obtain⟨hMhB,hhMhB⟩:∃b,W1.heap.size=b:=⟨_,rfl⟩
  rw[hhMhB] at hMh;try rw[hhMhB]
  replace hMh:=waa hMh;clear hBn;refine hK.out _ _ (⟨c0,c1,c2⟩) (λhHeld2=>?_);clear hK K hHeld;have hHeld:=hHeld2;clear hHeld2;try simp only[Act.put,waf,wae,wag,wab,wac,wad]
  refine wpAnyH_ready (rs:=[2,10]) Zk Zs ?_;refine AllReadyH.cons rfl (λK hK=>?_) (AllReadyH.cons rfl (λK hK=>?_) AllReadyH.nil)
  ·(try simp only[wab,wac,wad])
   go_simp
   refine(hfr.out _).mono ?_;rintro e V2 ⟨vF,rfl,hrow,hBn⟩;obtain⟨AF,cF,rfl,hRd⟩:=Rd.of_own hrow;replace c0:=qaa hBn c0;replace c1:=qaa hBn c1;replace c2:=qaa hBn c2;replace hB:=waa (hB.out.trans (hBn.mono hB.out.size));have hs2:=wak hs1 hBn.size;have hz1:=hBn.size;replace hMh:=waa ((hBn.block _ (waj.1 hMh.out).1).trans hMh.out);replace hRd:=waa hRd;clear hrow hBn;go_wp2_with fail;refine hK.out _ _ (⟨c0,c1,c2⟩) (λhHeld2=>?_);clear hK K hHeld;have hHeld:=hHeld2;clear hHeld2;try simp only[Act.put,waf,wae,wag,wab,wac,wad]
   refine wpAnyH_ready (rs:=[3,10]) Zk Zs ?_;refine AllReadyH.cons rfl (λK hK=>?_) (AllReadyH.cons rfl (λK hK=>?_) AllReadyH.nil)
   ·(try simp only[wab,wac,wad])
    go_simp
    refine(hof.out AF cF _ hRd.out).mono ?_;rintro e V3 ⟨p,rfl,hreg,hBn⟩;obtain⟨gs,gk,m,hq⟩:=hreg.q;have hql:=hq.lts;replace c0:=qaa hBn c0;replace c1:=qaa hBn c1;replace c2:=qaa hBn c2;replace hB:=waa (hB.out.trans (hBn.mono hB.out.size));have hs3:=wak hs2 hBn.size;have hz2:=hBn.size;replace hRd:=waa (hRd.out.below hBn);replace hMh:=waa ((hBn.block _ (waj.1 hMh.out).1).trans hMh.out);have hqb:∀k,rgF p gs gk m k->V2.heap.size<=k/\k<V3.heap.size:=by
     rintro k (e|e|e|e)<;>omega
    replace hq:=waa hq;clear hreg hBn hql hRd;go_wp2_with fail;refine hK.out _ _ (⟨c0,c1,c2⟩) (λhHeld2=>?_);clear hK K hHeld;have hHeld:=hHeld2;clear hHeld2;try simp only[Act.put,waf,wae,wag,wab,wac,wad]
    refine wpAnyH_ready (rs:=[10]) Zk Zs ?_;refine AllReadyH.cons rfl (λK hK=>?_) AllReadyH.nil
    (try simp only[wab,wac,wad])
    go_simp
    try simp only[hmk2]
    try simp only[wau]
    have hBn:=((wai V3.heap.size V3).alloc (wah _) (.cells (u64V (List.replicate s 0)).toArray 40))
    have hMw:(V3.alloc (.cells (u64V (List.replicate s 0)).toArray 40)).heap[V3.heap.size]? =some (.cells (u64V (List.replicate s 0)).toArray 40 (0,0)):=heap_alloc_new V3 _;obtain⟨V4,hV4⟩:∃V,(V3.alloc (.cells (u64V (List.replicate s 0)).toArray 40))=V:=⟨_,rfl⟩
    rw[hV4] at hBn hMw;try rw[hV4]
    replace c0:=qaa hBn c0;replace c1:=qaa hBn c1;replace c2:=qaa hBn c2;replace hB:=waa (hB.out.trans (hBn.mono hB.out.size));have hs4:=wak hs3 hBn.size;have hz3:=hBn.size;replace hMh:=waa ((hBn.block _ (waj.1 hMh.out).1).trans hMh.out);replace hq:=waa (hq.out.upd (Upd.of_below hBn (wah _):Upd (λ_=>False) _ _) (λ_ _ e=>e));obtain⟨hMwB,hhMwB⟩:∃b,V3.heap.size=b:=⟨_,rfl⟩
    rw[hhMwB] at hMw;try rw[hhMwB]
    replace hMw:=waa hMw;clear hBn;refine hK.out _ _ (⟨c0,c1,c2⟩) (λhHeld2=>?_);clear hK K hHeld;have hHeld:=hHeld2;clear hHeld2;try simp only[Act.put,waf,wae,wag,wab,wac,wad]
    refine wpAnyH_ready (rs:=[11]) Zk Zs ?_;refine AllReadyH.cons rfl (λK hK=>?_) AllReadyH.nil
    (try simp only[wab,wac,wad])
    go_simp
    have hHd:HdsRd V4 (some ⟨hMhB,0,none⟩) s (frH s):=by have:=HdsRd.of_blk hMh.out;rwa [wa0] at this
    refine(hnw.out hMhB ⟨hMwB,0,none⟩ _ hHd (qa9 hMw.out)).mono ?_;rintro e V5 ⟨hb,FG,rfl,hHp,hFG,hBn⟩;obtain⟨G,hG,hGF⟩:=HpX.of hHp;replace c0:=qaa hBn c0;replace c1:=qaa hBn c1;replace c2:=qaa hBn c2;replace hB:=waa (hB.out.trans (hBn.mono hB.out.size));have hs5:=wak hs4 hBn.size;have hz4:=hBn.size;replace hMh:=waa ((hBn.block _ (waj.1 hMh.out).1).trans hMh.out);replace hMw:=waa ((hBn.block _ (waj.1 hMw.out).1).trans hMw.out);replace hq:=waa (hq.out.upd (Upd.of_below hBn (wah _):Upd (λ_=>False) _ _) (λ_ _ e=>e));have hGb:∀k,G k->V4.heap.size<=k/\k<V5.heap.size:=λk hk=>⟨hFG k (hGF k hk),hG.lt hk⟩
    replace hG:=waa hG;clear hHp hFG hGF hBn hHd;go_wp2_with fail;refine hK.out _ _ (⟨c0,c1,c2⟩) (λhHeld2=>?_);clear hK K hHeld;have hHeld:=hHeld2;clear hHeld2;try simp only[Act.put,waf,wae,wag,wab,wac,wad]
    refine wpAnyH_ready (rs:=[12]) Zk Zs ?_;refine AllReadyH.cons rfl (λK hK=>?_) AllReadyH.nil
    (try simp only[wab,wac,wad])
    go_simp
    refine(hlk.out _).mono ?_;rintro e V6 ⟨⟨tp,tg,rfl,htp,htg,hT⟩,hBn⟩;replace c0:=qaa hBn c0;replace c1:=qaa hBn c1;replace c2:=qaa hBn c2;replace hB:=waa (hB.out.trans (hBn.mono hB.out.size));have hs6:=wak hs5 hBn.size;have hz5:=hBn.size;replace hq:=waa (hq.out.upd (Upd.of_below hBn (wah _):Upd (λ_=>False) _ _) (λ_ _ e=>e));replace hG:=waa (hG.out.upd (Upd.of_below hBn (wah _):Upd (λ_=>False) _ _) (λ_ _ e=>e));replace hT:=waa hT;clear hBn;go_wp2_with fail;refine hK.out _ _ (⟨c0,c1,c2⟩) (λhHeld2=>?_);clear hK K hHeld;have hHeld:=hHeld2;clear hHeld2;try simp only[Act.put,waf,wae,wag,wab,wac,wad]
    refine wpAnyH_take (i:=13) (v:=?_) rfl Zk Zk Zk (λ_ _ _ h=>h) (Or.inl ⟨by rfl,?_⟩) Za ?_;rotate_left;(·intro u h;(try dsimp only at h);(try simp only[wab,wac,wad]);go_simp;try with_reducible rfl);try simp only[Act.put,waf,wae,wag,wab,wac,wad]
    refine wpAnyH_ready (rs:=[14]) Zk Zs ?_;refine AllReadyH.cons rfl (λK hK=>?_) AllReadyH.nil
    (try simp only[wab,wac,wad])
    go_simp
    have hBn:=(wai V6.heap.size V6).alloc (wah _) (.cells #[.int .i64 (s:Int),.int .i64 (L:Int),.int .i64 r,.pointer (some ⟨p,0,none⟩),.pointer (some ⟨hb,0,none⟩),.pointer (some ⟨tp,0,none⟩)] 57);have hwd:Wd (V6.alloc (.cells #[.int .i64 (s:Int),.int .i64 (L:Int),.int .i64 r,.pointer (some ⟨p,0,none⟩),.pointer (some ⟨hb,0,none⟩),.pointer (some ⟨tp,0,none⟩)] 57)) V6.heap.size (s:Int) (L:Int) r p hb tp:=heap_alloc_new V6 _;have hTT:LkR (V6.alloc (.cells #[.int .i64 (s:Int),.int .i64 (L:Int),.int .i64 r,.pointer (some ⟨p,0,none⟩),.pointer (some ⟨hb,0,none⟩),.pointer (some ⟨tp,0,none⟩)] 57)) tp tg 2 [-1,-1]:=hT.out.below hBn;replace c0:=qaa hBn c0;replace c1:=qaa hBn c1;replace c2:=qaa hBn c2;replace hB:=waa (hB.out.trans (hBn.mono hB.out.size));have hs7:=wak hs6 hBn.size;have hz6:=hBn.size;replace hq:=waa (hq.out.upd (Upd.of_below hBn (wah _):Upd (λ_=>False) _ _) (λ_ _ e=>e));replace hG:=waa (hG.out.upd (Upd.of_below hBn (wah _):Upd (λ_=>False) _ _) (λ_ _ e=>e));have hfin:=waa (show qc8 (V6.alloc (.cells #[.int .i64 (s:Int),.int .i64 (L:Int),.int .i64 r,.pointer (some ⟨p,0,none⟩),.pointer (some ⟨hb,0,none⟩),.pointer (some ⟨tp,0,none⟩)] 57)) w.heap.size V6.heap.size s L r n S from⟨p,gs,gk,m,hb,tp,tg,G,_,_,V3.heap.size,V5.heap.size,hwd,hq.out,hG.out,hTT,λk hk=>by have:=hqb k hk;omega,λk hk=>by have:=hGb k hk;omega,⟨Zo,Zo⟩,Zo,Zo,Zo⟩);clear hBn hwd hTT;refine hK.out _ _ (⟨c0,c1,c2⟩) (λhHeld2=>?_);clear hK K hHeld;have hHeld:=hHeld2;clear hHeld2;try simp only[Act.put,waf,wae,wag,wab,wac,wad]
    refine wpAnyH_take (i:=15) (v:=?_) rfl Zk Zk Zk (λ_ _ _ h=>h) (Or.inl ⟨by rfl,?_⟩) Za ?_;rotate_left;(·intro u h;(try dsimp only at h);(try simp only[wab,wac,wad]);go_simp;try with_reducible rfl);try simp only[Act.put,waf,wae,wag,wab,wac,wad]
    refine wpAnyH_done Zk ?_ _;clear hHeld;go_wp2_with fail;go_ret;exact⟨_,rfl,hfin.out,hB.out⟩
   ·(try simp only[wab,wac,wad])
    go_simp
    try simp only[hmk2]
    try simp only[wau]
    have hBn:=((wai V2.heap.size V2).alloc (wah _) (.cells (u64V (List.replicate s 0)).toArray 40))
    have hMw:(V2.alloc (.cells (u64V (List.replicate s 0)).toArray 40)).heap[V2.heap.size]? =some (.cells (u64V (List.replicate s 0)).toArray 40 (0,0)):=heap_alloc_new V2 _;obtain⟨V3,hV3⟩:∃V,(V2.alloc (.cells (u64V (List.replicate s 0)).toArray 40))=V:=⟨_,rfl⟩
    rw[hV3] at hBn hMw;try rw[hV3]
    replace c0:=qaa hBn c0;replace c1:=qaa hBn c1;replace c2:=qaa hBn c2;replace hB:=waa (hB.out.trans (hBn.mono hB.out.size));have hs3:=wak hs2 hBn.size;have hz2:=hBn.size;replace hRd:=waa (hRd.out.below hBn);replace hMh:=waa ((hBn.block _ (waj.1 hMh.out).1).trans hMh.out);obtain⟨hMwB,hhMwB⟩:∃b,V2.heap.size=b:=⟨_,rfl⟩
    rw[hhMwB] at hMw;try rw[hhMwB]
    replace hMw:=waa hMw;clear hBn;refine hK.out _ _ (⟨c0,c1,c2⟩) (λhHeld2=>?_);clear hK K hHeld;have hHeld:=hHeld2;clear hHeld2;try simp only[Act.put,waf,wae,wag,wab,wac,wad]
    refine wpAnyH_ready (rs:=[3]) Zk Zs ?_;refine AllReadyH.cons rfl (λK hK=>?_) AllReadyH.nil
    (try simp only[wab,wac,wad])
    go_simp
    refine(hof.out AF cF _ hRd.out).mono ?_;rintro e V4 ⟨p,rfl,hreg,hBn⟩;obtain⟨gs,gk,m,hq⟩:=hreg.q;have hql:=hq.lts;replace c0:=qaa hBn c0;replace c1:=qaa hBn c1;replace c2:=qaa hBn c2;replace hB:=waa (hB.out.trans (hBn.mono hB.out.size));have hs4:=wak hs3 hBn.size;have hz3:=hBn.size;replace hRd:=waa (hRd.out.below hBn);replace hMh:=waa ((hBn.block _ (waj.1 hMh.out).1).trans hMh.out);replace hMw:=waa ((hBn.block _ (waj.1 hMw.out).1).trans hMw.out);have hqb:∀k,rgF p gs gk m k->V3.heap.size<=k/\k<V4.heap.size:=by
     rintro k (e|e|e|e)<;>omega
    replace hq:=waa hq;clear hreg hBn hql hRd;go_wp2_with fail;refine hK.out _ _ (⟨c0,c1,c2⟩) (λhHeld2=>?_);clear hK K hHeld;have hHeld:=hHeld2;clear hHeld2;try simp only[Act.put,waf,wae,wag,wab,wac,wad]
    refine wpAnyH_ready (rs:=[11]) Zk Zs ?_;refine AllReadyH.cons rfl (λK hK=>?_) AllReadyH.nil
    (try simp only[wab,wac,wad])
    go_simp
    have hHd:HdsRd V4 (some ⟨hMhB,0,none⟩) s (frH s):=by have:=HdsRd.of_blk hMh.out;rwa [wa0] at this
    refine(hnw.out hMhB ⟨hMwB,0,none⟩ _ hHd (qa9 hMw.out)).mono ?_;rintro e V5 ⟨hb,FG,rfl,hHp,hFG,hBn⟩;obtain⟨G,hG,hGF⟩:=HpX.of hHp;replace c0:=qaa hBn c0;replace c1:=qaa hBn c1;replace c2:=qaa hBn c2;replace hB:=waa (hB.out.trans (hBn.mono hB.out.size));have hs5:=wak hs4 hBn.size;have hz4:=hBn.size;replace hMh:=waa ((hBn.block _ (waj.1 hMh.out).1).trans hMh.out);replace hMw:=waa ((hBn.block _ (waj.1 hMw.out).1).trans hMw.out);replace hq:=waa (hq.out.upd (Upd.of_below hBn (wah _):Upd (λ_=>False) _ _) (λ_ _ e=>e));have hGb:∀k,G k->V4.heap.size<=k/\k<V5.heap.size:=λk hk=>⟨hFG k (hGF k hk),hG.lt hk⟩
    replace hG:=waa hG;clear hHp hFG hGF hBn hHd;go_wp2_with fail;refine hK.out _ _ (⟨c0,c1,c2⟩) (λhHeld2=>?_);clear hK K hHeld;have hHeld:=hHeld2;clear hHeld2;try simp only[Act.put,waf,wae,wag,wab,wac,wad]
    refine wpAnyH_ready (rs:=[12]) Zk Zs ?_;refine AllReadyH.cons rfl (λK hK=>?_) AllReadyH.nil
    (try simp only[wab,wac,wad])
    go_simp
    refine(hlk.out _).mono ?_;rintro e V6 ⟨⟨tp,tg,rfl,htp,htg,hT⟩,hBn⟩;replace c0:=qaa hBn c0;replace c1:=qaa hBn c1;replace c2:=qaa hBn c2;replace hB:=waa (hB.out.trans (hBn.mono hB.out.size));have hs6:=wak hs5 hBn.size;have hz5:=hBn.size;replace hq:=waa (hq.out.upd (Upd.of_below hBn (wah _):Upd (λ_=>False) _ _) (λ_ _ e=>e));replace hG:=waa (hG.out.upd (Upd.of_below hBn (wah _):Upd (λ_=>False) _ _) (λ_ _ e=>e));replace hT:=waa hT;clear hBn;go_wp2_with fail;refine hK.out _ _ (⟨c0,c1,c2⟩) (λhHeld2=>?_);clear hK K hHeld;have hHeld:=hHeld2;clear hHeld2;try simp only[Act.put,waf,wae,wag,wab,wac,wad]
    refine wpAnyH_take (i:=13) (v:=?_) rfl Zk Zk Zk (λ_ _ _ h=>h) (Or.inl ⟨by rfl,?_⟩) Za ?_;rotate_left;(·intro u h;(try dsimp only at h);(try simp only[wab,wac,wad]);go_simp;try with_reducible rfl);try simp only[Act.put,waf,wae,wag,wab,wac,wad]
    refine wpAnyH_ready (rs:=[14]) Zk Zs ?_;refine AllReadyH.cons rfl (λK hK=>?_) AllReadyH.nil
    (try simp only[wab,wac,wad])
    go_simp
    have hBn:=(wai V6.heap.size V6).alloc (wah _) (.cells #[.int .i64 (s:Int),.int .i64 (L:Int),.int .i64 r,.pointer (some ⟨p,0,none⟩),.pointer (some ⟨hb,0,none⟩),.pointer (some ⟨tp,0,none⟩)] 57);have hwd:Wd (V6.alloc (.cells #[.int .i64 (s:Int),.int .i64 (L:Int),.int .i64 r,.pointer (some ⟨p,0,none⟩),.pointer (some ⟨hb,0,none⟩),.pointer (some ⟨tp,0,none⟩)] 57)) V6.heap.size (s:Int) (L:Int) r p hb tp:=heap_alloc_new V6 _;have hTT:LkR (V6.alloc (.cells #[.int .i64 (s:Int),.int .i64 (L:Int),.int .i64 r,.pointer (some ⟨p,0,none⟩),.pointer (some ⟨hb,0,none⟩),.pointer (some ⟨tp,0,none⟩)] 57)) tp tg 2 [-1,-1]:=hT.out.below hBn;replace c0:=qaa hBn c0;replace c1:=qaa hBn c1;replace c2:=qaa hBn c2;replace hB:=waa (hB.out.trans (hBn.mono hB.out.size));have hs7:=wak hs6 hBn.size;have hz6:=hBn.size;replace hq:=waa (hq.out.upd (Upd.of_below hBn (wah _):Upd (λ_=>False) _ _) (λ_ _ e=>e));replace hG:=waa (hG.out.upd (Upd.of_below hBn (wah _):Upd (λ_=>False) _ _) (λ_ _ e=>e));have hfin:=waa (show qc8 (V6.alloc (.cells #[.int .i64 (s:Int),.int .i64 (L:Int),.int .i64 r,.pointer (some ⟨p,0,none⟩),.pointer (some ⟨hb,0,none⟩),.pointer (some ⟨tp,0,none⟩)] 57)) w.heap.size V6.heap.size s L r n S from⟨p,gs,gk,m,hb,tp,tg,G,_,_,V4.heap.size,V5.heap.size,hwd,hq.out,hG.out,hTT,λk hk=>by have:=hqb k hk;omega,λk hk=>by have:=hGb k hk;omega,⟨Zo,Zo⟩,Zo,Zo,Zo⟩);clear hBn hwd hTT;refine hK.out _ _ (⟨c0,c1,c2⟩) (λhHeld2=>?_);clear hK K hHeld;have hHeld:=hHeld2;clear hHeld2;try simp only[Act.put,waf,wae,wag,wab,wac,wad]
    refine wpAnyH_take (i:=15) (v:=?_) rfl Zk Zk Zk (λ_ _ _ h=>h) (Or.inl ⟨by rfl,?_⟩) Za ?_;rotate_left;(·intro u h;(try dsimp only at h);(try simp only[wab,wac,wad]);go_simp;try with_reducible rfl);try simp only[Act.put,waf,wae,wag,wab,wac,wad]
    refine wpAnyH_done Zk ?_ _;clear hHeld;go_wp2_with fail;go_ret;exact⟨_,rfl,hfin.out,hB.out⟩
  ·(try simp only[wab,wac,wad])
   go_simp
   try simp only[hmk2]
   try simp only[wau]
   have hBn:=((wai V1.heap.size V1).alloc (wah _) (.cells (u64V (List.replicate s 0)).toArray 40))
   have hMw:(V1.alloc (.cells (u64V (List.replicate s 0)).toArray 40)).heap[V1.heap.size]? =some (.cells (u64V (List.replicate s 0)).toArray 40 (0,0)):=heap_alloc_new V1 _;obtain⟨V2,hV2⟩:∃V,(V1.alloc (.cells (u64V (List.replicate s 0)).toArray 40))=V:=⟨_,rfl⟩
   rw[hV2] at hBn hMw;try rw[hV2]
   replace c0:=qaa hBn c0;replace c1:=qaa hBn c1;replace c2:=qaa hBn c2;replace hB:=waa (hB.out.trans (hBn.mono hB.out.size));have hs2:=wak hs1 hBn.size;have hz1:=hBn.size;replace hMh:=waa ((hBn.block _ (waj.1 hMh.out).1).trans hMh.out);obtain⟨hMwB,hhMwB⟩:∃b,V1.heap.size=b:=⟨_,rfl⟩
   rw[hhMwB] at hMw;try rw[hhMwB]
   replace hMw:=waa hMw;clear hBn;refine hK.out _ _ (⟨c0,c1,c2⟩) (λhHeld2=>?_);clear hK K hHeld;have hHeld:=hHeld2;clear hHeld2;try simp only[Act.put,waf,wae,wag,wab,wac,wad]
   refine wpAnyH_ready (rs:=[2]) Zk Zs ?_;refine AllReadyH.cons rfl (λK hK=>?_) AllReadyH.nil
   (try simp only[wab,wac,wad])
   go_simp
   refine(hfr.out _).mono ?_;rintro e V3 ⟨vF,rfl,hrow,hBn⟩;obtain⟨AF,cF,rfl,hRd⟩:=Rd.of_own hrow;replace c0:=qaa hBn c0;replace c1:=qaa hBn c1;replace c2:=qaa hBn c2;replace hB:=waa (hB.out.trans (hBn.mono hB.out.size));have hs3:=wak hs2 hBn.size;have hz2:=hBn.size;replace hMh:=waa ((hBn.block _ (waj.1 hMh.out).1).trans hMh.out);replace hMw:=waa ((hBn.block _ (waj.1 hMw.out).1).trans hMw.out);replace hRd:=waa hRd;clear hrow hBn;go_wp2_with fail;refine hK.out _ _ (⟨c0,c1,c2⟩) (λhHeld2=>?_);clear hK K hHeld;have hHeld:=hHeld2;clear hHeld2;try simp only[Act.put,waf,wae,wag,wab,wac,wad]
   refine wpAnyH_ready (rs:=[3]) Zk Zs ?_;refine AllReadyH.cons rfl (λK hK=>?_) AllReadyH.nil
   (try simp only[wab,wac,wad])
   go_simp
   refine(hof.out AF cF _ hRd.out).mono ?_;rintro e V4 ⟨p,rfl,hreg,hBn⟩;obtain⟨gs,gk,m,hq⟩:=hreg.q;have hql:=hq.lts;replace c0:=qaa hBn c0;replace c1:=qaa hBn c1;replace c2:=qaa hBn c2;replace hB:=waa (hB.out.trans (hBn.mono hB.out.size));have hs4:=wak hs3 hBn.size;have hz3:=hBn.size;replace hRd:=waa (hRd.out.below hBn);replace hMh:=waa ((hBn.block _ (waj.1 hMh.out).1).trans hMh.out);replace hMw:=waa ((hBn.block _ (waj.1 hMw.out).1).trans hMw.out);have hqb:∀k,rgF p gs gk m k->V3.heap.size<=k/\k<V4.heap.size:=by
    rintro k (e|e|e|e)<;>omega
   replace hq:=waa hq;clear hreg hBn hql hRd;go_wp2_with fail;refine hK.out _ _ (⟨c0,c1,c2⟩) (λhHeld2=>?_);clear hK K hHeld;have hHeld:=hHeld2;clear hHeld2;try simp only[Act.put,waf,wae,wag,wab,wac,wad]
   refine wpAnyH_ready (rs:=[11]) Zk Zs ?_;refine AllReadyH.cons rfl (λK hK=>?_) AllReadyH.nil
   (try simp only[wab,wac,wad])
   go_simp
   have hHd:HdsRd V4 (some ⟨hMhB,0,none⟩) s (frH s):=by have:=HdsRd.of_blk hMh.out;rwa [wa0] at this
   refine(hnw.out hMhB ⟨hMwB,0,none⟩ _ hHd (qa9 hMw.out)).mono ?_;rintro e V5 ⟨hb,FG,rfl,hHp,hFG,hBn⟩;obtain⟨G,hG,hGF⟩:=HpX.of hHp;replace c0:=qaa hBn c0;replace c1:=qaa hBn c1;replace c2:=qaa hBn c2;replace hB:=waa (hB.out.trans (hBn.mono hB.out.size));have hs5:=wak hs4 hBn.size;have hz4:=hBn.size;replace hMh:=waa ((hBn.block _ (waj.1 hMh.out).1).trans hMh.out);replace hMw:=waa ((hBn.block _ (waj.1 hMw.out).1).trans hMw.out);replace hq:=waa (hq.out.upd (Upd.of_below hBn (wah _):Upd (λ_=>False) _ _) (λ_ _ e=>e));have hGb:∀k,G k->V4.heap.size<=k/\k<V5.heap.size:=λk hk=>⟨hFG k (hGF k hk),hG.lt hk⟩
   replace hG:=waa hG;clear hHp hFG hGF hBn hHd;go_wp2_with fail;refine hK.out _ _ (⟨c0,c1,c2⟩) (λhHeld2=>?_);clear hK K hHeld;have hHeld:=hHeld2;clear hHeld2;try simp only[Act.put,waf,wae,wag,wab,wac,wad]
   refine wpAnyH_ready (rs:=[12]) Zk Zs ?_;refine AllReadyH.cons rfl (λK hK=>?_) AllReadyH.nil
   (try simp only[wab,wac,wad])
   go_simp
   refine(hlk.out _).mono ?_;rintro e V6 ⟨⟨tp,tg,rfl,htp,htg,hT⟩,hBn⟩;replace c0:=qaa hBn c0;replace c1:=qaa hBn c1;replace c2:=qaa hBn c2;replace hB:=waa (hB.out.trans (hBn.mono hB.out.size));have hs6:=wak hs5 hBn.size;have hz5:=hBn.size;replace hq:=waa (hq.out.upd (Upd.of_below hBn (wah _):Upd (λ_=>False) _ _) (λ_ _ e=>e));replace hG:=waa (hG.out.upd (Upd.of_below hBn (wah _):Upd (λ_=>False) _ _) (λ_ _ e=>e));replace hT:=waa hT;clear hBn;go_wp2_with fail;refine hK.out _ _ (⟨c0,c1,c2⟩) (λhHeld2=>?_);clear hK K hHeld;have hHeld:=hHeld2;clear hHeld2;try simp only[Act.put,waf,wae,wag,wab,wac,wad]
   refine wpAnyH_take (i:=13) (v:=?_) rfl Zk Zk Zk (λ_ _ _ h=>h) (Or.inl ⟨by rfl,?_⟩) Za ?_;rotate_left;(·intro u h;(try dsimp only at h);(try simp only[wab,wac,wad]);go_simp;try with_reducible rfl);try simp only[Act.put,waf,wae,wag,wab,wac,wad]
   refine wpAnyH_ready (rs:=[14]) Zk Zs ?_;refine AllReadyH.cons rfl (λK hK=>?_) AllReadyH.nil
   (try simp only[wab,wac,wad])
   go_simp
   have hBn:=(wai V6.heap.size V6).alloc (wah _) (.cells #[.int .i64 (s:Int),.int .i64 (L:Int),.int .i64 r,.pointer (some ⟨p,0,none⟩),.pointer (some ⟨hb,0,none⟩),.pointer (some ⟨tp,0,none⟩)] 57);have hwd:Wd (V6.alloc (.cells #[.int .i64 (s:Int),.int .i64 (L:Int),.int .i64 r,.pointer (some ⟨p,0,none⟩),.pointer (some ⟨hb,0,none⟩),.pointer (some ⟨tp,0,none⟩)] 57)) V6.heap.size (s:Int) (L:Int) r p hb tp:=heap_alloc_new V6 _;have hTT:LkR (V6.alloc (.cells #[.int .i64 (s:Int),.int .i64 (L:Int),.int .i64 r,.pointer (some ⟨p,0,none⟩),.pointer (some ⟨hb,0,none⟩),.pointer (some ⟨tp,0,none⟩)] 57)) tp tg 2 [-1,-1]:=hT.out.below hBn;replace c0:=qaa hBn c0;replace c1:=qaa hBn c1;replace c2:=qaa hBn c2;replace hB:=waa (hB.out.trans (hBn.mono hB.out.size));have hs7:=wak hs6 hBn.size;have hz6:=hBn.size;replace hq:=waa (hq.out.upd (Upd.of_below hBn (wah _):Upd (λ_=>False) _ _) (λ_ _ e=>e));replace hG:=waa (hG.out.upd (Upd.of_below hBn (wah _):Upd (λ_=>False) _ _) (λ_ _ e=>e));have hfin:=waa (show qc8 (V6.alloc (.cells #[.int .i64 (s:Int),.int .i64 (L:Int),.int .i64 r,.pointer (some ⟨p,0,none⟩),.pointer (some ⟨hb,0,none⟩),.pointer (some ⟨tp,0,none⟩)] 57)) w.heap.size V6.heap.size s L r n S from⟨p,gs,gk,m,hb,tp,tg,G,_,_,V4.heap.size,V5.heap.size,hwd,hq.out,hG.out,hTT,λk hk=>by have:=hqb k hk;omega,λk hk=>by have:=hGb k hk;omega,⟨Zo,Zo⟩,Zo,Zo,Zo⟩);clear hBn hwd hTT;refine hK.out _ _ (⟨c0,c1,c2⟩) (λhHeld2=>?_);clear hK K hHeld;have hHeld:=hHeld2;clear hHeld2;try simp only[Act.put,waf,wae,wag,wab,wac,wad]
   refine wpAnyH_take (i:=15) (v:=?_) rfl Zk Zk Zk (λ_ _ _ h=>h) (Or.inl ⟨by rfl,?_⟩) Za ?_;rotate_left;(·intro u h;(try dsimp only at h);(try simp only[wab,wac,wad]);go_simp;try with_reducible rfl);try simp only[Act.put,waf,wae,wag,wab,wac,wad]
   refine wpAnyH_done Zk ?_ _;clear hHeld;go_wp2_with fail;go_ret;exact⟨_,rfl,hfin.out,hB.out⟩
 ·(try simp only[wab,wac,wad])
  go_simp
  try simp only[hmk2]
  try simp only[wau]
  have hBn:=((wai W1.heap.size W1).alloc (wah _) (.cells (u64V (List.replicate s 0)).toArray 40)).drew;have hMw:(W1.alloc (.cells (u64V (List.replicate s 0)).toArray 40)).drew.heap[W1.heap.size]? =some (.cells (u64V (List.replicate s 0)).toArray 40 (0,0)):=heap_alloc_new W1 _;obtain⟨V1,hV1⟩:∃V,(W1.alloc (.cells (u64V (List.replicate s 0)).toArray 40)).drew=V:=⟨_,rfl⟩
  rw[hV1] at hBn hMw;try rw[hV1]
  replace c0:=qaa hBn c0;replace c1:=qaa hBn c1;replace c2:=qaa hBn c2;replace hB:=waa (hB.out.trans (hBn.mono hB.out.size));have hs1:=wak hs0 hBn.size;have hz0:=hBn.size;obtain⟨hMwB,hhMwB⟩:∃b,W1.heap.size=b:=⟨_,rfl⟩
  rw[hhMwB] at hMw;try rw[hhMwB]
  replace hMw:=waa hMw;clear hBn;refine hK.out _ _ (⟨c0,c1,c2⟩) (λhHeld2=>?_);clear hK K hHeld;have hHeld:=hHeld2;clear hHeld2;try simp only[Act.put,waf,wae,wag,wab,wac,wad]
  refine wpAnyH_ready (rs:=[2,7]) Zk Zs ?_;refine AllReadyH.cons rfl (λK hK=>?_) (AllReadyH.cons rfl (λK hK=>?_) AllReadyH.nil)
  ·(try simp only[wab,wac,wad])
   go_simp
   refine(hfr.out _).mono ?_;rintro e V2 ⟨vF,rfl,hrow,hBn⟩;obtain⟨AF,cF,rfl,hRd⟩:=Rd.of_own hrow;replace c0:=qaa hBn c0;replace c1:=qaa hBn c1;replace c2:=qaa hBn c2;replace hB:=waa (hB.out.trans (hBn.mono hB.out.size));have hs2:=wak hs1 hBn.size;have hz1:=hBn.size;replace hMw:=waa ((hBn.block _ (waj.1 hMw.out).1).trans hMw.out);replace hRd:=waa hRd;clear hrow hBn;go_wp2_with fail;refine hK.out _ _ (⟨c0,c1,c2⟩) (λhHeld2=>?_);clear hK K hHeld;have hHeld:=hHeld2;clear hHeld2;try simp only[Act.put,waf,wae,wag,wab,wac,wad]
   refine wpAnyH_ready (rs:=[3,7]) Zk Zs ?_;refine AllReadyH.cons rfl (λK hK=>?_) (AllReadyH.cons rfl (λK hK=>?_) AllReadyH.nil)
   ·(try simp only[wab,wac,wad])
    go_simp
    refine(hof.out AF cF _ hRd.out).mono ?_;rintro e V3 ⟨p,rfl,hreg,hBn⟩;obtain⟨gs,gk,m,hq⟩:=hreg.q;have hql:=hq.lts;replace c0:=qaa hBn c0;replace c1:=qaa hBn c1;replace c2:=qaa hBn c2;replace hB:=waa (hB.out.trans (hBn.mono hB.out.size));have hs3:=wak hs2 hBn.size;have hz2:=hBn.size;replace hRd:=waa (hRd.out.below hBn);replace hMw:=waa ((hBn.block _ (waj.1 hMw.out).1).trans hMw.out);have hqb:∀k,rgF p gs gk m k->V2.heap.size<=k/\k<V3.heap.size:=by
     rintro k (e|e|e|e)<;>omega
    replace hq:=waa hq;clear hreg hBn hql hRd;go_wp2_with fail;refine hK.out _ _ (⟨c0,c1,c2⟩) (λhHeld2=>?_);clear hK K hHeld;have hHeld:=hHeld2;clear hHeld2;try simp only[Act.put,waf,wae,wag,wab,wac,wad]
    refine wpAnyH_ready (rs:=[7]) Zk Zs ?_;refine AllReadyH.cons rfl (λK hK=>?_) AllReadyH.nil
    (try simp only[wab,wac,wad])
    go_simp
    try simp only[hmk1]
    try simp only[wau]
    have hBn:=((wai V3.heap.size V3).alloc (wah _) (.cells (hV (List.replicate s (0,0,0))).toArray 134))
    have hMh:(V3.alloc (.cells (hV (List.replicate s (0,0,0))).toArray 134)).heap[V3.heap.size]? =some (.cells (hV (List.replicate s (0,0,0))).toArray 134 (0,0)):=heap_alloc_new V3 _;obtain⟨V4,hV4⟩:∃V,(V3.alloc (.cells (hV (List.replicate s (0,0,0))).toArray 134))=V:=⟨_,rfl⟩
    rw[hV4] at hBn hMh;try rw[hV4]
    replace c0:=qaa hBn c0;replace c1:=qaa hBn c1;replace c2:=qaa hBn c2;replace hB:=waa (hB.out.trans (hBn.mono hB.out.size));have hs4:=wak hs3 hBn.size;have hz3:=hBn.size;replace hMw:=waa ((hBn.block _ (waj.1 hMw.out).1).trans hMw.out);replace hq:=waa (hq.out.upd (Upd.of_below hBn (wah _):Upd (λ_=>False) _ _) (λ_ _ e=>e));obtain⟨hMhB,hhMhB⟩:∃b,V3.heap.size=b:=⟨_,rfl⟩
    rw[hhMhB] at hMh;try rw[hhMhB]
    replace hMh:=waa hMh;clear hBn;refine hK.out _ _ (⟨c0,c1,c2⟩) (λhHeld2=>?_);clear hK K hHeld;have hHeld:=hHeld2;clear hHeld2;try simp only[Act.put,waf,wae,wag,wab,wac,wad]
    refine wpAnyH_ready (rs:=[11]) Zk Zs ?_;refine AllReadyH.cons rfl (λK hK=>?_) AllReadyH.nil
    (try simp only[wab,wac,wad])
    go_simp
    have hHd:HdsRd V4 (some ⟨hMhB,0,none⟩) s (frH s):=by have:=HdsRd.of_blk hMh.out;rwa [wa0] at this
    refine(hnw.out hMhB ⟨hMwB,0,none⟩ _ hHd (qa9 hMw.out)).mono ?_;rintro e V5 ⟨hb,FG,rfl,hHp,hFG,hBn⟩;obtain⟨G,hG,hGF⟩:=HpX.of hHp;replace c0:=qaa hBn c0;replace c1:=qaa hBn c1;replace c2:=qaa hBn c2;replace hB:=waa (hB.out.trans (hBn.mono hB.out.size));have hs5:=wak hs4 hBn.size;have hz4:=hBn.size;replace hMh:=waa ((hBn.block _ (waj.1 hMh.out).1).trans hMh.out);replace hMw:=waa ((hBn.block _ (waj.1 hMw.out).1).trans hMw.out);replace hq:=waa (hq.out.upd (Upd.of_below hBn (wah _):Upd (λ_=>False) _ _) (λ_ _ e=>e));have hGb:∀k,G k->V4.heap.size<=k/\k<V5.heap.size:=λk hk=>⟨hFG k (hGF k hk),hG.lt hk⟩
    replace hG:=waa hG;clear hHp hFG hGF hBn hHd;go_wp2_with fail;refine hK.out _ _ (⟨c0,c1,c2⟩) (λhHeld2=>?_);clear hK K hHeld;have hHeld:=hHeld2;clear hHeld2;try simp only[Act.put,waf,wae,wag,wab,wac,wad]
    refine wpAnyH_ready (rs:=[12]) Zk Zs ?_;refine AllReadyH.cons rfl (λK hK=>?_) AllReadyH.nil
    (try simp only[wab,wac,wad])
    go_simp
    refine(hlk.out _).mono ?_;rintro e V6 ⟨⟨tp,tg,rfl,htp,htg,hT⟩,hBn⟩;replace c0:=qaa hBn c0;replace c1:=qaa hBn c1;replace c2:=qaa hBn c2;replace hB:=waa (hB.out.trans (hBn.mono hB.out.size));have hs6:=wak hs5 hBn.size;have hz5:=hBn.size;replace hq:=waa (hq.out.upd (Upd.of_below hBn (wah _):Upd (λ_=>False) _ _) (λ_ _ e=>e));replace hG:=waa (hG.out.upd (Upd.of_below hBn (wah _):Upd (λ_=>False) _ _) (λ_ _ e=>e));replace hT:=waa hT;clear hBn;go_wp2_with fail;refine hK.out _ _ (⟨c0,c1,c2⟩) (λhHeld2=>?_);clear hK K hHeld;have hHeld:=hHeld2;clear hHeld2;try simp only[Act.put,waf,wae,wag,wab,wac,wad]
    refine wpAnyH_take (i:=13) (v:=?_) rfl Zk Zk Zk (λ_ _ _ h=>h) (Or.inl ⟨by rfl,?_⟩) Za ?_;rotate_left;(·intro u h;(try dsimp only at h);(try simp only[wab,wac,wad]);go_simp;try with_reducible rfl);try simp only[Act.put,waf,wae,wag,wab,wac,wad]
    refine wpAnyH_ready (rs:=[14]) Zk Zs ?_;refine AllReadyH.cons rfl (λK hK=>?_) AllReadyH.nil
    (try simp only[wab,wac,wad])
    go_simp
    have hBn:=(wai V6.heap.size V6).alloc (wah _) (.cells #[.int .i64 (s:Int),.int .i64 (L:Int),.int .i64 r,.pointer (some ⟨p,0,none⟩),.pointer (some ⟨hb,0,none⟩),.pointer (some ⟨tp,0,none⟩)] 57);have hwd:Wd (V6.alloc (.cells #[.int .i64 (s:Int),.int .i64 (L:Int),.int .i64 r,.pointer (some ⟨p,0,none⟩),.pointer (some ⟨hb,0,none⟩),.pointer (some ⟨tp,0,none⟩)] 57)) V6.heap.size (s:Int) (L:Int) r p hb tp:=heap_alloc_new V6 _;have hTT:LkR (V6.alloc (.cells #[.int .i64 (s:Int),.int .i64 (L:Int),.int .i64 r,.pointer (some ⟨p,0,none⟩),.pointer (some ⟨hb,0,none⟩),.pointer (some ⟨tp,0,none⟩)] 57)) tp tg 2 [-1,-1]:=hT.out.below hBn;replace c0:=qaa hBn c0;replace c1:=qaa hBn c1;replace c2:=qaa hBn c2;replace hB:=waa (hB.out.trans (hBn.mono hB.out.size));have hs7:=wak hs6 hBn.size;have hz6:=hBn.size;replace hq:=waa (hq.out.upd (Upd.of_below hBn (wah _):Upd (λ_=>False) _ _) (λ_ _ e=>e));replace hG:=waa (hG.out.upd (Upd.of_below hBn (wah _):Upd (λ_=>False) _ _) (λ_ _ e=>e));have hfin:=waa (show qc8 (V6.alloc (.cells #[.int .i64 (s:Int),.int .i64 (L:Int),.int .i64 r,.pointer (some ⟨p,0,none⟩),.pointer (some ⟨hb,0,none⟩),.pointer (some ⟨tp,0,none⟩)] 57)) w.heap.size V6.heap.size s L r n S from⟨p,gs,gk,m,hb,tp,tg,G,_,_,V3.heap.size,V5.heap.size,hwd,hq.out,hG.out,hTT,λk hk=>by have:=hqb k hk;omega,λk hk=>by have:=hGb k hk;omega,⟨Zo,Zo⟩,Zo,Zo,Zo⟩);clear hBn hwd hTT;refine hK.out _ _ (⟨c0,c1,c2⟩) (λhHeld2=>?_);clear hK K hHeld;have hHeld:=hHeld2;clear hHeld2;try simp only[Act.put,waf,wae,wag,wab,wac,wad]
    refine wpAnyH_take (i:=15) (v:=?_) rfl Zk Zk Zk (λ_ _ _ h=>h) (Or.inl ⟨by rfl,?_⟩) Za ?_;rotate_left;(·intro u h;(try dsimp only at h);(try simp only[wab,wac,wad]);go_simp;try with_reducible rfl);try simp only[Act.put,waf,wae,wag,wab,wac,wad]
    refine wpAnyH_done Zk ?_ _;clear hHeld;go_wp2_with fail;go_ret;exact⟨_,rfl,hfin.out,hB.out⟩
   ·(try simp only[wab,wac,wad])
    go_simp
    try simp only[hmk1]
    try simp only[wau]
    have hBn:=((wai V2.heap.size V2).alloc (wah _) (.cells (hV (List.replicate s (0,0,0))).toArray 134))
    have hMh:(V2.alloc (.cells (hV (List.replicate s (0,0,0))).toArray 134)).heap[V2.heap.size]? =some (.cells (hV (List.replicate s (0,0,0))).toArray 134 (0,0)):=heap_alloc_new V2 _;obtain⟨V3,hV3⟩:∃V,(V2.alloc (.cells (hV (List.replicate s (0,0,0))).toArray 134))=V:=⟨_,rfl⟩
    rw[hV3] at hBn hMh;try rw[hV3]
    replace c0:=qaa hBn c0;replace c1:=qaa hBn c1;replace c2:=qaa hBn c2;replace hB:=waa (hB.out.trans (hBn.mono hB.out.size));have hs3:=wak hs2 hBn.size;have hz2:=hBn.size;replace hRd:=waa (hRd.out.below hBn);replace hMw:=waa ((hBn.block _ (waj.1 hMw.out).1).trans hMw.out);obtain⟨hMhB,hhMhB⟩:∃b,V2.heap.size=b:=⟨_,rfl⟩
    rw[hhMhB] at hMh;try rw[hhMhB]
    replace hMh:=waa hMh;clear hBn;refine hK.out _ _ (⟨c0,c1,c2⟩) (λhHeld2=>?_);clear hK K hHeld;have hHeld:=hHeld2;clear hHeld2;try simp only[Act.put,waf,wae,wag,wab,wac,wad]
    refine wpAnyH_ready (rs:=[3]) Zk Zs ?_;refine AllReadyH.cons rfl (λK hK=>?_) AllReadyH.nil
    (try simp only[wab,wac,wad])
    go_simp
    refine(hof.out AF cF _ hRd.out).mono ?_;rintro e V4 ⟨p,rfl,hreg,hBn⟩;obtain⟨gs,gk,m,hq⟩:=hreg.q;have hql:=hq.lts;replace c0:=qaa hBn c0;replace c1:=qaa hBn c1;replace c2:=qaa hBn c2;replace hB:=waa (hB.out.trans (hBn.mono hB.out.size));have hs4:=wak hs3 hBn.size;have hz3:=hBn.size;replace hRd:=waa (hRd.out.below hBn);replace hMh:=waa ((hBn.block _ (waj.1 hMh.out).1).trans hMh.out);replace hMw:=waa ((hBn.block _ (waj.1 hMw.out).1).trans hMw.out);have hqb:∀k,rgF p gs gk m k->V3.heap.size<=k/\k<V4.heap.size:=by
     rintro k (e|e|e|e)<;>omega
    replace hq:=waa hq;clear hreg hBn hql hRd;go_wp2_with fail;refine hK.out _ _ (⟨c0,c1,c2⟩) (λhHeld2=>?_);clear hK K hHeld;have hHeld:=hHeld2;clear hHeld2;try simp only[Act.put,waf,wae,wag,wab,wac,wad]
    refine wpAnyH_ready (rs:=[11]) Zk Zs ?_;refine AllReadyH.cons rfl (λK hK=>?_) AllReadyH.nil
    (try simp only[wab,wac,wad])
    go_simp
    have hHd:HdsRd V4 (some ⟨hMhB,0,none⟩) s (frH s):=by have:=HdsRd.of_blk hMh.out;rwa [wa0] at this
    refine(hnw.out hMhB ⟨hMwB,0,none⟩ _ hHd (qa9 hMw.out)).mono ?_;rintro e V5 ⟨hb,FG,rfl,hHp,hFG,hBn⟩;obtain⟨G,hG,hGF⟩:=HpX.of hHp;replace c0:=qaa hBn c0;replace c1:=qaa hBn c1;replace c2:=qaa hBn c2;replace hB:=waa (hB.out.trans (hBn.mono hB.out.size));have hs5:=wak hs4 hBn.size;have hz4:=hBn.size;replace hMh:=waa ((hBn.block _ (waj.1 hMh.out).1).trans hMh.out);replace hMw:=waa ((hBn.block _ (waj.1 hMw.out).1).trans hMw.out);replace hq:=waa (hq.out.upd (Upd.of_below hBn (wah _):Upd (λ_=>False) _ _) (λ_ _ e=>e));have hGb:∀k,G k->V4.heap.size<=k/\k<V5.heap.size:=λk hk=>⟨hFG k (hGF k hk),hG.lt hk⟩
    replace hG:=waa hG;clear hHp hFG hGF hBn hHd;go_wp2_with fail;refine hK.out _ _ (⟨c0,c1,c2⟩) (λhHeld2=>?_);clear hK K hHeld;have hHeld:=hHeld2;clear hHeld2;try simp only[Act.put,waf,wae,wag,wab,wac,wad]
    refine wpAnyH_ready (rs:=[12]) Zk Zs ?_;refine AllReadyH.cons rfl (λK hK=>?_) AllReadyH.nil
    (try simp only[wab,wac,wad])
    go_simp
    refine(hlk.out _).mono ?_;rintro e V6 ⟨⟨tp,tg,rfl,htp,htg,hT⟩,hBn⟩;replace c0:=qaa hBn c0;replace c1:=qaa hBn c1;replace c2:=qaa hBn c2;replace hB:=waa (hB.out.trans (hBn.mono hB.out.size));have hs6:=wak hs5 hBn.size;have hz5:=hBn.size;replace hq:=waa (hq.out.upd (Upd.of_below hBn (wah _):Upd (λ_=>False) _ _) (λ_ _ e=>e));replace hG:=waa (hG.out.upd (Upd.of_below hBn (wah _):Upd (λ_=>False) _ _) (λ_ _ e=>e));replace hT:=waa hT;clear hBn;go_wp2_with fail;refine hK.out _ _ (⟨c0,c1,c2⟩) (λhHeld2=>?_);clear hK K hHeld;have hHeld:=hHeld2;clear hHeld2;try simp only[Act.put,waf,wae,wag,wab,wac,wad]
    refine wpAnyH_take (i:=13) (v:=?_) rfl Zk Zk Zk (λ_ _ _ h=>h) (Or.inl ⟨by rfl,?_⟩) Za ?_;rotate_left;(·intro u h;(try dsimp only at h);(try simp only[wab,wac,wad]);go_simp;try with_reducible rfl);try simp only[Act.put,waf,wae,wag,wab,wac,wad]
    refine wpAnyH_ready (rs:=[14]) Zk Zs ?_;refine AllReadyH.cons rfl (λK hK=>?_) AllReadyH.nil
    (try simp only[wab,wac,wad])
    go_simp
    have hBn:=(wai V6.heap.size V6).alloc (wah _) (.cells #[.int .i64 (s:Int),.int .i64 (L:Int),.int .i64 r,.pointer (some ⟨p,0,none⟩),.pointer (some ⟨hb,0,none⟩),.pointer (some ⟨tp,0,none⟩)] 57);have hwd:Wd (V6.alloc (.cells #[.int .i64 (s:Int),.int .i64 (L:Int),.int .i64 r,.pointer (some ⟨p,0,none⟩),.pointer (some ⟨hb,0,none⟩),.pointer (some ⟨tp,0,none⟩)] 57)) V6.heap.size (s:Int) (L:Int) r p hb tp:=heap_alloc_new V6 _;have hTT:LkR (V6.alloc (.cells #[.int .i64 (s:Int),.int .i64 (L:Int),.int .i64 r,.pointer (some ⟨p,0,none⟩),.pointer (some ⟨hb,0,none⟩),.pointer (some ⟨tp,0,none⟩)] 57)) tp tg 2 [-1,-1]:=hT.out.below hBn;replace c0:=qaa hBn c0;replace c1:=qaa hBn c1;replace c2:=qaa hBn c2;replace hB:=waa (hB.out.trans (hBn.mono hB.out.size));have hs7:=wak hs6 hBn.size;have hz6:=hBn.size;replace hq:=waa (hq.out.upd (Upd.of_below hBn (wah _):Upd (λ_=>False) _ _) (λ_ _ e=>e));replace hG:=waa (hG.out.upd (Upd.of_below hBn (wah _):Upd (λ_=>False) _ _) (λ_ _ e=>e));have hfin:=waa (show qc8 (V6.alloc (.cells #[.int .i64 (s:Int),.int .i64 (L:Int),.int .i64 r,.pointer (some ⟨p,0,none⟩),.pointer (some ⟨hb,0,none⟩),.pointer (some ⟨tp,0,none⟩)] 57)) w.heap.size V6.heap.size s L r n S from⟨p,gs,gk,m,hb,tp,tg,G,_,_,V4.heap.size,V5.heap.size,hwd,hq.out,hG.out,hTT,λk hk=>by have:=hqb k hk;omega,λk hk=>by have:=hGb k hk;omega,⟨Zo,Zo⟩,Zo,Zo,Zo⟩);clear hBn hwd hTT;refine hK.out _ _ (⟨c0,c1,c2⟩) (λhHeld2=>?_);clear hK K hHeld;have hHeld:=hHeld2;clear hHeld2;try simp only[Act.put,waf,wae,wag,wab,wac,wad]
    refine wpAnyH_take (i:=15) (v:=?_) rfl Zk Zk Zk (λ_ _ _ h=>h) (Or.inl ⟨by rfl,?_⟩) Za ?_;rotate_left;(·intro u h;(try dsimp only at h);(try simp only[wab,wac,wad]);go_simp;try with_reducible rfl);try simp only[Act.put,waf,wae,wag,wab,wac,wad]
    refine wpAnyH_done Zk ?_ _;clear hHeld;go_wp2_with fail;go_ret;exact⟨_,rfl,hfin.out,hB.out⟩
  ·(try simp only[wab,wac,wad])
   go_simp
   try simp only[hmk1]
   try simp only[wau]
   have hBn:=((wai V1.heap.size V1).alloc (wah _) (.cells (hV (List.replicate s (0,0,0))).toArray 134))
   have hMh:(V1.alloc (.cells (hV (List.replicate s (0,0,0))).toArray 134)).heap[V1.heap.size]? =some (.cells (hV (List.replicate s (0,0,0))).toArray 134 (0,0)):=heap_alloc_new V1 _;obtain⟨V2,hV2⟩:∃V,(V1.alloc (.cells (hV (List.replicate s (0,0,0))).toArray 134))=V:=⟨_,rfl⟩
   rw[hV2] at hBn hMh;try rw[hV2]
   replace c0:=qaa hBn c0;replace c1:=qaa hBn c1;replace c2:=qaa hBn c2;replace hB:=waa (hB.out.trans (hBn.mono hB.out.size));have hs2:=wak hs1 hBn.size;have hz1:=hBn.size;replace hMw:=waa ((hBn.block _ (waj.1 hMw.out).1).trans hMw.out);obtain⟨hMhB,hhMhB⟩:∃b,V1.heap.size=b:=⟨_,rfl⟩
   rw[hhMhB] at hMh;try rw[hhMhB]
   replace hMh:=waa hMh;clear hBn;refine hK.out _ _ (⟨c0,c1,c2⟩) (λhHeld2=>?_);clear hK K hHeld;have hHeld:=hHeld2;clear hHeld2;try simp only[Act.put,waf,wae,wag,wab,wac,wad]
   refine wpAnyH_ready (rs:=[2]) Zk Zs ?_;refine AllReadyH.cons rfl (λK hK=>?_) AllReadyH.nil
   (try simp only[wab,wac,wad])
   go_simp
   refine(hfr.out _).mono ?_;rintro e V3 ⟨vF,rfl,hrow,hBn⟩;obtain⟨AF,cF,rfl,hRd⟩:=Rd.of_own hrow;replace c0:=qaa hBn c0;replace c1:=qaa hBn c1;replace c2:=qaa hBn c2;replace hB:=waa (hB.out.trans (hBn.mono hB.out.size));have hs3:=wak hs2 hBn.size;have hz2:=hBn.size;replace hMh:=waa ((hBn.block _ (waj.1 hMh.out).1).trans hMh.out);replace hMw:=waa ((hBn.block _ (waj.1 hMw.out).1).trans hMw.out);replace hRd:=waa hRd;clear hrow hBn;go_wp2_with fail;refine hK.out _ _ (⟨c0,c1,c2⟩) (λhHeld2=>?_);clear hK K hHeld;have hHeld:=hHeld2;clear hHeld2;try simp only[Act.put,waf,wae,wag,wab,wac,wad]
   refine wpAnyH_ready (rs:=[3]) Zk Zs ?_;refine AllReadyH.cons rfl (λK hK=>?_) AllReadyH.nil
   (try simp only[wab,wac,wad])
   go_simp
   refine(hof.out AF cF _ hRd.out).mono ?_;rintro e V4 ⟨p,rfl,hreg,hBn⟩;obtain⟨gs,gk,m,hq⟩:=hreg.q;have hql:=hq.lts;replace c0:=qaa hBn c0;replace c1:=qaa hBn c1;replace c2:=qaa hBn c2;replace hB:=waa (hB.out.trans (hBn.mono hB.out.size));have hs4:=wak hs3 hBn.size;have hz3:=hBn.size;replace hRd:=waa (hRd.out.below hBn);replace hMh:=waa ((hBn.block _ (waj.1 hMh.out).1).trans hMh.out);replace hMw:=waa ((hBn.block _ (waj.1 hMw.out).1).trans hMw.out);have hqb:∀k,rgF p gs gk m k->V3.heap.size<=k/\k<V4.heap.size:=by
    rintro k (e|e|e|e)<;>omega
   replace hq:=waa hq;clear hreg hBn hql hRd;go_wp2_with fail;refine hK.out _ _ (⟨c0,c1,c2⟩) (λhHeld2=>?_);clear hK K hHeld;have hHeld:=hHeld2;clear hHeld2;try simp only[Act.put,waf,wae,wag,wab,wac,wad]
   refine wpAnyH_ready (rs:=[11]) Zk Zs ?_;refine AllReadyH.cons rfl (λK hK=>?_) AllReadyH.nil
   (try simp only[wab,wac,wad])
   go_simp
   have hHd:HdsRd V4 (some ⟨hMhB,0,none⟩) s (frH s):=by have:=HdsRd.of_blk hMh.out;rwa [wa0] at this
   refine(hnw.out hMhB ⟨hMwB,0,none⟩ _ hHd (qa9 hMw.out)).mono ?_;rintro e V5 ⟨hb,FG,rfl,hHp,hFG,hBn⟩;obtain⟨G,hG,hGF⟩:=HpX.of hHp;replace c0:=qaa hBn c0;replace c1:=qaa hBn c1;replace c2:=qaa hBn c2;replace hB:=waa (hB.out.trans (hBn.mono hB.out.size));have hs5:=wak hs4 hBn.size;have hz4:=hBn.size;replace hMh:=waa ((hBn.block _ (waj.1 hMh.out).1).trans hMh.out);replace hMw:=waa ((hBn.block _ (waj.1 hMw.out).1).trans hMw.out);replace hq:=waa (hq.out.upd (Upd.of_below hBn (wah _):Upd (λ_=>False) _ _) (λ_ _ e=>e));have hGb:∀k,G k->V4.heap.size<=k/\k<V5.heap.size:=λk hk=>⟨hFG k (hGF k hk),hG.lt hk⟩
   replace hG:=waa hG;clear hHp hFG hGF hBn hHd;go_wp2_with fail;refine hK.out _ _ (⟨c0,c1,c2⟩) (λhHeld2=>?_);clear hK K hHeld;have hHeld:=hHeld2;clear hHeld2;try simp only[Act.put,waf,wae,wag,wab,wac,wad]
   refine wpAnyH_ready (rs:=[12]) Zk Zs ?_;refine AllReadyH.cons rfl (λK hK=>?_) AllReadyH.nil
   (try simp only[wab,wac,wad])
   go_simp
   refine(hlk.out _).mono ?_;rintro e V6 ⟨⟨tp,tg,rfl,htp,htg,hT⟩,hBn⟩;replace c0:=qaa hBn c0;replace c1:=qaa hBn c1;replace c2:=qaa hBn c2;replace hB:=waa (hB.out.trans (hBn.mono hB.out.size));have hs6:=wak hs5 hBn.size;have hz5:=hBn.size;replace hq:=waa (hq.out.upd (Upd.of_below hBn (wah _):Upd (λ_=>False) _ _) (λ_ _ e=>e));replace hG:=waa (hG.out.upd (Upd.of_below hBn (wah _):Upd (λ_=>False) _ _) (λ_ _ e=>e));replace hT:=waa hT;clear hBn;go_wp2_with fail;refine hK.out _ _ (⟨c0,c1,c2⟩) (λhHeld2=>?_);clear hK K hHeld;have hHeld:=hHeld2;clear hHeld2;try simp only[Act.put,waf,wae,wag,wab,wac,wad]
   refine wpAnyH_take (i:=13) (v:=?_) rfl Zk Zk Zk (λ_ _ _ h=>h) (Or.inl ⟨by rfl,?_⟩) Za ?_;rotate_left;(·intro u h;(try dsimp only at h);(try simp only[wab,wac,wad]);go_simp;try with_reducible rfl);try simp only[Act.put,waf,wae,wag,wab,wac,wad]
   refine wpAnyH_ready (rs:=[14]) Zk Zs ?_;refine AllReadyH.cons rfl (λK hK=>?_) AllReadyH.nil
   (try simp only[wab,wac,wad])
   go_simp
   have hBn:=(wai V6.heap.size V6).alloc (wah _) (.cells #[.int .i64 (s:Int),.int .i64 (L:Int),.int .i64 r,.pointer (some ⟨p,0,none⟩),.pointer (some ⟨hb,0,none⟩),.pointer (some ⟨tp,0,none⟩)] 57);have hwd:Wd (V6.alloc (.cells #[.int .i64 (s:Int),.int .i64 (L:Int),.int .i64 r,.pointer (some ⟨p,0,none⟩),.pointer (some ⟨hb,0,none⟩),.pointer (some ⟨tp,0,none⟩)] 57)) V6.heap.size (s:Int) (L:Int) r p hb tp:=heap_alloc_new V6 _;have hTT:LkR (V6.alloc (.cells #[.int .i64 (s:Int),.int .i64 (L:Int),.int .i64 r,.pointer (some ⟨p,0,none⟩),.pointer (some ⟨hb,0,none⟩),.pointer (some ⟨tp,0,none⟩)] 57)) tp tg 2 [-1,-1]:=hT.out.below hBn;replace c0:=qaa hBn c0;replace c1:=qaa hBn c1;replace c2:=qaa hBn c2;replace hB:=waa (hB.out.trans (hBn.mono hB.out.size));have hs7:=wak hs6 hBn.size;have hz6:=hBn.size;replace hq:=waa (hq.out.upd (Upd.of_below hBn (wah _):Upd (λ_=>False) _ _) (λ_ _ e=>e));replace hG:=waa (hG.out.upd (Upd.of_below hBn (wah _):Upd (λ_=>False) _ _) (λ_ _ e=>e));have hfin:=waa (show qc8 (V6.alloc (.cells #[.int .i64 (s:Int),.int .i64 (L:Int),.int .i64 r,.pointer (some ⟨p,0,none⟩),.pointer (some ⟨hb,0,none⟩),.pointer (some ⟨tp,0,none⟩)] 57)) w.heap.size V6.heap.size s L r n S from⟨p,gs,gk,m,hb,tp,tg,G,_,_,V4.heap.size,V5.heap.size,hwd,hq.out,hG.out,hTT,λk hk=>by have:=hqb k hk;omega,λk hk=>by have:=hGb k hk;omega,⟨Zo,Zo⟩,Zo,Zo,Zo⟩);clear hBn hwd hTT;refine hK.out _ _ (⟨c0,c1,c2⟩) (λhHeld2=>?_);clear hK K hHeld;have hHeld:=hHeld2;clear hHeld2;try simp only[Act.put,waf,wae,wag,wab,wac,wad]
   refine wpAnyH_take (i:=15) (v:=?_) rfl Zk Zk Zk (λ_ _ _ h=>h) (Or.inl ⟨by rfl,?_⟩) Za ?_;rotate_left;(·intro u h;(try dsimp only at h);(try simp only[wab,wac,wad]);go_simp;try with_reducible rfl);try simp only[Act.put,waf,wae,wag,wab,wac,wad]
   refine wpAnyH_done Zk ?_ _;clear hHeld;go_wp2_with fail;go_ret;exact⟨_,rfl,hfin.out,hB.out⟩
end Go.Proofs.YtgjhkafggagniaaGreat
