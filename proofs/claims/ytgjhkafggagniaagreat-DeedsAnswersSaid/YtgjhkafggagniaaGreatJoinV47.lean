/- Parts. No condition. -/
import Derived.Test.YtgjhkafggagniaaGreatJoinV27
set_option linter.unusedVariables false
set_option maxRecDepth 100000
set_option maxHeartbeats 8000000
namespace Go.Proofs.YtgjhkafggagniaaGreat
open Go Go.RowKit
theorem Hp.made{W:World}{base p gh gc hcap s L:Nat}{r:Int}{hs:List (Int×Int×Int)}(hb:W.heap[p]? =some (.cells (hpC (λ_=> .slice none 0 0) (s:Int) (L:Int) r (.slice (some ⟨gh,0,none⟩) s hcap) (.slice (some ⟨gc,0,none⟩) L L)) 139 (0,0)))(hh:W.ownsRow base 134 3 (.slice (some ⟨gh,0,none⟩) s hcap) s (hV hs))(hc:W.heap[gc]? =some (.cells (caC (λ_=> .slice none 0 0) L) 137 (0,0)))(h1:base<=p)(h2:base<=gc)(hd:(1<=s/\s<=16)/\1<=L/\L<=4):
  ∃F:Nat->Prop,Hp W base p s L r hs (λ_=>[]) F/\∀k,F k->base<=k:=by
 have hp:=(waj.1 hb).1;refine⟨λk=>k=p\/k=gh\/k=gc,?_,λk hk=>by
  rcases hk with rfl|rfl|rfl
  ·exact h1
  ·exact(hh.lt k rfl).1
  ·exact h2⟩
 refine⟨gh,gc,hcap,L,λ_=> .slice none 0 0,hb,hh,hc,λj _=>RowI.nil _ _,λi j _ _ _ g e=>(by cases e),⟨h1,h2,Zo⟩,hd,⟨.inl rfl,.inr (.inl rfl),.inr (.inr rfl),λj _ g e=>(by cases e)⟩,λk hk=>?_⟩;rcases hk with rfl|rfl|rfl
 ·exact hp
 ·exact(hh.lt k rfl).2
 ·exact(waj.1 hc).1
def frH(s:Nat):List (Int×Int×Int):=List.replicate s (0,0,0)
theorem q1s(s:Nat):(frH s).any nhB=false:=by
 unfold frH;rw[List.any_eq_false];intro x hx;rw[List.eq_of_mem_replicate hx];decide
theorem qz9{s L:Nat}{r:Int}(i:Int):blkL s L r (frH s) i=[]:=by
 unfold blkL;have h:(hdOf (frH s) i).1=0:=by
  unfold hdOf;split
  ·unfold frH
   rw[wb8];split<;>rfl
  ·rfl
 rw[h,if_neg Zd]
theorem qva{s L:Nat}{r:Int}{g cap:Nat}{B:Option Addr}{mcap:Nat}{ms:List Nat}(w:World)(hm:mayB (s:Int) (L:Int) r=true)(hdim:(1<=s/\s<=16)/\1<=L/\L<=4)(hR:HdsRd w (some ⟨g,0,none⟩) s (frH s))(hM:Rd w B s (u64V ms)):
  Calls Tryz.prog 35 #[.agg #[.int .i64 (s:Int),.int .i64 (L:Int),.int .i64 r],.slice (some ⟨g,0,none⟩) s cap,.slice B s mcap] w λe w'=>∃p F,e= .returned (.pointer (some ⟨p,0,none⟩))/\Hp w' w.heap.size p s L r (frH s) (λ_=>[]) F/\(∀k,F k->w.heap.size<=k)/\Below w.heap.size w w':=by
 have hfl:(frH s).length=s:=by simp[frH]
 have hB0:=(wai w.heap.size w).alloc (wah _) (.cells #[.int .i64 (s:Int),.int .i64 (L:Int),.int .i64 r] 36);have hri:=waa (qp5 (some ⟨g,0,none⟩) cap _ hm hfl hdim.1.2 (by rw[hfl];exact hR.below hB0) (q1s s));have hx:(w.alloc (.cells #[.int .i64 (s:Int),.int .i64 (L:Int),.int .i64 r] 36)).heap[w.heap.size]? =some (.cells #[.int .i64 (s:Int),.int .i64 (L:Int),.int .i64 r] 36 (0,0)):=heap_alloc_new w _;have hmk:=λV=>qmh hdim.2 V
 replace hB0:=waa hB0;replace hx:=waa hx;replace hR:=waa hR;replace hM:=waa hM;go_enter Tryz.func35,Tryz.ntmps35;go_wp2_with fail;refine hri.out.mono ?_;rintro e w1 ⟨rfl,hB1⟩;have hx1:w1.heap[w.heap.size]? =some (.cells #[.int .i64 (s:Int),.int .i64 (L:Int),.int .i64 r] 36 (0,0)):=(hB1.block _ Zs).trans hx.out;have k0:w1.cell? ⟨w.heap.size,0,none⟩=some (.int .i64 (s:Int)):=by rw[qab hx1];rfl
 have k1:w1.cell? ⟨w.heap.size,1,none⟩=some (.int .i64 (L:Int)):=by rw[qab hx1];rfl
 have k2:w1.cell? ⟨w.heap.size,2,none⟩=some (.int .i64 r):=by rw[qab hx1];rfl
 have hB1:=waa (hB0.out.trans (hB1.mono hB0.out.size));have hcl:=waa (λ(W:World) (hW:Below w1.heap.size w1 W)=>qi3 (cap:=cap) W (hR.out.below (hB1.out.trans (hW.mono hB1.out.size))) Zo hdim.1.2);clear hri hx hx1 hB0;go_upto_region 3 with fail
 go_cut [7] from 23 to 30 (λs7 wx=>∃p:Nat,s7= .pointer (some ⟨p,0,none⟩)/\Hid (∃F:Nat->Prop,Hp wx w.heap.size p s L r (frH s) (λ_=>[]) F/\∀k,F k->w.heap.size<=k)/\Hid (Below w.heap.size w wx))
 case first=>
  refine wp_region_held_drew (S:=(λU=>U.cell? ⟨w.heap.size,0,none⟩=some (.int .i64 (s:Int))/\U.cell? ⟨w.heap.size,1,none⟩=some (.int .i64 (L:Int))/\U.cell? ⟨w.heap.size,2,none⟩=some (.int .i64 r))) Zk (⟨k0,k1,k2⟩) (λhHeld=>?_);refine wpAnyH_take (i:=0) (v:=?_) rfl Zk Zk Zk (λ_ _ _ h=>h) (Or.inl ⟨by rfl,?_⟩) Za ?_;rotate_left;(·intro u h;(try dsimp only at h);(try simp only[wab,wac]);go_simp;try with_reducible rfl);try simp only[Act.put,waf,wae,wag,wab,wac]
  refine wpAnyH_take (i:=1) (v:=?_) rfl Zk Zk Zk (λ_ _ _ h=>h) (Or.inl ⟨by rfl,?_⟩) Za ?_;rotate_left;(·intro u h;(try dsimp only at h);(try simp only[wab,wac,wad]);go_simp;try with_reducible rfl);try simp only[Act.put,waf,wae,wag,wab,wac,wad]
  refine wpAnyH_take (i:=3) (v:=?_) rfl Zk Zk Zk (λ_ _ _ h=>h) (Or.inl ⟨by rfl,?_⟩) Za ?_;rotate_left;(·intro u h;(try dsimp only at h);(try simp only[wab,wac,wad]);go_simp;try with_reducible rfl);try simp only[Act.put,waf,wae,wag,wab,wac,wad]
  refine wpAnyH_take (i:=4) (v:=?_) rfl Zk Zk Zk (λ_ _ _ h=>h) (Or.inl ⟨by rfl,?_⟩) Za ?_;rotate_left;(·intro u h;(try dsimp only at h);(try simp only[wab,wac,wad]);go_simp;try with_reducible rfl);try simp only[Act.put,waf,wae,wag,wab,wac,wad]
  refine wpAnyH_ready (rs:=[2,5]) Zk Zs ?_;refine AllReadyH.cons rfl (λK hK=>?_) (AllReadyH.cons rfl (λK hK=>?_) AllReadyH.nil);rotate_left
  (try simp only[wab,wac,wad])
  go_simp
  have hBm:Below w1.heap.size w1 (w1.drew.alloc (.cells (caC (λ_=> .slice none 0 0) L) 137)):=(wai w1.heap.size w1).drew.alloc (wah _) _;have b0:=qaa hBm k0;have b1:=qaa hBm k1;have b2:=qaa hBm k2;refine hK.out _ _ (⟨b0,b1,b2⟩) (λhHeld2=>?_);clear hK K hHeld;have hHeld:=hHeld2;clear hHeld2;try simp only[Act.put,waf,wae,wag,wab,wac,wad]
  refine wpAnyH_ready (rs:=[2]) Zk Zs ?_;refine AllReadyH.cons rfl (λK hK=>?_) AllReadyH.nil
  (try simp only[wab,wac,wad])
  go_simp
  refine(hcl.out _ (hBm)).mono ?_;rintro e w3 ⟨g',cap',rfl,hown,hB3⟩;have hBa:=(hBm).trans (hB3.mono (hBm).size);have a0:=qaa hBa k0;have a1:=qaa hBa k1;have a2:=qaa hBa k2;go_wp2_with fail;refine hK.out _ _ (⟨a0,a1,a2⟩) (λhHeld2=>?_);clear hK K hHeld;have hHeld:=hHeld2;clear hHeld2;try simp only[Act.put,waf,wae,wag,wab,wac,wad]
  refine wpAnyH_take (i:=6) (v:=?_) rfl Zk Zk Zk (λ_ _ _ h=>h) (Or.inl ⟨by rfl,?_⟩) Za ?_;rotate_left;(·intro u h;(try dsimp only at h);(try simp only[wab,wac,wad]);go_simp;try with_reducible rfl);try simp only[Act.put,waf,wae,wag,wab,wac,wad]
  refine wpAnyH_ready (rs:=[7]) Zk Zs ?_;refine AllReadyH.cons rfl (λK hK=>?_) AllReadyH.nil
  (try simp only[wab,wac,wad])
  go_simp
  have hgc:w3.heap[w1.heap.size]? =some (.cells (caC (λ_=> .slice none 0 0) L) 137 (0,0)):=(hB3.block _ Zs).trans (heap_alloc_new w1.drew _);have hBx:Below w3.heap.size w3 (w3.alloc (.cells (hpC (λ_=> .slice none 0 0) (s:Int) (L:Int) r (.slice (some ⟨g',0,none⟩) s cap') (.slice (some ⟨w1.heap.size,0,none⟩) L L)) 139)):=(wai w3.heap.size w3).alloc (wah _) _;refine hK.out _ _ (⟨qaa hBx a0,qaa hBx a1,qaa hBx a2⟩) (λhHeld2=>?_);clear hK K hHeld;have hHeld:=hHeld2;clear hHeld2;try simp only[Act.put,waf,wae,wag,wab,wac,wad]
  refine wpAnyH_take (i:=8) (v:=?_) rfl Zk Zk Zk (λ_ _ _ h=>h) (Or.inl ⟨by rfl,?_⟩) Za ?_;rotate_left;(·intro u h;(try dsimp only at h);(try simp only[wab,wac,wad]);go_simp;try with_reducible rfl);try simp only[Act.put,waf,wae,wag,wab,wac,wad]
  refine wpAnyH_done Zk ?_ _;go_wp2_with fail;go_meet
  exact⟨_,rfl,waa (Hp.made (heap_alloc_new _ _) (qa1 (qbb hown (wam hB1.out.size hBm.size)) hBx) ((hBx.block _ (waj.1 hgc).1).trans hgc) (by have:=hB1.out.size;have:=hBa.size;omega) hB1.out.size hdim),waa ((hB1.out.trans (hBa.mono hB1.out.size)).trans (hBx.mono (wam hB1.out.size hBa.size)))⟩
  have hBd:=waa ((wai w1.heap.size w1).drew)
  (try simp only[wab,wac,wad])
  go_simp
  refine(hcl.out _ (hBd.out)).mono ?_;rintro e w3 ⟨g',cap',rfl,hown,hB3⟩;have hBa:=(hBd.out).trans (hB3.mono (hBd.out).size);have a0:=qaa hBa k0;have a1:=qaa hBa k1;have a2:=qaa hBa k2;go_wp2_with fail;refine hK.out _ _ (⟨a0,a1,a2⟩) (λhHeld2=>?_);clear hK K hHeld;have hHeld:=hHeld2;clear hHeld2;try simp only[Act.put,waf,wae,wag,wab,wac,wad]
  refine wpAnyH_ready (rs:=[5]) Zk Zs ?_;refine AllReadyH.cons rfl (λK hK=>?_) AllReadyH.nil
  (try simp only[wab,wac,wad])
  go_simp
  have hBm:Below w3.heap.size w3 (w3.alloc (.cells (caC (λ_=> .slice none 0 0) L) 137)):=(wai w3.heap.size w3).alloc (wah _) _;have b0:=qaa hBm a0;have b1:=qaa hBm a1;have b2:=qaa hBm a2;refine hK.out _ _ (⟨b0,b1,b2⟩) (λhHeld2=>?_);clear hK K hHeld;have hHeld:=hHeld2;clear hHeld2;try simp only[Act.put,waf,wae,wag,wab,wac,wad]
  refine wpAnyH_take (i:=6) (v:=?_) rfl Zk Zk Zk (λ_ _ _ h=>h) (Or.inl ⟨by rfl,?_⟩) Za ?_;rotate_left;(·intro u h;(try dsimp only at h);(try simp only[wab,wac,wad]);go_simp;try with_reducible rfl);try simp only[Act.put,waf,wae,wag,wab,wac,wad]
  refine wpAnyH_ready (rs:=[7]) Zk Zs ?_;refine AllReadyH.cons rfl (λK hK=>?_) AllReadyH.nil
  (try simp only[wab,wac,wad])
  go_simp
  have hBx:Below (w3.alloc (.cells (caC (λ_=> .slice none 0 0) L) 137)).heap.size (w3.alloc (.cells (caC (λ_=> .slice none 0 0) L) 137)) ((w3.alloc (.cells (caC (λ_=> .slice none 0 0) L) 137)).alloc (.cells (hpC (λ_=> .slice none 0 0) (s:Int) (L:Int) r (.slice (some ⟨g',0,none⟩) s cap') (.slice (some ⟨w3.heap.size,0,none⟩) L L)) 139)):=(wai _ _).alloc (wah _) _;refine hK.out _ _ (⟨qaa hBx b0,qaa hBx b1,qaa hBx b2⟩) (λhHeld2=>?_);clear hK K hHeld;have hHeld:=hHeld2;clear hHeld2;try simp only[Act.put,waf,wae,wag,wab,wac,wad]
  refine wpAnyH_take (i:=8) (v:=?_) rfl Zk Zk Zk (λ_ _ _ h=>h) (Or.inl ⟨by rfl,?_⟩) Za ?_;rotate_left;(·intro u h;(try dsimp only at h);(try simp only[wab,wac,wad]);go_simp;try with_reducible rfl);try simp only[Act.put,waf,wae,wag,wab,wac,wad]
  refine wpAnyH_done Zk ?_ _;go_wp2_with fail;go_meet
  exact⟨_,rfl,waa (Hp.made (qad Zs _ _) ((qa1 (qa1 (qbb hown (wam hB1.out.size hBd.out.size)) hBm) hBx)) ((hBx.block _ Zs).trans (heap_alloc_new w3 _)) (by have h1:=hB1.out.size;have h2:=hBa.size;show w.heap.size<=w3.heap.size+1;omega) (by have h1:=hB1.out.size;have h2:=hBa.size;show w.heap.size<=w3.heap.size;exact wam h1 h2) hdim),waa ((hB1.out.trans (hBa.mono hB1.out.size)).trans ((hBm.trans (hBx.mono hBm.size)).mono (wam hB1.out.size hBa.size)))⟩
 case rest=>
  obtain⟨p,rfl,hH,hB⟩:=hcut;obtain⟨F,hH,hF⟩:=hH.out;replace hH:=waa hH;replace hF:=waa hF;have hml:=waa hM.out.1;clear k0 k1 k2 hcl hmk hR hfl hB1;go_wp2_with fail;go_loopg [33] s (λk s33 wr=>∃n:Nat,s33= .int .i64 (n:Int)/\s - n<=k/\n<=s/\Hid (Hp wr w.heap.size p s L r (frH s) (λ_=>[]) F)/\Hid (Below w.heap.size w wr))
  case atStart=>exact⟨0,rfl,Zo,Zo,hH,hB⟩
  case round=>
   clear hH hB;obtain⟨n,rfl,hkn,hns,hH,hB⟩:=hrel;by_cases hlt:n<s
   ·obtain⟨x,hx⟩:∃x,(u64V ms)[n]? =some x:=⟨_,wan (by rw[hml.out];exact hlt)⟩
    obtain⟨q,rfl,hcx⟩:=(hM.out.below hB.out).2 Zo;have hx2:=hx;simp only[u64V,way,wb3] at hx2;obtain⟨y,-,rfl⟩:=hx2;have c0:=hcx n _ hx;obtain⟨gh,gc,hcap,ccap,rv,hr⟩:=hH.out;have hbl:=waa (qhw hr (n:Int));rw[qz9] at hbl;have z1:(n:Int)<(s:Int):=Zo
    have z2:(0:Int)<=(n:Int):=Zo
    clear hx hcx hr;go_wp2_with fail;refine hbl.out.mono ?_;rintro e w2 ⟨v,rfl,hrow,hB2⟩;obtain⟨A,c,rfl,-,-⟩:=hrow.shape;have hH2:=waa (hH.out.new hB2);have hB3:=waa (hB.out.trans (hB2.mono hB.out.size));simp only[wb2];clear hrow hB2 hbl c0;go_wp2_with fail;go_loopg [42] 0 (λk s42 wr=>s42= .int .i64 0/\Hid (w2=wr))
    case atStart=>exact⟨rfl,waa rfl⟩
    case round=>
     obtain⟨rfl,hw⟩:=hrel;go_wp2_with fail;go_roundg (s - (n+1))
     case measure=>omega
     case rel=>exact⟨n+1,by go_num,wah _,Zo,hw.out▸hH2,hw.out▸hB3⟩
   ·obtain rfl:n=s:=Zo
    go_wp2_with fail;go_ret;exact⟨p,F,rfl,hH.out,hF.out,hB.out⟩
end Go.Proofs.YtgjhkafggagniaaGreat
namespace Go.Proofs.YtgjhkafggagniaaGreat
open Go Go.RowKit
open Go.Maps (Keyed)
theorem qgc:(Tryz.prog.info? 130).map (λi=>(i.zero,i.size,i.bytes))=some (some (qcq [0,0,0,0,0,0,0,0]),8,64):=by kernel_rfl
def qa6(n:Nat):List Nat:=List.replicate n 0
theorem qu3(k:Nat):(madeCells (qcq [0,0,0,0,0,0,0,0]).cells (k*8)).toList=u64V (qa6 (k*8)):=by
 apply wa2
 intro j;have hz:∀i,i<8->(qcq [0,0,0,0,0,0,0,0]).cells[i]! = .int .u64 0:=by
  intro i hi;match i,hi with
  |0,_=>rfl|1,_=>rfl|2,_=>rfl|3,_=>rfl|4,_=>rfl|5,_=>rfl|6,_=>rfl|7,_=>rfl
 by_cases hj:j<k*8
 ·have h8:=hz (j%8) (wbz _ Zo)
  have hs:(qcq [0,0,0,0,0,0,0,0]).cells.size=8:=rfl;simp[madeCells,u64V,qa6,hj,hs,h8]
 ·have hs:(qcq [0,0,0,0,0,0,0,0]).cells.size=8:=rfl
  simp[madeCells,u64V,qa6,hj]
theorem qpz(n:Nat)(hn:n<=2048)(w:World):(Instr.makeSlice 100 (.int .i64 (n:Int)) (.int .i64 (n:Int))).run Tryz.prog w= .ok (.slice (some ⟨w.heap.size,0,none⟩) n n) (w.alloc (.cells (u64V (qa6 (n*8))).toArray 130)):=by
 obtain⟨i,hi,hz,hs,hb⟩:=info_parts qgc;have h:=run_makeSlice (P:=Tryz.prog) w 100 130 i _ Tryz.underlying100 hi hz .i64 .i64 (n:Int) (n:Int) Zo (wcz _) (by rw[hs,wao];omega) (by rw[hb];omega) Zo;rw[hs,wao] at h;rw[h];rw[show(madeCells (qcq [0,0,0,0,0,0,0,0]).cells (n*8))=(u64V (qa6 (n*8))).toArray by rw[<-qu3]]
theorem qhe(w:World)(a b c d:Obj):((((w.alloc a).alloc b).alloc c).alloc d).heap[w.heap.size]? =some a/\((((w.alloc a).alloc b).alloc c).alloc d).heap[w.heap.size+1]? =some b/\((((w.alloc a).alloc b).alloc c).alloc d).heap[w.heap.size+1+1]? =some c/\((((w.alloc a).alloc b).alloc c).alloc d).heap[w.heap.size+1+1+1]? =some d/\Below w.heap.size w ((((w.alloc a).alloc b).alloc c).alloc d):=by
 refine⟨?_,?_,?_,?_,((((wai _ w).alloc Zs a).alloc Zs b).alloc Zx c).alloc Zx d⟩
 ·rw[wbc _ _ _ Zx,wbc _ _ _ Zx,wbc _ _ _ Zs];exact World.alloc_heap_new w a
 ·rw[wbc _ _ _ Zs,wbc _ _ _ Zs]
  have:=World.alloc_heap_new (w.alloc a) b
  rwa [show(w.alloc a).heap.size=w.heap.size+1 by simp] at this
 ·rw[wbc _ _ _ Zs]
  have:=World.alloc_heap_new ((w.alloc a).alloc b) c
  rwa [show((w.alloc a).alloc b).heap.size=w.heap.size+1+1 by simp] at this
 ·have:=World.alloc_heap_new (((w.alloc a).alloc b).alloc c) d
  rwa [show(((w.alloc a).alloc b).alloc c).heap.size=w.heap.size+1+1+1 by simp] at this
theorem qm7{W:World}{base g n:Nat}(hn:n<=2048)(hb:base<=g)(h:W.heap[g]? =some (.cells (u64V (qa6 (n*8))).toArray 130 (0,0))):W.ownsRow base 130 8 (.slice (some ⟨g,0,none⟩) n n) n (u64V (qa6 (n*8))):=by
 have hl:(u64V (qa6 (n*8))).length=n*8:=by rw[qat];simp[qa6]
 exact⟨hl,.inr ⟨g,n,_,rfl,hb,h,wah _,by unfold maxLen;omega,by simpa using hl,by rw[wax (by simp[hl])]⟩⟩
theorem qd5{W:World}{base p gs gk m n:Nat}(h0:0<n)(hn:n<=2048)(hp:W.heap[p]? =some (.cells #[.slice (some ⟨gs,0,none⟩) n n,.slice (some ⟨gk,0,none⟩) n n,.map (some m),.int .i64 0] 103 (0,0)))(hs:W.heap[gs]? =some (.cells (u64V (qa6 (n*8))).toArray 130 (0,0)))(hk:W.heap[gk]? =some (.cells (u64V (qa6 (n*8))).toArray 130 (0,0)))(hm:W.heap[m]? =some (.map #[] 0))(b1:base<=p)(b2:base<=gs)(b3:base<=gk)(b4:base<=m)(n1:p≠gs)(n2:p≠gk)(n3:gs≠gk):Reg W base p n 0 (qa6 (n*8)) (qa6 (n*8)) (λ_=>none):=
 ⟨gs,n,gk,n,m,0,.map [],b1,b4,n1,n2,n3,h0,hn,hp,qm7 hn b2 hs,qm7 hn b3 hk,⟨#[],0,hm,⟨by simp,MapKept.stamped_empty 0,by simp⟩,by simp,rfl⟩,Noted.empty,by simp[qa6],by simp[qa6]⟩
theorem q0g(n:Nat)(w:World)(h0:0<n)(hn:n<=2048):
  Calls Tryz.prog 61 #[.int .i64 ((n:Int)*8)] w λe w'=>∃p,e= .returned (.pointer (some ⟨p,0,none⟩))/\Reg w' w.heap.size p n 0 (qa6 (n*8)) (qa6 (n*8)) (λ_=>none)/\Below w.heap.size w w':=by
 have hmk:=qpz n hn;have hmm:=@run_makeMap Tryz.prog;have hmay:∀w,Calls Tryz.prog 116 #[.int .i64 ((n:Int)*8)] w λe w'=>e= .returned (.bool true)/\w=w':=λw=>
  (qno ((n:Int)*8) w).mono λe w' ⟨he,hw⟩=>⟨by rw[he];exact qae (by rw[wej Zo];simp;omega),hw⟩
 go_enter Tryz.func61,Tryz.ntmps61;go_wp2_with (go_at_call 116;refine(hmay _).mono ?_;rintro e w' ⟨rfl,rfl⟩)
 go_region
 all_goals
  go_wp2
  go_ret
  first
   |(obtain⟨q0,q1,q2,q3,hb⟩:=qhe w (.map #[] 0) (.cells (u64V (qa6 (n*8))).toArray 130) (.cells (u64V (qa6 (n*8))).toArray 130) (.cells #[.slice (some ⟨w.heap.size+1,0,none⟩) n n,.slice (some ⟨w.heap.size+1+1,0,none⟩) n n,.map (some w.heap.size),.int .i64 0] 103);exact⟨_,rfl,(qd5 h0 hn q3 q1 q2 q0 Zo Zo Zo Zo Zo Zo Zo).drew,hb.drew⟩)
   |(obtain⟨q0,q1,q2,q3,hb⟩:=qhe w (.map #[] 0) (.cells (u64V (qa6 (n*8))).toArray 130) (.cells (u64V (qa6 (n*8))).toArray 130) (.cells #[.slice (some ⟨w.heap.size+1+1,0,none⟩) n n,.slice (some ⟨w.heap.size+1,0,none⟩) n n,.map (some w.heap.size),.int .i64 0] 103);exact⟨_,rfl,(qd5 h0 hn q3 q2 q1 q0 Zo Zo Zo Zo Zo Zo Zo).drew,hb.drew⟩)
   |(obtain⟨q0,q1,q2,q3,hb⟩:=qhe w (.cells (u64V (qa6 (n*8))).toArray 130) (.map #[] 0) (.cells (u64V (qa6 (n*8))).toArray 130) (.cells #[.slice (some ⟨w.heap.size,0,none⟩) n n,.slice (some ⟨w.heap.size+1+1,0,none⟩) n n,.map (some (w.heap.size+1)),.int .i64 0] 103);exact⟨_,rfl,(qd5 h0 hn q3 q0 q2 q1 Zo Zo Zo Zo Zo Zo Zo).drew,hb.drew⟩)
   |(obtain⟨q0,q1,q2,q3,hb⟩:=qhe w (.cells (u64V (qa6 (n*8))).toArray 130) (.map #[] 0) (.cells (u64V (qa6 (n*8))).toArray 130) (.cells #[.slice (some ⟨w.heap.size+1+1,0,none⟩) n n,.slice (some ⟨w.heap.size,0,none⟩) n n,.map (some (w.heap.size+1)),.int .i64 0] 103);exact⟨_,rfl,(qd5 h0 hn q3 q2 q0 q1 Zo Zo Zo Zo Zo Zo Zo).drew,hb.drew⟩)
   |(obtain⟨q0,q1,q2,q3,hb⟩:=qhe w (.cells (u64V (qa6 (n*8))).toArray 130) (.cells (u64V (qa6 (n*8))).toArray 130) (.map #[] 0) (.cells #[.slice (some ⟨w.heap.size,0,none⟩) n n,.slice (some ⟨w.heap.size+1,0,none⟩) n n,.map (some (w.heap.size+1+1)),.int .i64 0] 103);exact⟨_,rfl,(qd5 h0 hn q3 q0 q1 q2 Zo Zo Zo Zo Zo Zo Zo).drew,hb.drew⟩)
   |(obtain⟨q0,q1,q2,q3,hb⟩:=qhe w (.cells (u64V (qa6 (n*8))).toArray 130) (.cells (u64V (qa6 (n*8))).toArray 130) (.map #[] 0) (.cells #[.slice (some ⟨w.heap.size+1,0,none⟩) n n,.slice (some ⟨w.heap.size,0,none⟩) n n,.map (some (w.heap.size+1+1)),.int .i64 0] 103);exact⟨_,rfl,(qd5 h0 hn q3 q1 q0 q2 Zo Zo Zo Zo Zo Zo Zo).drew,hb.drew⟩)
theorem qrz{w:World}{n gs gk cs ck:Nat}{ty:TypeId}{S:List Nat}{cur:Array Value}(hg:w.heap[gk]? =some (.cells cur 130 (0,0)))(hS:S.length=n*8)(hc:n*8<=cur.size)(hs:∀j v,(u64V S)[j]? =some v->w.cell? ⟨gs,j,none⟩=some v):
  (Builtin.copy_ #[100,100] ty #[.slice (some ⟨gk,0,none⟩) n ck,.slice (some ⟨gs,0,none⟩) n cs]).run Tryz.prog w= .ok (goInt n) (w.setRow gk (u64V S++cur.toList.drop (n*8)).toArray):=by
 obtain⟨i,hi,hz,hsz,hb⟩:=info_parts qgc;have hl:=run_loadCells_list (P:=Tryz.prog) w ⟨gs,0,none⟩ (u64V S) (λj v hj=>by
  have e:(⟨gs,0,none⟩:Addr).add j=⟨gs,j,none⟩:=by
   cases j with
   |zero=>rfl
   |succ j=>simp[Addr.add]
  rw[e];exact hs j v hj)
 rw[qat,hS] at hl;have hst:=run_storeCells_at Tryz.prog gk 0 130 (u64V S) 0 cur w hg (by rw[qat];omega) (by intro v hv;simp only[u64V,wbb] at hv;obtain⟨x,-,rfl⟩:=hv;rfl);simp only[wd2,wav,we7,wa7,qat,hS] at hst;simp[Builtin.copy_,run_underlying Tryz.underlying100,Builtin.lenOf,Builtin.firstCells,sizeOf,typeInfo,hi,hsz,hl,hst]
theorem take_set{S:List Nat}{N j x:Nat}(hN:S.length=N)(hx:S[j]? =some x):(S.take j++List.replicate (N - j) 0).set j x=S.take (j+1)++List.replicate (N - (j+1)) 0:=by
 have hj:j<N:=by have:=(was.1 hx).1;omega
 apply wa2
 intro k;rw[wen];by_cases hk:j=k
 ·subst hk
  rw[if_pos rfl,if_pos Zx,wbj Zx,waw,if_pos Zo,hx]
 ·rw[if_neg hk]
  by_cases h1:k<j
  ·rw[wbj Zx,wbj Zx,waw,waw,if_pos h1,if_pos Zo]
  ·rw[wbv Zx,wbv Zx]
   simp only[wb8,war];have e1:min j S.length=j:=Zo
   have e2:min (j+1) S.length=j+1:=Zo
   rw[e1,e2];by_cases h2:k<N
   ·rw[if_pos Zo,if_pos Zo]
   ·rw[if_neg Zo,if_neg Zo]
theorem qrn{w:World}{base p n c gs cs gk ck m:Nat}{st:Int}{D:DataW Value}{S K:List Nat}{f:Nat->Option (List Nat)}(h:RegAt w base p n c gs cs gk ck m st D S K f):∃cur:Array Value,w.heap[gk]? =some (.cells cur 130 (0,0))/\n*8<=cur.size/\
  RegAt (w.setRow gk (u64V S++cur.toList.drop (n*8)).toArray) base p n c gs cs gk ck m st D S S f/\Below base w (w.setRow gk (u64V S++cur.toList.drop (n*8)).toArray):=by
 obtain⟨a1,a2,a3⟩:=h.apart;obtain⟨⟨_,l1⟩,⟨_,l2⟩,⟨b3,l3⟩,⟨_,l4⟩⟩:=h.lts;have hSl:=h.len.1;obtain⟨h1,h2,h3,h4,h5,h6,h6',hp,hs,hk,hm,hD,hS,hK⟩:=h;obtain⟨e1,e2⟩:=hk;rcases e2 with ⟨e,_⟩|⟨g,cap,cur,e,hb,hg,hn,hcm,hsz,ht⟩
 ·cases e
 injection e with e5 e6 e7;injection e5 with e5;injection e5 with e5;subst e5 e7;have hfit:n*8<=cur.size:=by rw[hsz];omega
 have hoth:∀k,k≠gk->(w.setRow gk (u64V S++cur.toList.drop (n*8)).toArray).heap[k]? =w.heap[k]?:=λk hk=>setRow_other w gk k _ hk
 refine⟨cur,hg,hfit,⟨h1,h2,h3,h4,h5,h6,h6',(hoth p h4).trans hp,qa4 hs (hoth gs h5),⟨by rw[qat,hSl],.inr ⟨gk,ck,_,rfl,hb,setRow_heap w gk cur _ _ _ hg,hn,hcm,?_,?_⟩⟩,qb5 hm (hoth m (λe=>a3 e.symm)),hD,hS,hS⟩,below_setRow (wai _ w) b3 _⟩
 ·simp only[wa8,wbh,qat,hSl,wc2,wex]
  omega
 ·rw[wfc (by rw[qat];omega),wax (by rw[qat];omega)]
theorem q2b{N n:Nat}(hN:N=n*8)(w:World)(h0:0<n)(hn:n<=2048):
  Calls Tryz.prog 61 #[.int .i64 (N:Int)] w λe w'=>∃p,e= .returned (.pointer (some ⟨p,0,none⟩))/\Reg w' w.heap.size p n 0 (qa6 (n*8)) (qa6 (n*8)) (λ_=>none)/\Below w.heap.size w w':=by
 subst hN;have h:=q0g n w h0 hn;rw[show((n:Int)*8)=((n*8:Nat):Int) by omega] at h;exact h
theorem qzp{A:Option Addr}{n cap:Nat}{S:List Nat}{w:World}(hR:Rd w A (n*8) (u64V S))(h0:0<n)(hn:n<=2048)(hS:∀x∈S,x<18446744073709551616):
  Calls Tryz.prog 34 #[.slice A (n*8) cap] w λe w'=>∃p,e= .returned (.pointer (some ⟨p,0,none⟩))/\Reg w' w.heap.size p n 0 S S (λ_=>none)/\Below w.heap.size w w':=by
 have hSl:S.length=n*8:=by have:=hR.1;rwa [qat] at this
 obtain⟨q,rfl,-⟩:=hR.2 Zo;replace hR:=waa hR;replace hS:=waa hS;replace hSl:=waa hSl;obtain⟨N,hN⟩:∃N,N=n*8:=⟨_,rfl⟩
 rw[<-hN];have hnew:=waa (λV=>q2b (N:=N) (n:=n) hN V h0 hn);replace hN:=waa hN;go_enter Tryz.func34,Tryz.ntmps34;go_wp2_with (go_at_call 61;refine(hnew.out _).mono ?_;rintro e w1 ⟨p,rfl,⟨gs,cs,gq,ck,m,st,D,hA⟩,hB1⟩;replace hA:=waa hA;replace hB1:=waa hB1)
 go_loopg [13] N (λk s13 wr=>∃j:Nat,s13= .int .i64 (j:Int)/\N - j<=k/\j<=N/\Hid (RegAt wr w.heap.size p n 0 gs cs gq ck m st D (S.take j++List.replicate (N - j) 0) (qa6 (n*8)) (λ_=>none))/\Hid (Below w.heap.size w wr))
 case atStart=>exact⟨0,rfl,Zo,Zo,waa (by have:=hA.out;rw[we7,wa7,Nat.sub_zero,hN.out];exact this),hB1⟩
 case round=>
  obtain⟨j,rfl,hkj,hj,hA2,hB2⟩:=hrel;obtain⟨c0,c1,c2,c3,cf⟩:=hA2.out.cells;by_cases hlt:j<N
  ·obtain⟨p',x,hp',hdr,hx,hcx⟩:=(hR.out.kept hB2.out (wah _)).u64_at (k:=j) (by rw[<-hN.out];exact hlt)
   injection hp' with hp';subst hp';have hxj:S[j]? =some x:=by rw[<-List.head?_drop,hdr];rfl
   have hst:=hA2.out.stored (j:=j) (x:=x) (by rw[<-hN.out];exact hlt) (hS.out x hx);rw[take_set (hSl.out.trans hN.out.symm) hxj] at hst;have hst:=waa hst;obtain⟨u,_,_,hold⟩:=qga (hA2.out.2.2.2.2.2.2.2.2.1) (j:=j) (by rw[<-hN.out];exact hlt);have hf:=(hA2.out.2.2.2.2.2.2.2.2.1).frozenAt j;have hgs:=waa hA2.out.lts.2.1.1;have hw8:(j/8)*8+j%8=j:=Zo
   have t1:((j:Int)).tdiv 8=((j/8:Nat):Int):=by rw[wew Zo];omega
   have t2:((j:Int)).tmod 8=((j%8:Nat):Int):=by rw[wej Zo];omega
   have z1:(0:Int)<=((j/8:Nat):Int):=Zo
   have z2:((j/8:Nat):Int)<(n:Int):=by have:=hN.out;omega
   have z3:(0:Int)<=((j%8:Nat):Int):=Zo
   have z4:((j%8:Nat):Int)<8:=Zo
   have y1:(0:Int)<=(j:Int):=Zo
   have y2:(j:Int)<(N:Int):=Zo
   clear hdr;have hB3:=waa (hB2.out.setCell (p:=⟨gs,j,none⟩) hgs.out (.int .u64 (x:Int)));clear hA2 hB2;go_wp2_with fail;go_roundg (N - (j+1))
   case measure=>omega
   case rel=>exact⟨j+1,by go_num,Zo,Zo,hst,hB3⟩
  ·obtain rfl:j=N:=Zo
   have hA3:=hA2.out;rw[wce,List.replicate_zero,wba,wax (by rw[hSl.out,hN.out];omega)] at hA3;obtain⟨cur,hcur,hfit,hA4,hB4⟩:=qrn hA3;have hcs:∀i v,(u64V S)[i]? =some v->wr.cell? ⟨gs,i,none⟩=some v:=λi v hi=>by
    have hil:i<n*8:=by have:=(was.1 hi).1;rw[qat,hSl.out] at this;exact this
    obtain⟨u,hu,_,hold⟩:=qga (hA3.2.2.2.2.2.2.2.2.1) (j:=i) hil;rw[hold];simp[u64V,hu] at hi
    rw[hi]
   have hcp1:=λ(ty:TypeId)=>qrz (w:=wr.drew) (cs:=cs) (ck:=ck) (ty:=ty) hcur hSl.out hfit hcs
   have hB5:=waa (hB2.out.trans hB4);replace hA4:=waa hA4;clear hA2 hA3 hB2 hB4 hcur hfit hcs;go_wp2_with fail;go_still_tail 8,Zk
   change wpList _ _ _ _ _ wr.drew;go_wp2_with fail;go_ret;exact⟨_,rfl,⟨_,_,_,_,_,_,_,hA4.out.drew⟩,hB5.out.drew⟩
end Go.Proofs.YtgjhkafggagniaaGreat
