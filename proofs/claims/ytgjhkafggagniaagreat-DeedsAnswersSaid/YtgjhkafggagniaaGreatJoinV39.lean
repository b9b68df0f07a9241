/- Parts. No condition. -/
import Derived.Test.YtgjhkafggagniaaGreatJoinV35
import Derived.Test.YtgjhkafggagniaaGreatJoinV36
set_option linter.unusedVariables false
set_option maxRecDepth 100000
set_option maxHeartbeats 8000000
namespace Go.Proofs.YtgjhkafggagniaaGreat
open Go Go.RowKit
def endG(A:AC)(to_ j0 j4 j5 j6:Int):Prop:=(0<=to_/\to_<9223372036854775808)/\(0<=j0/\j0<9223372036854775808)/\(0<=j4/\j4<=1000)/\(0<=j5/\j5<64)/\(0<=j6/\j6<=4096)
instance (A:AC) (to_ j0 j4 j5 j6:Int):Decidable (endG A to_ j0 j4 j5 j6):=by unfold endG;infer_instance
def endW(A:AC)(ws:List (Int×Nat))(to_ j0 j4 j5 j6:Int)(m:Nat):List (Int×Nat):=ws++[(to_,0),(headN A.s A.l A.r j4+1,qbh m j5),(j0,0)]++hwL A.s A.l A.r j4 (List.replicate (j6/64).toNat (0,0,0))
noncomputable def endC (A:AC) (E:DP HS) (ws:List (Int×Nat)) (to_ j0 j4 j5 j6:Int) (m:Nat):AP (DM×HS) (Unit×List (Int×Nat)):=(pubA A E (endW A ws to_ j0 j4 j5 j6 m)).bind λ_=>AP.ret ((),endW A ws to_ j0 j4 j5 j6 m)
noncomputable def endA (A:AC) (E:DP HS) (ws:List (Int×Nat)) (to_ j0 j4 j5 j6:Int):AP (DM×HS) (Unit×List (Int×Nat)):=
 if endG A to_ j0 j4 j5 j6 then(qar E.n E.nl E.who ws (headN A.s A.l A.r j4+1)).bind (endC A E ws to_ j0 j4 j5 j6) else qbd
theorem qt4(s l r:Int):∀(hs:List (Int×Int×Int)) (i:Int),(∀x∈hs,qav x.1 x.2.1 x.2.2=true)->∀e∈hwL s l r i hs,qen e
 |[],_,_,e,he=>by cases he
 |h::t,i,hm,e,he=>by
  rw[hwL] at he;rcases wa1.1 he with rfl|he
  ·have:=qe3 s l r i
   exact⟨⟨by dsimp only;omega,by dsimp only;omega⟩,qlf (hm h (wdn ..))⟩
  ·exact qt4 s l r t (i+1) (λx hx=>hm x (wdo _ hx)) e he
section
variable {A:AC} {E:DP HS} {i i':Nat} {l l':List Nat} {s s':DM×HS} {F F' H:Nat->Prop} {v v':Value} {ws ws':List (Int×Nat)} {w w' w2:World} {base n L:Nat} {e:Ending}
theorem qwj(h:AIn A E i l s F v ws w)(hD:DdE A E base n L)(to_ j0 j1 j2 j3 j4 j5 j6:Int)(hm:ws.length<=100)(hw:endA A E ws to_ j0 j4 j5 j6 E.sp i l s≠ .wild):
  Calls Tryz.prog 207 #[.pointer (some ⟨A.ab,0,none⟩),.int .i64 to_,.agg #[.int .i64 j0,.int .i64 j1,.int .i64 j2,.int .i64 j3,.int .i64 j4,.int .i64 j5,.int .i64 j6]] w λe w'=>qb6 A E (endA A E ws to_ j0 j4 j5 j6 E.sp i l s) (λ_ x _=>x= .tuple #[]) F H v w e w':=by
 by_cases hgg:endG A to_ j0 j4 j5 j6
 rotate_left
 ·exact absurd (by rw[endA,if_neg hgg];rfl) hw
 have hdef:endA A E ws to_ j0 j4 j5 j6=(qar E.n E.nl E.who ws (headN A.s A.l A.r j4+1)).bind (endC A E ws to_ j0 j4 j5 j6):=by rw[endA,if_pos hgg]
 rw[hdef] at hw ⊢;obtain⟨⟨g1,g2⟩,⟨g3,g4⟩,⟨g5,g6⟩,⟨g7,g8⟩,g9,g10⟩:=hgg;obtain⟨q,hq⟩:∃q:Nat,j6/64=(q:Int):=⟨(j6/64).toNat,Zo⟩
 have hq64:q<=64:=Zo
 have hqd:IntKind.i64.wrap (j6.tdiv 64)=(q:Int):=by
  rw[wew g9,hq,wap _ Zo]
 have hu:Upd (λ_=>False) w (w.alloc (.cells #[.int .i64 j0,.int .i64 j1,.int .i64 j2,.int .i64 j3,.int .i64 j4,.int .i64 j5,.int .i64 j6] 79)):=(Upd.refl _ w).alloc _;have hA0:=(AtH.start (H:=H) h).new hu;have hx0:(w.alloc (.cells #[.int .i64 j0,.int .i64 j1,.int .i64 j2,.int .i64 j3,.int .i64 j4,.int .i64 j5,.int .i64 j6] 79)).heap[w.heap.size]? =some (.cells #[.int .i64 j0,.int .i64 j1,.int .i64 j2,.int .i64 j3,.int .i64 j4,.int .i64 j5,.int .i64 j6] 79 (0,0)):=heap_alloc_new w _;obtain⟨W1,hW1⟩:∃W1,w.alloc (.cells #[.int .i64 j0,.int .i64 j1,.int .i64 j2,.int .i64 j3,.int .i64 j4,.int .i64 j5,.int .i64 j6] 79)=W1:=⟨_,rfl⟩
 rw[hW1] at hA0 hx0 hu;have hXl:w.heap.size<W1.heap.size:=(waj.1 hx0).1;have hF0:¬F w.heap.size:=λe=>by have:=h.i.lt e;omega
 have hlt:=h.a.lt;have hvb:∀k,v.ownBlock=some k->k<w.heap.size:=λk hk=>(h.a.row.lt k hk).2
 have hmp:=waa (qgp hA0.a.a j4);obtain⟨ST,hST⟩:∃ST,headN A.s A.l A.r j4+1=ST:=⟨_,rfl⟩
 have hSTb:=qe3 A.s A.l A.r j4;rw[hST] at hmp hw ⊢;have hSb:-1<=ST - 1/\ST - 1<=1000:=Zo
 obtain⟨z4,-⟩:=(qau hx0).1.2.2.2.2;have hmk:=λV=>qif q Zo V
 have hmay:∀x∈List.replicate q ((0:Int),(0:Int),(0:Int)),qav x.1 x.2.1 x.2.2=true:=λx hx=>by
  obtain⟨-,rfl⟩:=wfb.1 hx;rfl
 have hend:∀m,endW A ws to_ j0 j4 j5 j6 m=ws++[(to_,0),(ST,qbh m j5),(j0,0)]++hwL A.s A.l A.r j4 (List.replicate q (0,0,0)):=λm=>by
  unfold endW;rw[hST,show(j6/64).toNat=q by omega]
 have hhb:∀e∈hwL A.s A.l A.r j4 (List.replicate q (0,0,0)),qen e:=qt4 A.s A.l A.r _ j4 hmay;replace hA0:=waa hA0;replace hx0:=waa hx0;replace hw:=waa hw;replace hhb:=waa hhb;replace hend:=waa hend;replace hmay:=waa hmay;clear h hu hSTb hdef;go_enter Tryz.func207,Tryz.ntmps207;go_wp2_with fail;try rw[hW1]
 refine hmp.out.mono ?_;rintro e V1 ⟨rfl,hB1⟩;have hA1:=hA0.out.below hB1;have hx1:=(hB1.block _ hXl).trans hx0.out;have hX1:=wak hXl hB1.size;have hA1d:=waa (hA1.new ((Upd.refl (λ_=>False) _).drew));have hld:=waa (qc3 hA1d.out.a ST Zo (AP.tame hw.out));obtain⟨⟨y0,y1,y2,y3,y4,y5,y6⟩,yf⟩:=qau hx1;replace hx1:=waa hx1;clear hA0 hx0 hmp hB1 hA1 z4;go_upto_region 2 with fail
 refine wp_region_held_drew (S:=(λU=>U.cell? ⟨w.heap.size,0,none⟩=some (.int .i64 j0)/\U.cell? ⟨w.heap.size,5,none⟩=some (.int .i64 j5))) Zk (⟨y0,y5⟩) (λhHeld=>?_);refine wpAnyH_take (i:=0) (v:=?_) rfl Zk Zk Zk (λ_ _ _ h=>h) (Or.inl ⟨by rfl,?_⟩) Za ?_;rotate_left;(·intro u h;(try dsimp only at h);(try simp only[wab,wac]);go_simp;try with_reducible rfl);try simp only[Act.put,waf,wae,wag,wab,wac]
 refine wpAnyH_take (i:=1) (v:=?_) rfl Zk Zk Zk (λ_ _ _ h=>h) (Or.inl ⟨by rfl,?_⟩) Za ?_;rotate_left;(·intro u h;(try dsimp only at h);(try simp only[wab,wac,wad]);go_simp;try with_reducible rfl);try simp only[Act.put,waf,wae,wag,wab,wac,wad]
 refine wpAnyH_take (i:=2) (v:=?_) rfl Zk Zk Zk (λ_ _ _ h=>h) (Or.inl ⟨by rfl,?_⟩) Za ?_;rotate_left;(·intro u h;(try dsimp only at h);(try simp only[wab,wac,wad]);go_simp;try with_reducible rfl);try simp only[Act.put,waf,wae,wag,wab,wac,wad]
 refine wpAnyH_take (i:=3) (v:=?_) rfl Zk Zk Zk (λ_ _ _ h=>h) (Or.inl ⟨by rfl,?_⟩) Za ?_;rotate_left;(·intro u h;(try dsimp only at h);(try simp only[wab,wac,wad]);go_simp;try with_reducible rfl);try simp only[Act.put,waf,wae,wag,wab,wac,wad]
 refine wpAnyH_take (i:=4) (v:=?_) rfl Zk Zk Zk (λ_ _ _ h=>h) (Or.inl ⟨by rfl,?_⟩) Za ?_;rotate_left;(·intro u h;(try dsimp only at h);(try simp only[wab,wac,wad]);go_simp;try with_reducible rfl);try simp only[Act.put,waf,wae,wag,wab,wac,wad]
 refine wpAnyH_take (i:=5) (v:=?_) rfl Zk Zk Zk (λ_ _ _ h=>h) (Or.inl ⟨by rfl,?_⟩) Za ?_;rotate_left;(·intro u h;(try dsimp only at h);(try simp only[wab,wac,wad]);go_simp;try with_reducible rfl);try simp only[Act.put,waf,wae,wag,wab,wac,wad]
 refine wpAnyH_take (i:=7) (v:=?_) rfl Zk Zk Zk (λ_ _ _ h=>h) (Or.inl ⟨by rfl,?_⟩) Za ?_;rotate_left;(·intro u h;(try dsimp only at h);(try simp only[wab,wac,wad]);go_simp;try with_reducible rfl);try simp only[Act.put,waf,wae,wag,wab,wac,wad]
 refine wpAnyH_take (i:=8) (v:=?_) rfl Zk Zk Zk (λ_ _ _ h=>h) (Or.inl ⟨by rfl,?_⟩) Za ?_;rotate_left;(·intro u h;(try dsimp only at h);(try simp only[wab,wac,wad]);go_simp;try with_reducible rfl);try simp only[Act.put,waf,wae,wag,wab,wac,wad]
 refine wpAnyH_take (i:=9) (v:=?_) rfl Zk Zk Zk (λ_ _ _ h=>h) (Or.inl ⟨by rfl,?_⟩) Za ?_;rotate_left;(·intro u h;(try dsimp only at h);(try simp only[wab,wac,wad]);go_simp;try with_reducible rfl);try simp only[Act.put,waf,wae,wag,wab,wac,wad]
 refine wpAnyH_take (i:=12) (v:=?_) rfl Zk Zk Zk (λ_ _ _ h=>h) (Or.inl ⟨by rfl,?_⟩) Za ?_;rotate_left;(·intro u h;(try dsimp only at h);(try simp only[wab,wac,wad]);go_simp;try with_reducible rfl);try simp only[Act.put,waf,wae,wag,wab,wac,wad]
 refine wpAnyH_take (i:=13) (v:=?_) rfl Zk Zk Zk (λ_ _ _ h=>h) (Or.inl ⟨by rfl,?_⟩) Za ?_;rotate_left;(·intro u h;(try dsimp only at h);(try simp only[wab,wac,wad]);go_simp;try with_reducible rfl);try simp only[Act.put,waf,wae,wag,wab,wac,wad]
 refine wpAnyH_take (i:=14) (v:=?_) rfl Zk Zk Zk (λ_ _ _ h=>h) (Or.inl ⟨by rfl,?_⟩) Za ?_;rotate_left;(·intro u h;(try dsimp only at h);(try simp only[wab,wac,wad]);go_simp;try with_reducible rfl);try simp only[Act.put,waf,wae,wag,wab,wac,wad]
 refine wpAnyH_ready (rs:=[6]) Zk Zs ?_;refine AllReadyH.cons rfl (λK hK=>?_) AllReadyH.nil
 (try simp only[wab,wac,wad])
 go_simp
 refine hld.out.mono ?_;intro e V2 hpost;rcases hpost.done (AP.tame hw.out) with ⟨m,i2,l2,s2,x2,F2,ho2,rfl,rfl,hI2,hg2,hu2⟩|⟨bl,l2,s2,F2,ho2,rfl,hO2,hg2,hu2⟩
 rotate_left
 ·exact⟨rfl,qal (hA1d.out.off hO2 hg2 hu2) (by rw[AP.bind_stop ho2])⟩
 have hw7:=waa (AP.tame_next (t:=qar E.n E.nl E.who ws ST) (f:=endC A E ws to_ j0 j4 j5 j6) hw.out ho2);have hob7:=waa (show((qar E.n E.nl E.who ws ST).bind (endC A E ws to_ j0 j4 j5 j6)) E.sp i l s=endC A E ws to_ j0 j4 j5 j6 m E.sp i2 l2 s2 from AP.bind_done ho2);have hm64:=qfa ho2 hI2.lt64 hA1d.out.a.a.ok;have hu2':Upd F V1 V2:=(((Upd.refl (λ_=>False) V1).drew).mono (λ_ e=>e.elim)).trans hu2;have hx2:=waa (hu2'.block2 hx1.out hF0);have hF2:=hg2.no (show w.heap.size<V1.drew.heap.size from hX1) hF0;have hA2:=waa (hA1d.out.step hI2 hg2 hu2);have hX2:=wak hX1 hu2'.size;have hwt:=waa (qns m j5 V2 hm64 Zo Zo);obtain⟨⟨t0,t1,t2,t3,t4,t5,t6⟩,tf⟩:=qau hx2.out;clear hpost hI2 hg2 hu2 hu2' ho2 hA1d hx1 hw hld y0 y1 y2 y3 y4 y5 y6 yf;go_wp2_with fail;refine hK.out _ _ (⟨t0,t5⟩) (λhHeld2=>?_);clear hK K hHeld;have hHeld:=hHeld2;clear hHeld2;try simp only[Act.put,waf,wae,wag,wab,wac,wad]
 refine wpAnyH_ready (rs:=[10]) Zk Zs ?_;refine AllReadyH.cons rfl (λK hK=>?_) AllReadyH.nil
 (try simp only[wab,wac,wad])
 go_simp
 refine hwt.out.mono ?_;rintro e V10 ⟨rfl,rfl⟩;go_wp2_with fail;refine hK.out _ _ (⟨t0,t5⟩) (λhHeld2=>?_);clear hK K hHeld;have hHeld:=hHeld2;clear hHeld2;try simp only[Act.put,waf,wae,wag,wab,wac,wad]
 refine wpAnyH_take (i:=11) (v:=?_) rfl Zk Zk Zk (λ_ _ _ h=>h) (Or.inl ⟨by rfl,?_⟩) Za ?_;rotate_left;(·intro u h;(try dsimp only at h);(try simp only[wab,wac,wad]);go_simp;try with_reducible rfl);try simp only[Act.put,waf,wae,wag,wab,wac,wad]
 refine wpAnyH_ready (rs:=[15]) Zk Zs ?_;refine AllReadyH.cons rfl (λK hK=>?_) AllReadyH.nil
 (try simp only[wab,wac,wad])
 go_simp
 have hBs:=(wai V2.heap.size V2).alloc (wah _) (.cells #[.int .i64 to_,.int .u64 0,.int .i64 ST,.int .u64 ((qbh m j5:Nat):Int),.int .i64 j0,.int .u64 0] 169);have hrow:(V2.alloc (.cells #[.int .i64 to_,.int .u64 0,.int .i64 ST,.int .u64 ((qbh m j5:Nat):Int),.int .i64 j0,.int .u64 0] 169)).heap[V2.heap.size]? =some (.cells (eV [(to_,0),(ST,qbh m j5),(j0,0)]).toArray 169 (0,0)):=heap_alloc_new V2 _;have hA3:=hA2.out.below hBs;have hx3:=(hBs.block _ hX2).trans hx2.out;obtain⟨⟨c0,c1,c2,c3,c4,c5,c6⟩,cf⟩:=qau hx3;obtain⟨W3,hW3⟩:∃W3,V2.alloc (.cells #[.int .i64 to_,.int .u64 0,.int .i64 ST,.int .u64 ((qbh m j5:Nat):Int),.int .i64 j0,.int .u64 0] 169)=W3:=⟨_,rfl⟩
 rw[hW3] at hBs hrow hA3 hx3 c0 c1 c2 c3 c4 c5 c6 cf;have hX3:w.heap.size<W3.heap.size:=(waj.1 hx3).1;have hwl:=qon m hm64 j5;have hcm:=waa (qgd (es:=[(to_,0),(ST,qbh m j5),(j0,0)]) hA3.a ⟨V2.heap.size,0,none⟩ 3 3 rfl (λj y hy=>by
   have e0:(⟨V2.heap.size,0,none⟩:Addr).add j=⟨V2.heap.size,j,none⟩:=by unfold Addr.add;split<;>simp_all
   rw[e0,qab hrow];simpa using hy) (λe he=>by
   simp only[wa1,wci,or_false] at he;rcases he with rfl|rfl|rfl
   ·exact⟨⟨by dsimp only;omega,by dsimp only;omega⟩,by dsimp only;omega⟩
   ·exact⟨⟨by dsimp only;omega,by dsimp only;omega⟩,hwl⟩
   ·exact⟨⟨by dsimp only;omega,by dsimp only;omega⟩,by dsimp only;omega⟩) Zo)
 try rw[hW3]
 replace hA3:=waa hA3;replace hx3:=waa hx3;clear hBs hrow hA2 hx2 hwt t0 t1 t2 t3 t4 t5 t6 tf;refine hK.out _ _ (⟨c0,c5⟩) (λhHeld2=>?_);clear hK K hHeld;have hHeld:=hHeld2;clear hHeld2;try simp only[Act.put,waf,wae,wag,wab,wac,wad]
 refine wpAnyH_ready (rs:=[16]) Zk Zs ?_;refine AllReadyH.cons rfl (λK hK=>?_) AllReadyH.nil
 (try simp only[wab,wac,wad])
 go_simp
 refine hcm.out.mono ?_;rintro e V4 ⟨rfl,v2,hI4,hu4,hv2⟩;have hA4:=hA3.out.next (F2:=F2) hI4 (Grows.refl _ _) (hu4.mono (λk hk=> .inr (hk.imp id (λe=>e.imp id (λe=>e.elim))))) hv2;have hnx:¬ownH A v noH w.heap.size:=by
  rintro(e|e|e)
  ·omega
  ·have:w.heap.size<w.heap.size:=hvb _ e
   omega
  ·exact e
 have hx4:=hu4.block2 hx3.out hnx;obtain⟨⟨d0,d1,d2,d3,d4,d5,d6⟩,df⟩:=qau hx4;have hX4:=wak hX3 hu4.size;have hvx:v2.ownBlock≠some w.heap.size:=λe=>(hv2 _ e).elim (λe=>by have:w.heap.size<w.heap.size:=hvb _ e;omega) (λe=>by omega)
 replace hA4:=waa hA4;replace hx4:=waa hx4;clear hI4 hu4 hA3 hx3 hcm c0 c1 c2 c3 c4 c5 c6 cf hnx;go_wp2_with fail;refine hK.out _ _ (⟨d0,d5⟩) (λhHeld2=>?_);clear hK K hHeld;have hHeld:=hHeld2;clear hHeld2;try simp only[Act.put,waf,wae,wag,wab,wac,wad]
 refine wpAnyH_done Zk ?_ _;clear d0 d1 d2 d3 d5;go_upto_region 3 with fail
 refine wp_region_held_drew (S:=(λU=>U.cell? ⟨w.heap.size,4,none⟩=some (.int .i64 j4)/\U.cell? ⟨w.heap.size,6,none⟩=some (.int .i64 j6))) Zk (⟨d4,d6⟩) (λhHeld=>?_);refine wpAnyH_take (i:=0) (v:=?_) rfl Zk Zk Zk (λ_ _ _ h=>h) (Or.inl ⟨by rfl,?_⟩) Za ?_;rotate_left;(·intro u h;(try dsimp only at h);(try simp only[wab,wac]);go_simp;try with_reducible rfl);try simp only[Act.put,waf,wae,wag,wab,wac]
 refine wpAnyH_take (i:=1) (v:=?_) rfl Zk Zk Zk (λ_ _ _ h=>h) (Or.inl ⟨by rfl,?_⟩) Za ?_;rotate_left;(·intro u h;(try dsimp only at h);(try simp only[wab,wac,wad]);go_simp;try with_reducible rfl);try simp only[Act.put,waf,wae,wag,wab,wac,wad]
 refine wpAnyH_take (i:=2) (v:=?_) rfl Zk Zk Zk (λ_ _ _ h=>h) (Or.inl ⟨by rfl,?_⟩) Za ?_;rotate_left;(·intro u h;(try dsimp only at h);(try simp only[wab,wac,wad]);go_simp;try with_reducible rfl);try simp only[Act.put,waf,wae,wag,wab,wac,wad]
 refine wpAnyH_take (i:=3) (v:=?_) rfl Zk Zk Zk (λ_ _ _ h=>h) (Or.inl ⟨by rfl,?_⟩) Za ?_;rotate_left;(·intro u h;(try dsimp only at h);(try simp only[wab,wac,wad]);go_simp;try with_reducible rfl);try simp only[Act.put,waf,wae,wag,wab,wac,wad]
 refine wpAnyH_take (i:=4) (v:=?_) rfl Zk Zk Zk (λ_ _ _ h=>h) (Or.inl ⟨by rfl,?_⟩) Za ?_;rotate_left;(·intro u h;(try dsimp only at h);(try simp only[wab,wac,wad]);go_simp;try with_reducible rfl);try simp only[Act.put,waf,wae,wag,wab,wac,wad]
 refine wpAnyH_take (i:=5) (v:=?_) rfl Zk Zk Zk (λ_ _ _ h=>h) (Or.inl ⟨by rfl,?_⟩) Za ?_;rotate_left;(·intro u h;(try dsimp only at h);(try simp only[wab,wac,wad]);go_simp;try with_reducible rfl);try simp only[Act.put,waf,wae,wag,wab,wac,wad]
 refine wpAnyH_take (i:=6) (v:=?_) rfl Zk Zk Zk (λ_ _ _ h=>h) (Or.inl ⟨by rfl,?_⟩) Za ?_;rotate_left;(·intro u h;(try dsimp only at h);(try simp only[wab,wac,wad]);go_simp;try with_reducible rfl);try simp only[Act.put,waf,wae,wag,wab,wac,wad]
 refine wpAnyH_take (i:=7) (v:=?_) rfl Zk Zk Zk (λ_ _ _ h=>h) (Or.inl ⟨by rfl,?_⟩) Za ?_;rotate_left;(·intro u h;(try dsimp only at h);(try simp only[wab,wac,wad]);go_simp;try with_reducible rfl);try simp only[Act.put,waf,wae,wag,wab,wac,wad]
 refine wpAnyH_take (i:=8) (v:=?_) rfl Zk Zk Zk (λ_ _ _ h=>h) (Or.inl ⟨by rfl,?_⟩) Za ?_;rotate_left;(·intro u h;(try dsimp only at h);(try simp only[wab,wac,wad]);go_simp;try with_reducible rfl);try simp only[Act.put,waf,wae,wag,wab,wac,wad]
 refine wpAnyH_ready (rs:=[9]) Zk Zs ?_;refine AllReadyH.cons rfl (λK hK=>?_) AllReadyH.nil
 (try simp only[wab,wac,wad])
 go_simp
 try rw[hqd]
 try simp only[hmk]
 try simp only[wau]
 have hBs:=((wai V4.heap.size V4).alloc (wah _) (.cells (hV (List.replicate q (0,0,0))).toArray 134)).drew;have hhr:(V4.alloc (.cells (hV (List.replicate q (0,0,0))).toArray 134)).drew.heap[V4.heap.size]? =some (.cells (hV (List.replicate q (0,0,0))).toArray 134 (0,0)):=heap_alloc_new V4 _;have hA5:=hA4.out.below hBs;have hx5:=(hBs.block _ hX4).trans hx4.out;obtain⟨⟨c0,c1,c2,c3,c4,c5,c6⟩,cf⟩:=qau hx5;have hHd:=HdsRd.of_blk hhr;rw[wa0] at hHd;obtain⟨W5,hW5⟩:∃W5,(V4.alloc (.cells (hV (List.replicate q (0,0,0))).toArray 134)).drew=W5:=⟨_,rfl⟩
 rw[hW5] at hA5 hx5 hHd c0 c1 c2 c3 c4 c5 c6 cf;have hhw:=waa (qjj (cap:=q) (n:=q) hA5.a.a j4 hHd hmay.out ⟨Zo,Zo⟩ Zo);have hX5:w.heap.size<W5.heap.size:=(waj.1 hx5).1;try rw[hW5]
 replace hA5:=waa hA5;replace hx5:=waa hx5;clear hHd hBs hhr hA4 hx4 d4 d6 df;refine hK.out _ _ (⟨c4,c6⟩) (λhHeld2=>?_);clear hK K hHeld;have hHeld:=hHeld2;clear hHeld2;try simp only[Act.put,waf,wae,wag,wab,wac,wad]
 refine wpAnyH_ready (rs:=[10]) Zk Zs ?_;refine AllReadyH.cons rfl (λK hK=>?_) AllReadyH.nil
 (try simp only[wab,wac,wad])
 go_simp
 refine hhw.out.mono ?_;rintro e V6 ⟨u,rfl,hrow,-,hB6⟩;have hA6:=hA5.out.below hB6;have hx6:=(hB6.block _ hX5).trans hx5.out;obtain⟨⟨d0,d1,d2,d3,d4,d5,d6⟩,df⟩:=qau hx6;have hcm2:=waa (qli (es:=hwL A.s A.l A.r j4 (List.replicate q (0,0,0))) hA6.a hrow hhb.out (by rw[qjt,wa0];simp;omega));have hX6:=wak hX5 hB6.size;replace hA6:=waa hA6;replace hx6:=waa hx6;clear hrow hB6 hA5 hx5 hhw c0 c1 c2 c3 c4 c5 c6 cf;go_wp2_with fail;refine hK.out _ _ (⟨d4,d6⟩) (λhHeld2=>?_);clear hK K hHeld;have hHeld:=hHeld2;clear hHeld2;try simp only[Act.put,waf,wae,wag,wab,wac,wad]
 refine wpAnyH_ready (rs:=[11]) Zk Zs ?_;refine AllReadyH.cons rfl (λK hK=>?_) AllReadyH.nil
 (try simp only[wab,wac,wad])
 go_simp
 refine hcm2.out.mono ?_;rintro e V7 ⟨rfl,v3,hI7,hu7,hv3⟩;have hA7:=hA6.out.next (F2:=F2) hI7 (Grows.refl _ _) (hu7.mono (λk hk=> .inr (hk.imp id (λe=>e.imp id (λe=>e.elim))))) hv3;have hx7:=hu7.block2 hx6.out (by
  rintro(e|e|e)
  ·omega
  ·exact hvx e
  ·exact e)
 obtain⟨⟨c0,c1,c2,c3,c4,c5,c6⟩,cf⟩:=qau hx7;replace hA7:=waa hA7;clear hI7 hu7 hA6 hx6 hcm2 hx7 d0 d1 d2 d3 d4 d5 d6 df;go_wp2_with fail;refine hK.out _ _ (⟨c4,c6⟩) (λhHeld2=>?_);clear hK K hHeld;have hHeld:=hHeld2;clear hHeld2;try simp only[Act.put,waf,wae,wag,wab,wac,wad]
 refine wpAnyH_done Zk ?_ _;have hlen:(ws++[(to_,0),(ST,qbh m j5),(j0,0)]++hwL A.s A.l A.r j4 (List.replicate q (0,0,0))).length<=300:=by
  rw[wbh,qjt,wa0];simp
  omega
 have hwp:((pubA A E (ws++[(to_,0),(ST,qbh m j5),(j0,0)]++hwL A.s A.l A.r j4 (List.replicate q (0,0,0)))).bind λ_=>AP.ret ((),ws++[(to_,0),(ST,qbh m j5),(j0,0)]++hwL A.s A.l A.r j4 (List.replicate q (0,0,0)))) E.sp i2 l2 s2≠ .wild:=by
  have:=hw7.out
  unfold endC at this;rw[hend.out] at this;exact this
 have hob8:((qar E.n E.nl E.who ws ST).bind (endC A E ws to_ j0 j4 j5 j6)) E.sp i l s=((pubA A E (ws++[(to_,0),(ST,qbh m j5),(j0,0)]++hwL A.s A.l A.r j4 (List.replicate q (0,0,0)))).bind λ_=>AP.ret ((),ws++[(to_,0),(ST,qbh m j5),(j0,0)]++hwL A.s A.l A.r j4 (List.replicate q (0,0,0)))) E.sp i2 l2 s2:=by
  have:=hob7.out
  unfold endC at this ⊢;rw[hend.out] at this;exact this
 have hpb:=waa (qgv hA7.out.a hlen (AP.tame hwp));replace hwp:=waa hwp;replace hob8:=waa hob8;clear hw7 hob7 c0 c1 c2 c3 c4 c5 c6 cf hlen;generalize hPQ:ws++[(to_,0),(ST,qbh m j5),(j0,0)]++hwL A.s A.l A.r j4 (List.replicate q (0,0,0))=PQ at hA7 hwp hob8 hpb;go_wp2_with fail;refine hpb.out.mono ?_;intro e V8 hpost;rcases DP.Post.done (t:=pubA A E PQ) hpost (AP.tame hwp.out) with ⟨u6,i6,l6,s6,x6,F6,ho6,rfl,rfl,hI6,hg6,hu6⟩|⟨bl,l6,s6,F6,ho6,rfl,hO6,hg6,hu6⟩
 rotate_left
 ·exact⟨rfl,qal (hA7.out.off hO6 hg6 hu6) (by rw[hob8.out,AP.bind_stop ho6])⟩
 have hfin:=waa (AtH.done (t:=(qar E.n E.nl E.who ws ST).bind (endC A E ws to_ j0 j4 j5 j6)) (R:=λ_ x _=>x= .tuple #[]) (a:=()) (x:= .tuple #[]) (hA7.out.step hI6 hg6 hu6) (hob8.out.trans (AP.bind_done ho6)) rfl);clear hpost hI6 hg6 hu6 ho6 hob8 hwp hpb hA7;go_wp2_with fail;go_end0
 exact hfin.out
end
end Go.Proofs.YtgjhkafggagniaaGreat
