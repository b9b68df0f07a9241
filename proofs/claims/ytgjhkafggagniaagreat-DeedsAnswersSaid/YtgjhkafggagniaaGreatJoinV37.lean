/- Parts. No condition. -/
import Derived.Test.YtgjhkafggagniaaGreatJoinV35
import Derived.Test.YtgjhkafggagniaaGreatJoinV36
set_option linter.unusedVariables false
set_option maxRecDepth 100000
set_option maxHeartbeats 8000000
namespace Go.Proofs.YtgjhkafggagniaaGreat
open Go Go.RowKit
noncomputable def smlG (A:AC) (L:Nat) (a c:Int) (r:ANS×List (Int×Nat)):DAP:=if r.1.1≠0 then(givA L A.who c a).bind λ_=>AP.ret r else AP.ret r
noncomputable def smlB (A:AC) (E:DP HS) (L:Nat) (ws:List (Int×Nat)) (a c:Int):DAP:=(beginA A E ws [] a (szN c)).bind (smlG A L a c)
noncomputable def smlC (A:AC) (E:DP HS) (L:Nat) (c:Int) (r:ANS×List (Int×Nat)):DAP:=if r.1.1≠0 then AP.ret r else if r.2.length<=200 then qbe E 1 (smlB A E L r.2 r.1.2.1 c) else qbd
noncomputable def smallA (A:AC) (E:DP HS) (n L:Nat) (c:Int) (ws:List (Int×Nat)):DAP:=(tknA A E n L c ws).bind (smlC A E L c)
section
variable {A:AC} {E:DP HS} {i i':Nat} {l l':List Nat} {s s':DM×HS} {F F' H:Nat->Prop} {v v':Value} {ws ws' more:List (Int×Nat)} {w w' w2:World} {base n L b0 b1 b2:Nat} {e:Ending}
theorem qsd(h:AIn A E i l s F v ws w)(hD:DdE A E base n L)(k0:Boxed w b0 154 (.pointer (some ⟨A.ab,0,none⟩)))(m0:¬F b0){z0 a:Int}{x0:Nat}(k1:w.heap[b1]? =some (.cells #[.int .i64 z0,.int .i64 a,.int .u64 (x0:Int)] 60 (0,0)))(m1:¬F b1){c:Int}(k2:Boxed w b2 3 (.int .i64 c))(m2:¬F b2)(hn:∀k,k=b0\/k=b1\/k=b2->¬ownH A v H k)(hc:0<=c/\c<4)(ho:-9223372036854775808<=A.obj/\A.obj<=9223372036854775807)(hm:ws.length<=200){eX:Option Addr}{en ec:Nat}(hed:A.ed= .slice eX en ec)(hH:∀k,H k->k<w.heap.size)(hw:smlB A E L ws a c E.sp i l s≠ .wild):
  Calls Tryz.prog 257 #[.pointer (some ⟨b0,0,none⟩),.pointer (some ⟨b1,0,none⟩),.pointer (some ⟨b2,0,none⟩)] w λe w'=>qb6 A E (smlB A E L ws a c E.sp i l s) (λa x _=>x=anX a) F H v w e w':=by
 have hu:Upd (λ_=>False) w (w.alloc (.cells #[.int .i64 0,.int .i64 0,.int .u64 0] 60)):=(Upd.refl _ w).alloc _;have hA0b:=(AtH.start (H:=H) h).new hu;have hA0:=hA0b.new ((Upd.refl (λ_=>False) _).drew);have hL0:(w.alloc (.cells #[.int .i64 0,.int .i64 0,.int .u64 0] 60)).heap[w.heap.size]? =some (.cells #[.int .i64 0,.int .i64 0,.int .u64 0] 60 (0,0)):=heap_alloc_new w _;have hk0:Boxed (w.alloc (.cells #[.int .i64 0,.int .i64 0,.int .u64 0] 60)) b0 154 (.pointer (some ⟨A.ab,0,none⟩)):=qac k0 hu (λe=>e);have hk1:(w.alloc (.cells #[.int .i64 0,.int .i64 0,.int .u64 0] 60)).heap[b1]? =some (.cells #[.int .i64 z0,.int .i64 a,.int .u64 (x0:Int)] 60 (0,0)):=hu.block2 k1 (λe=>e);have hk2:Boxed (w.alloc (.cells #[.int .i64 0,.int .i64 0,.int .u64 0] 60)) b2 3 (.int .i64 c):=qac k2 hu (λe=>e);obtain⟨W1,hW1⟩:∃W1,w.alloc (.cells #[.int .i64 0,.int .i64 0,.int .u64 0] 60)=W1:=⟨_,rfl⟩
 rw[hW1] at hA0 hA0b hL0 hu hk0 hk1 hk2;have hs1:w.heap.size<W1.heap.size:=by rw[<-hW1];simp
 have hF0:¬F w.heap.size:=λe=>by have:=h.i.lt e;omega
 have hR0:v.ownBlock≠some w.heap.size:=λe=>by have:=(h.a.row.lt _ e).2;omega
 have hHB:¬H w.heap.size:=λe=>by have:=hH _ e;omega
 have hlt:=h.a.lt;have hab:∀k,k=E.a\/k=E.b\/k=E.c->k≠w.heap.size:=λk hk e=>by have:=h.i.low k (.inr hk);omega
 have hFl:∀k,F k->k<w.heap.size:=λk hk=>h.i.lt hk
 have hvl:∀k,v.ownBlock=some k->k<w.heap.size:=λk hk=>(h.a.row.lt k hk).2
 have hE:∀k,k=E.a\/k=E.b\/k=E.c->k<w.heap.size:=λk hk=>h.i.low k (.inr hk)
 have hw1:beginA A E ws [] a (szN c) E.sp i l s≠ .wild:=AP.tame hw;have hsz:=waa (λV=>qdq c V);have c0:=hk0.cell;have c1:W1.cell? ⟨b1,1,none⟩=some (.int .i64 a):=qab hk1 1;have c2:=hk2.cell;have hl0:=hk0.lt;have hl1:=(waj.1 hk1).1;have hl2:=hk2.lt;have hn0:=hn b0 (.inl rfl);have hn1:=hn b1 (.inr (.inl rfl));have hn2:=hn b2 (.inr (.inr rfl));replace hA0:=waa hA0;replace hA0b:=waa hA0b;replace hL0:=waa hL0;replace hk0:=waa hk0;replace hk1:=waa hk1;replace hk2:=waa hk2;replace hw:=waa hw;clear h k0 k1 k2 hu hn;go_enter Tryz.func257,Tryz.ntmps257;go_upto_region 1 with fail
 try rw[hW1]
 refine wp_region_held_drew (S:=(λU=>U.cell? ⟨b0,0,none⟩=some (.pointer (some ⟨A.ab,0,none⟩))/\U.cell? ⟨b1,1,none⟩=some (.int .i64 a)/\U.cell? ⟨b2,0,none⟩=some (.int .i64 c))) Zk (⟨c0,c1,c2⟩) (λhHeld=>?_);refine wpAnyH_take (i:=0) (v:=?_) rfl Zk Zk Zk (λ_ _ _ h=>h) (Or.inl ⟨by rfl,?_⟩) Za ?_;rotate_left;(·intro u h;(try dsimp only at h);(try simp only[wab,wac]);go_simp;try with_reducible rfl);try simp only[Act.put,waf,wae,wag,wab,wac]
 refine wpAnyH_take (i:=1) (v:=?_) rfl Zk Zk Zk (λ_ _ _ h=>h) (Or.inl ⟨by rfl,?_⟩) Za ?_;rotate_left;(·intro u h;(try dsimp only at h);(try simp only[wab,wac,wad]);go_simp;try with_reducible rfl);try simp only[Act.put,waf,wae,wag,wab,wac,wad]
 refine wpAnyH_take (i:=2) (v:=?_) rfl Zk Zk Zk (λ_ _ _ h=>h) (Or.inl ⟨by rfl,?_⟩) Za ?_;rotate_left;(·intro u h;(try dsimp only at h);(try simp only[wab,wac,wad]);go_simp;try with_reducible rfl);try simp only[Act.put,waf,wae,wag,wab,wac,wad]
 refine wpAnyH_take (i:=3) (v:=?_) rfl Zk Zk Zk (λ_ _ _ h=>h) (Or.inl ⟨by rfl,?_⟩) Za ?_;rotate_left;(·intro u h;(try dsimp only at h);(try simp only[wab,wac,wad]);go_simp;try with_reducible rfl);try simp only[Act.put,waf,wae,wag,wab,wac,wad]
 refine wpAnyH_ready (rs:=[4,6]) Zk Zs ?_;refine AllReadyH.cons rfl (λK hK=>?_) (AllReadyH.cons rfl (λK hK=>?_) AllReadyH.nil)
 ·(try simp only[wab,wac,wad])
  go_simp
  refine(hsz.out _).mono ?_;rintro e VS ⟨rfl,rfl⟩;go_wp2_with fail;refine hK.out _ _ (⟨c0,c1,c2⟩) (λhHeld2=>?_);clear hK K hHeld;have hHeld:=hHeld2;clear hHeld2;try simp only[Act.put,waf,wae,wag,wab,wac,wad]
  refine wpAnyH_ready (rs:=[5,6]) Zk Zs ?_;refine AllReadyH.cons rfl (λK hK=>?_) (AllReadyH.cons rfl (λK hK=>?_) AllReadyH.nil)
  ·(try simp only[wab,wac,wad])
   go_simp
   have hsW:w.heap.size<W1.heap.size:=(waj.1 hL0.out).1;refine(qf6 (H:=H) (more:=[]) (u:= .slice none 0 0) (bs:=0) (nm:=0) hA0.out.a hD a (szN c) ⟨rfl,.inl ⟨rfl,rfl⟩⟩ (λk hk=>by cases hk) (λe he=>by cases he) Zs ho hm hed hw1).mono ?_;intro e V hpost;obtain⟨hu2,hp2⟩:=hpost;cases ho2:beginA A E ws [] a (szN c) E.sp i l s with
   |wild=>exact absurd ho2 hw1
   |stop bl l2 s2=>
    rw[ho2] at hp2;obtain⟨F2,rfl,hO2,hg2⟩:=hp2;exact⟨rfl,qal (hA0.out.offH hO2 hg2 hu2) (by unfold smlB;rw[AP.bind_stop ho2])⟩
   |done r i2 l2 s2=>?_
   rw[ho2] at hp2;obtain⟨x2,F2,v2,rfl,rfl,hI2,hg2,hr2⟩:=hp2;have hw2:=waa (AP.tame_next (t:=beginA A E ws [] a (szN c)) (f:=smlG A L a c) hw.out ho2);have hob1:=waa (show smlB A E L ws a c E.sp i l s=smlG A L a c r E.sp i2 l2 s2 by unfold smlB;rw[AP.bind_done ho2]);have hnB:¬(F w.heap.size\/ownH A v H w.heap.size):=by
    rintro(e|e|e|e)
    ·exact hF0 e
    ·omega
    ·exact hR0 e
    ·exact hHB e
   have hL2:=hu2.block2 hL0.out hnB;have hF2:=hg2.no hsW hF0;have hWV:W1.heap.size<=V.heap.size:=hu2.size;have hR2:v2.ownBlock≠some w.heap.size:=λe=>(hr2 _ e).elim hR0 (λe=>by have:W1.heap.size<=w.heap.size:=e;omega)
   have h0:Boxed V b0 154 (.pointer (some ⟨A.ab,0,none⟩)):=hu2.block2 hk0.out (λe=>e.elim m0 hn0);have h1:=hu2.block2 hk1.out (λe=>e.elim m1 hn1);have h2:Boxed V b2 3 (.int .i64 c):=hu2.block2 hk2.out (λe=>e.elim m2 hn2);have q0:=hg2.no hk0.out.lt m0;have q1:=hg2.no (waj.1 hk1.out).1 m1;have q2:=hg2.no hk2.out.lt m2;have hA2:=hA0.out.next hI2 hg2 hu2 hr2;have hs2:=wak hsW hu2.size;obtain⟨⟨a0,a1,a2⟩,aw⟩:=r;unfold anX anV;dsimp only
   have f0:=h0.cell;have f1:V.cell? ⟨b1,1,none⟩=some (.int .i64 a):=qab h1 1;have f2:=h2.cell;replace hA2:=waa hA2;replace hL2:=waa hL2;replace h0:=waa h0;replace h1:=waa h1;replace h2:=waa h2;clear hI2 hg2 hu2 hr2 hw ho2 hw1 hnB;go_wp2_with fail;refine hK.out _ _ (⟨f0,f1,f2⟩) (λhHeld2=>?_);clear hK K hHeld;have hHeld:=hHeld2;clear hHeld2;try simp only[Act.put,waf,wae,wag,wab,wac,wad]
   refine wpAnyH_ready (rs:=[6]) Zk Zs ?_;refine AllReadyH.cons rfl (λK hK=>?_) AllReadyH.nil
   (try simp only[wab,wac,wad])
   go_simp
   have hBs:=(wai V.heap.size V).alloc (wah _) (.cells #[.int .i64 0,.int .i64 0,.int .u64 0] 60);have hA3:=hA2.out.below hBs;have hL3:=(hBs.block _ hs2).trans hL2.out;have n0:Boxed (V.alloc (.cells #[.int .i64 0,.int .i64 0,.int .u64 0] 60)) b0 154 (.pointer (some ⟨A.ab,0,none⟩)):=(hBs.block _ h0.out.lt).trans h0.out;have n1:(V.alloc (.cells #[.int .i64 0,.int .i64 0,.int .u64 0] 60)).heap[b1]? =some (.cells #[.int .i64 z0,.int .i64 a,.int .u64 (x0:Int)] 60 (0,0)):=(hBs.block _ (waj.1 h1.out).1).trans h1.out;have n2:Boxed (V.alloc (.cells #[.int .i64 0,.int .i64 0,.int .u64 0] 60)) b2 3 (.int .i64 c):=(hBs.block _ h2.out.lt).trans h2.out;have hT3:(V.alloc (.cells #[.int .i64 0,.int .i64 0,.int .u64 0] 60)).heap[V.heap.size]? =some (.cells #[.int .i64 0,.int .i64 0,.int .u64 0] 60 (0,0)):=heap_alloc_new V _;have y0:=n0.cell;have y1:(V.alloc (.cells #[.int .i64 0,.int .i64 0,.int .u64 0] 60)).cell? ⟨b1,1,none⟩=some (.int .i64 a):=qab n1 1;have y2:=n2.cell;obtain⟨AB,hAB⟩:∃AB,V.heap.size=AB:=⟨_,rfl⟩
   obtain⟨W2,hW2⟩:∃W2,V.alloc (.cells #[.int .i64 0,.int .i64 0,.int .u64 0] 60)=W2:=⟨_,rfl⟩
   have hAF:¬F2 AB:=λe=>by have:=hA2.out.a.i.lt e;omega
   have hAR:v2.ownBlock≠some AB:=λe=>by have:=(hA2.out.a.a.row.lt _ e).2;omega
   have hAw:w.heap.size<AB:=Zo
   rw[hW2] at hA3 hL3 n0 n1 n2 hT3 y0 y1 y2;rw[hAB] at hT3;try rw[hW2]
   try rw[hAB]
   replace hA3:=waa hA3;replace hL3:=waa hL3;replace n0:=waa n0;replace n1:=waa n1;replace n2:=waa n2;replace hT3:=waa hT3;clear hBs hA2 hL2 h0 h1 h2;refine hK.out _ _ (⟨y0,y1,y2⟩) (λhHeld2=>?_);clear hK K hHeld;have hHeld:=hHeld2;clear hHeld2;try simp only[Act.put,waf,wae,wag,wab,wac,wad]
   refine wpAnyH_ready (rs:=[7]) Zk Zs ?_;refine AllReadyH.cons rfl (λK hK=>?_) AllReadyH.nil;obtain⟨⟨t3_,t4_,t5_⟩,tg_⟩:=qaf hT3.out
   (try simp only[wab,wac,wad])
   go_simp
   have huT:Upd (λj=>j=AB) W2 (((W2.setCell ⟨AB,0,none⟩ (.int .i64 a0)).setCell ⟨AB,1,none⟩ (.int .i64 a1)).setCell ⟨AB,2,none⟩ (.int .u64 (a2:Int))):=qam (.int .i64 a0) (.int .i64 a1) (.int .u64 (a2:Int));have hA9:=hA3.out.own (B:=AB) Zo hAF hAR huT hlt (λk hk e=>by have:=hE k hk;omega);have hT9:=qan hT3.out (.int .i64 a0) (.int .i64 a1) (.int .u64 (a2:Int));have hL9:=huT.block2 hL3.out (λe=>by omega);have hbA:b0≠AB/\b1≠AB/\b2≠AB:=Zo
   have p0:Boxed (((W2.setCell ⟨AB,0,none⟩ (.int .i64 a0)).setCell ⟨AB,1,none⟩ (.int .i64 a1)).setCell ⟨AB,2,none⟩ (.int .u64 (a2:Int))) b0 154 (.pointer (some ⟨A.ab,0,none⟩)):=huT.block2 n0.out hbA.1;have p1:=huT.block2 n1.out hbA.2.1;have p2:Boxed (((W2.setCell ⟨AB,0,none⟩ (.int .i64 a0)).setCell ⟨AB,1,none⟩ (.int .i64 a1)).setCell ⟨AB,2,none⟩ (.int .u64 (a2:Int))) b2 3 (.int .i64 c):=huT.block2 n2.out hbA.2.2;have x0_:=p0.cell;have x1_:(((W2.setCell ⟨AB,0,none⟩ (.int .i64 a0)).setCell ⟨AB,1,none⟩ (.int .i64 a1)).setCell ⟨AB,2,none⟩ (.int .u64 (a2:Int))).cell? ⟨b1,1,none⟩=some (.int .i64 a):=qab p1 1;have x2_:=p2.cell;obtain⟨V9,hV9⟩:∃V9,((W2.setCell ⟨AB,0,none⟩ (.int .i64 a0)).setCell ⟨AB,1,none⟩ (.int .i64 a1)).setCell ⟨AB,2,none⟩ (.int .u64 (a2:Int))=V9:=⟨_,rfl⟩
   rw[hV9] at hA9 hT9 hL9 p0 p1 p2 x0_ x1_ x2_;try rw[hV9]
   replace hA9:=waa hA9;replace hL9:=waa hL9;replace p0:=waa p0;replace p1:=waa p1;replace p2:=waa p2;clear huT;refine hK.out _ _ (⟨x0_,x1_,x2_⟩) (λhHeld2=>?_);clear hK K hHeld;have hHeld:=hHeld2;clear hHeld2;try simp only[Act.put,waf,wae,wag,wab,wac,wad]
   refine wpAnyH_done Zk ?_ _;obtain⟨⟨t0_,t1_,t2_⟩,tf_⟩:=qaf hT9;obtain⟨⟨l0_,l1_,l2_⟩,lf_⟩:=qaf hL9.out;have hs9:=(waj.1 hL9.out).1;by_cases hz:a0=0
   ·have hob2:smlB A E L ws a c E.sp i l s= .done ((a0,a1,a2),aw) i2 l2 s2:=by rw[hob1.out,smlG,if_neg (by simpa using hz)];rfl
    have hfin:=waa (AtH.done (t:=smlB A E L ws a c) (R:=λa x _=>x=anX a) (a:=(a0,a1,a2)) (x:=anX (a0,a1,a2)) (hA9.out.own (B:=w.heap.size) Zo hF2 hR2 (qam (.int .i64 a0) (.int .i64 a1) (.int .u64 (a2:Int))) hlt hab) hob2 rfl);replace hT9:=waa hT9;subst hz;clear hob1 hob2 hw2 hA9;go_wp2_with fail;refine qak rfl rfl rfl (qai (qan hL9.out _ _ _)) ?_;exact hfin.out
   ·have hw3:=waa (show((givA L A.who c a).bind λ_=>AP.ret ((a0,a1,a2),aw)) E.sp i2 l2 s2≠ .wild from by have:=hw2.out;rw[smlG,if_pos hz] at this;exact this)
    have hob2:=waa (show smlB A E L ws a c E.sp i l s=((givA L A.who c a).bind λ_=>AP.ret (((a0,a1,a2):ANS),aw)) E.sp i2 l2 s2 from by rw[hob1.out,smlG,if_pos hz]);have hgv:=waa (qfd hA9.out.a hD c a (AP.tame hw3.out));replace hT9:=waa hT9;clear hob1 hw2;go_wp2_with fail;refine hgv.out.mono ?_;intro e V10 hpost;rcases DP.Post.done (t:=givA L A.who c a) hpost (AP.tame hw3.out) with ⟨u6,i6,l6,s6,x6,F6,ho6,rfl,rfl,hI6,hg6,hu6⟩|⟨bl,l6,s6,F6,ho6,rfl,hO6,hg6,hu6⟩
    rotate_left
    ·exact⟨rfl,qal (hA9.out.off hO6 hg6 hu6) (by rw[hob2.out,AP.bind_stop ho6])⟩
    have hob3:smlB A E L ws a c E.sp i l s= .done ((a0,a1,a2),aw) i6 l6 s6:=by rw[hob2.out,AP.bind_done ho6];rfl
    have hL10:=hu6.block2 hL9.out hF2;have hT10:=hu6.block2 hT9.out hAF;have hF6:=hg6.no hs9 hF2;have hA10:=hA9.out.step hI6 hg6 hu6;obtain⟨⟨t3_,t4_,t5_⟩,tg_⟩:=qaf hT10;obtain⟨⟨l3_,l4_,l5_⟩,lg_⟩:=qaf hL10;have hfin:=waa (AtH.done (t:=smlB A E L ws a c) (R:=λa x _=>x=anX a) (a:=(a0,a1,a2)) (x:=anX (a0,a1,a2)) (hA10.own (B:=w.heap.size) Zo hF6 hR2 (qam (.int .i64 a0) (.int .i64 a1) (.int .u64 (a2:Int))) hlt hab) hob3 rfl);replace hL10:=waa hL10;replace hT10:=waa hT10;clear hpost hI6 hg6 hu6 ho6 hob2 hob3 hw3 hgv hA9 hA10 hL9 hT9;go_wp2_with fail;refine qak rfl rfl rfl (qai (qan hL10.out _ _ _)) ?_;exact hfin.out
  ·(try simp only[wab,wac,wad])
   go_simp
   have hBs:=((wai W1.heap.size W1).alloc (wah _) (.cells #[.int .i64 0,.int .i64 0,.int .u64 0] 60)).drew;have hA1:=hA0b.out.below hBs;have hL1:=(hBs.block _ hs1).trans hL0.out;have g0:Boxed (W1.alloc (.cells #[.int .i64 0,.int .i64 0,.int .u64 0] 60)).drew b0 154 (.pointer (some ⟨A.ab,0,none⟩)):=(hBs.block _ hl0).trans hk0.out;have g1:(W1.alloc (.cells #[.int .i64 0,.int .i64 0,.int .u64 0] 60)).drew.heap[b1]? =some (.cells #[.int .i64 z0,.int .i64 a,.int .u64 (x0:Int)] 60 (0,0)):=(hBs.block _ hl1).trans hk1.out;have g2:Boxed (W1.alloc (.cells #[.int .i64 0,.int .i64 0,.int .u64 0] 60)).drew b2 3 (.int .i64 c):=(hBs.block _ hl2).trans hk2.out;have hT1:(W1.alloc (.cells #[.int .i64 0,.int .i64 0,.int .u64 0] 60)).drew.heap[W1.heap.size]? =some (.cells #[.int .i64 0,.int .i64 0,.int .u64 0] 60 (0,0)):=heap_alloc_new W1 _;have e0:=g0.cell;have e1:(W1.alloc (.cells #[.int .i64 0,.int .i64 0,.int .u64 0] 60)).drew.cell? ⟨b1,1,none⟩=some (.int .i64 a):=qab g1 1;have e2:=g2.cell;obtain⟨AB,hAB⟩:∃AB,W1.heap.size=AB:=⟨_,rfl⟩
   obtain⟨W2,hW2⟩:∃W2,(W1.alloc (.cells #[.int .i64 0,.int .i64 0,.int .u64 0] 60)).drew=W2:=⟨_,rfl⟩
   have hAW:AB<W2.heap.size:=by rw[<-hW2,<-hAB];simp
   rw[hW2] at hA1 hL1 g0 g1 g2 hT1 e0 e1 e2;rw[hAB] at hT1;try rw[hW2]
   try rw[hAB]
   replace hA1:=waa hA1;replace hL1:=waa hL1;replace g0:=waa g0;replace g1:=waa g1;replace g2:=waa g2;replace hT1:=waa hT1;clear hBs;refine hK.out _ _ (⟨e0,e1,e2⟩) (λhHeld2=>?_);clear hK K hHeld;have hHeld:=hHeld2;clear hHeld2;try simp only[Act.put,waf,wae,wag,wab,wac,wad]
   refine wpAnyH_ready (rs:=[5]) Zk Zs ?_;refine AllReadyH.cons rfl (λK hK=>?_) AllReadyH.nil
   (try simp only[wab,wac,wad])
   go_simp
   have hsW:w.heap.size<W2.heap.size:=(waj.1 hL1.out).1;refine(qf6 (H:=H) (more:=[]) (u:= .slice none 0 0) (bs:=0) (nm:=0) hA1.out.a hD a (szN c) ⟨rfl,.inl ⟨rfl,rfl⟩⟩ (λk hk=>by cases hk) (λe he=>by cases he) Zs ho hm hed hw1).mono ?_;intro e V hpost;obtain⟨hu2,hp2⟩:=hpost;cases ho2:beginA A E ws [] a (szN c) E.sp i l s with
   |wild=>exact absurd ho2 hw1
   |stop bl l2 s2=>
    rw[ho2] at hp2;obtain⟨F2,rfl,hO2,hg2⟩:=hp2;exact⟨rfl,qal (hA1.out.offH hO2 hg2 hu2) (by unfold smlB;rw[AP.bind_stop ho2])⟩
   |done r i2 l2 s2=>?_
   rw[ho2] at hp2;obtain⟨x2,F2,v2,rfl,rfl,hI2,hg2,hr2⟩:=hp2;have hw2:=waa (AP.tame_next (t:=beginA A E ws [] a (szN c)) (f:=smlG A L a c) hw.out ho2);have hob1:=waa (show smlB A E L ws a c E.sp i l s=smlG A L a c r E.sp i2 l2 s2 by unfold smlB;rw[AP.bind_done ho2]);have hnB:¬(F w.heap.size\/ownH A v H w.heap.size):=by
    rintro(e|e|e|e)
    ·exact hF0 e
    ·omega
    ·exact hR0 e
    ·exact hHB e
   have hL2:=hu2.block2 hL1.out hnB;have hF2:=hg2.no hsW hF0;have hWV:W2.heap.size<=V.heap.size:=hu2.size;have hR2:v2.ownBlock≠some w.heap.size:=λe=>(hr2 _ e).elim hR0 (λe=>by have:W2.heap.size<=w.heap.size:=e;omega)
   have h0:Boxed V b0 154 (.pointer (some ⟨A.ab,0,none⟩)):=hu2.block2 g0.out (λe=>e.elim m0 hn0);have h1:=hu2.block2 g1.out (λe=>e.elim m1 hn1);have h2:Boxed V b2 3 (.int .i64 c):=hu2.block2 g2.out (λe=>e.elim m2 hn2);have q0:=hg2.no g0.out.lt m0;have q1:=hg2.no (waj.1 g1.out).1 m1;have q2:=hg2.no g2.out.lt m2;have hA2:=hA1.out.next hI2 hg2 hu2 hr2;have hs2:=wak hsW hu2.size;have hAnB:¬(F AB\/ownH A v H AB):=by
    rintro(e|e|e|e)
    ·have:=hFl _ e;omega
    ·omega
    ·have:=hvl _ e;omega
    ·have:=hH _ e;omega
   have hT3:=waa (hu2.block2 hT1.out hAnB);have hAF:¬F2 AB:=hg2.no hAW (λe=>by have:=hFl _ e;omega);have hAR:v2.ownBlock≠some AB:=λe=>(hr2 _ e).elim (λe=>by have:=hvl _ e;omega) (λe=>by omega)
   have hAw:w.heap.size<AB:=Zo
   obtain⟨⟨a0,a1,a2⟩,aw⟩:=r;unfold anX anV;dsimp only
   have f0:=h0.cell;have f1:V.cell? ⟨b1,1,none⟩=some (.int .i64 a):=qab h1 1;have f2:=h2.cell;replace hA2:=waa hA2;replace hL2:=waa hL2;replace h0:=waa h0;replace h1:=waa h1;replace h2:=waa h2;clear hI2 hg2 hu2 hr2 hw ho2 hw1 hnB;go_wp2_with fail;refine hK.out _ _ (⟨f0,f1,f2⟩) (λhHeld2=>?_);clear hK K hHeld;have hHeld:=hHeld2;clear hHeld2;try simp only[Act.put,waf,wae,wag,wab,wac,wad]
   refine wpAnyH_ready (rs:=[7]) Zk Zs ?_;refine AllReadyH.cons rfl (λK hK=>?_) AllReadyH.nil;obtain⟨⟨t3_,t4_,t5_⟩,tg_⟩:=qaf hT3.out
   (try simp only[wab,wac,wad])
   go_simp
   have huT:Upd (λj=>j=AB) V (((V.setCell ⟨AB,0,none⟩ (.int .i64 a0)).setCell ⟨AB,1,none⟩ (.int .i64 a1)).setCell ⟨AB,2,none⟩ (.int .u64 (a2:Int))):=qam (.int .i64 a0) (.int .i64 a1) (.int .u64 (a2:Int));have hA9:=hA2.out.own (B:=AB) Zo hAF hAR huT hlt (λk hk e=>by have:=hE k hk;omega);have hT9:=qan hT3.out (.int .i64 a0) (.int .i64 a1) (.int .u64 (a2:Int));have hL9:=huT.block2 hL2.out (λe=>by omega);have hbA:b0≠AB/\b1≠AB/\b2≠AB:=Zo
   have p0:Boxed (((V.setCell ⟨AB,0,none⟩ (.int .i64 a0)).setCell ⟨AB,1,none⟩ (.int .i64 a1)).setCell ⟨AB,2,none⟩ (.int .u64 (a2:Int))) b0 154 (.pointer (some ⟨A.ab,0,none⟩)):=huT.block2 h0.out hbA.1;have p1:=huT.block2 h1.out hbA.2.1;have p2:Boxed (((V.setCell ⟨AB,0,none⟩ (.int .i64 a0)).setCell ⟨AB,1,none⟩ (.int .i64 a1)).setCell ⟨AB,2,none⟩ (.int .u64 (a2:Int))) b2 3 (.int .i64 c):=huT.block2 h2.out hbA.2.2;have x0_:=p0.cell;have x1_:(((V.setCell ⟨AB,0,none⟩ (.int .i64 a0)).setCell ⟨AB,1,none⟩ (.int .i64 a1)).setCell ⟨AB,2,none⟩ (.int .u64 (a2:Int))).cell? ⟨b1,1,none⟩=some (.int .i64 a):=qab p1 1;have x2_:=p2.cell;obtain⟨V9,hV9⟩:∃V9,((V.setCell ⟨AB,0,none⟩ (.int .i64 a0)).setCell ⟨AB,1,none⟩ (.int .i64 a1)).setCell ⟨AB,2,none⟩ (.int .u64 (a2:Int))=V9:=⟨_,rfl⟩
   rw[hV9] at hA9 hT9 hL9 p0 p1 p2 x0_ x1_ x2_;try rw[hV9]
   replace hA9:=waa hA9;replace hL9:=waa hL9;replace p0:=waa p0;replace p1:=waa p1;replace p2:=waa p2;clear huT;refine hK.out _ _ (⟨x0_,x1_,x2_⟩) (λhHeld2=>?_);clear hK K hHeld;have hHeld:=hHeld2;clear hHeld2;try simp only[Act.put,waf,wae,wag,wab,wac,wad]
   refine wpAnyH_done Zk ?_ _;obtain⟨⟨t0_,t1_,t2_⟩,tf_⟩:=qaf hT9;obtain⟨⟨l0_,l1_,l2_⟩,lf_⟩:=qaf hL9.out;have hs9:=(waj.1 hL9.out).1;by_cases hz:a0=0
   ·have hob2:smlB A E L ws a c E.sp i l s= .done ((a0,a1,a2),aw) i2 l2 s2:=by rw[hob1.out,smlG,if_neg (by simpa using hz)];rfl
    have hfin:=waa (AtH.done (t:=smlB A E L ws a c) (R:=λa x _=>x=anX a) (a:=(a0,a1,a2)) (x:=anX (a0,a1,a2)) (hA9.out.own (B:=w.heap.size) Zo hF2 hR2 (qam (.int .i64 a0) (.int .i64 a1) (.int .u64 (a2:Int))) hlt hab) hob2 rfl);replace hT9:=waa hT9;subst hz;clear hob1 hob2 hw2 hA9;go_wp2_with fail;refine qak rfl rfl rfl (qai (qan hL9.out _ _ _)) ?_;exact hfin.out
   ·have hw3:=waa (show((givA L A.who c a).bind λ_=>AP.ret ((a0,a1,a2),aw)) E.sp i2 l2 s2≠ .wild from by have:=hw2.out;rw[smlG,if_pos hz] at this;exact this)
    have hob2:=waa (show smlB A E L ws a c E.sp i l s=((givA L A.who c a).bind λ_=>AP.ret (((a0,a1,a2):ANS),aw)) E.sp i2 l2 s2 from by rw[hob1.out,smlG,if_pos hz]);have hgv:=waa (qfd hA9.out.a hD c a (AP.tame hw3.out));replace hT9:=waa hT9;clear hob1 hw2;go_wp2_with fail;refine hgv.out.mono ?_;intro e V10 hpost;rcases DP.Post.done (t:=givA L A.who c a) hpost (AP.tame hw3.out) with ⟨u6,i6,l6,s6,x6,F6,ho6,rfl,rfl,hI6,hg6,hu6⟩|⟨bl,l6,s6,F6,ho6,rfl,hO6,hg6,hu6⟩
    rotate_left
    ·exact⟨rfl,qal (hA9.out.off hO6 hg6 hu6) (by rw[hob2.out,AP.bind_stop ho6])⟩
    have hob3:smlB A E L ws a c E.sp i l s= .done ((a0,a1,a2),aw) i6 l6 s6:=by rw[hob2.out,AP.bind_done ho6];rfl
    have hL10:=hu6.block2 hL9.out hF2;have hT10:=hu6.block2 hT9.out hAF;have hF6:=hg6.no hs9 hF2;have hA10:=hA9.out.step hI6 hg6 hu6;obtain⟨⟨t3_,t4_,t5_⟩,tg_⟩:=qaf hT10;obtain⟨⟨l3_,l4_,l5_⟩,lg_⟩:=qaf hL10;have hfin:=waa (AtH.done (t:=smlB A E L ws a c) (R:=λa x _=>x=anX a) (a:=(a0,a1,a2)) (x:=anX (a0,a1,a2)) (hA10.own (B:=w.heap.size) Zo hF6 hR2 (qam (.int .i64 a0) (.int .i64 a1) (.int .u64 (a2:Int))) hlt hab) hob3 rfl);replace hL10:=waa hL10;replace hT10:=waa hT10;clear hpost hI6 hg6 hu6 ho6 hob2 hob3 hw3 hgv hA9 hA10 hL9 hT9;go_wp2_with fail;refine qak rfl rfl rfl (qai (qan hL10.out _ _ _)) ?_;exact hfin.out
 ·(try simp only[wab,wac,wad])
  go_simp
  have hBs:=((wai W1.heap.size W1).alloc (wah _) (.cells #[.int .i64 0,.int .i64 0,.int .u64 0] 60)).drew;have hA1:=hA0b.out.below hBs;have hL1:=(hBs.block _ hs1).trans hL0.out;have g0:Boxed (W1.alloc (.cells #[.int .i64 0,.int .i64 0,.int .u64 0] 60)).drew b0 154 (.pointer (some ⟨A.ab,0,none⟩)):=(hBs.block _ hl0).trans hk0.out;have g1:(W1.alloc (.cells #[.int .i64 0,.int .i64 0,.int .u64 0] 60)).drew.heap[b1]? =some (.cells #[.int .i64 z0,.int .i64 a,.int .u64 (x0:Int)] 60 (0,0)):=(hBs.block _ hl1).trans hk1.out;have g2:Boxed (W1.alloc (.cells #[.int .i64 0,.int .i64 0,.int .u64 0] 60)).drew b2 3 (.int .i64 c):=(hBs.block _ hl2).trans hk2.out;have hT1:(W1.alloc (.cells #[.int .i64 0,.int .i64 0,.int .u64 0] 60)).drew.heap[W1.heap.size]? =some (.cells #[.int .i64 0,.int .i64 0,.int .u64 0] 60 (0,0)):=heap_alloc_new W1 _;have e0:=g0.cell;have e1:(W1.alloc (.cells #[.int .i64 0,.int .i64 0,.int .u64 0] 60)).drew.cell? ⟨b1,1,none⟩=some (.int .i64 a):=qab g1 1;have e2:=g2.cell;obtain⟨AB,hAB⟩:∃AB,W1.heap.size=AB:=⟨_,rfl⟩
  obtain⟨W2,hW2⟩:∃W2,(W1.alloc (.cells #[.int .i64 0,.int .i64 0,.int .u64 0] 60)).drew=W2:=⟨_,rfl⟩
  have hAW:AB<W2.heap.size:=by rw[<-hW2,<-hAB];simp
  rw[hW2] at hA1 hL1 g0 g1 g2 hT1 e0 e1 e2;rw[hAB] at hT1;try rw[hW2]
  try rw[hAB]
  replace hA1:=waa hA1;replace hL1:=waa hL1;replace g0:=waa g0;replace g1:=waa g1;replace g2:=waa g2;replace hT1:=waa hT1;clear hBs;refine hK.out _ _ (⟨e0,e1,e2⟩) (λhHeld2=>?_);clear hK K hHeld;have hHeld:=hHeld2;clear hHeld2;try simp only[Act.put,waf,wae,wag,wab,wac,wad]
  refine wpAnyH_ready (rs:=[4]) Zk Zs ?_;refine AllReadyH.cons rfl (λK hK=>?_) AllReadyH.nil
  (try simp only[wab,wac,wad])
  go_simp
  refine(hsz.out _).mono ?_;rintro e VS ⟨rfl,rfl⟩;go_wp2_with fail;refine hK.out _ _ (⟨e0,e1,e2⟩) (λhHeld2=>?_);clear hK K hHeld;have hHeld:=hHeld2;clear hHeld2;try simp only[Act.put,waf,wae,wag,wab,wac,wad]
  refine wpAnyH_ready (rs:=[5]) Zk Zs ?_;refine AllReadyH.cons rfl (λK hK=>?_) AllReadyH.nil
  (try simp only[wab,wac,wad])
  go_simp
  have hsW:w.heap.size<W2.heap.size:=(waj.1 hL1.out).1;refine(qf6 (H:=H) (more:=[]) (u:= .slice none 0 0) (bs:=0) (nm:=0) hA1.out.a hD a (szN c) ⟨rfl,.inl ⟨rfl,rfl⟩⟩ (λk hk=>by cases hk) (λe he=>by cases he) Zs ho hm hed hw1).mono ?_;intro e V hpost;obtain⟨hu2,hp2⟩:=hpost;cases ho2:beginA A E ws [] a (szN c) E.sp i l s with
  |wild=>exact absurd ho2 hw1
  |stop bl l2 s2=>
   rw[ho2] at hp2;obtain⟨F2,rfl,hO2,hg2⟩:=hp2;exact⟨rfl,qal (hA1.out.offH hO2 hg2 hu2) (by unfold smlB;rw[AP.bind_stop ho2])⟩
  |done r i2 l2 s2=>?_
  rw[ho2] at hp2;obtain⟨x2,F2,v2,rfl,rfl,hI2,hg2,hr2⟩:=hp2;have hw2:=waa (AP.tame_next (t:=beginA A E ws [] a (szN c)) (f:=smlG A L a c) hw.out ho2);have hob1:=waa (show smlB A E L ws a c E.sp i l s=smlG A L a c r E.sp i2 l2 s2 by unfold smlB;rw[AP.bind_done ho2]);have hnB:¬(F w.heap.size\/ownH A v H w.heap.size):=by
   rintro(e|e|e|e)
   ·exact hF0 e
   ·omega
   ·exact hR0 e
   ·exact hHB e
  have hL2:=hu2.block2 hL1.out hnB;have hF2:=hg2.no hsW hF0;have hWV:W2.heap.size<=V.heap.size:=hu2.size;have hR2:v2.ownBlock≠some w.heap.size:=λe=>(hr2 _ e).elim hR0 (λe=>by have:W2.heap.size<=w.heap.size:=e;omega)
  have h0:Boxed V b0 154 (.pointer (some ⟨A.ab,0,none⟩)):=hu2.block2 g0.out (λe=>e.elim m0 hn0);have h1:=hu2.block2 g1.out (λe=>e.elim m1 hn1);have h2:Boxed V b2 3 (.int .i64 c):=hu2.block2 g2.out (λe=>e.elim m2 hn2);have q0:=hg2.no g0.out.lt m0;have q1:=hg2.no (waj.1 g1.out).1 m1;have q2:=hg2.no g2.out.lt m2;have hA2:=hA1.out.next hI2 hg2 hu2 hr2;have hs2:=wak hsW hu2.size;have hAnB:¬(F AB\/ownH A v H AB):=by
   rintro(e|e|e|e)
   ·have:=hFl _ e;omega
   ·omega
   ·have:=hvl _ e;omega
   ·have:=hH _ e;omega
  have hT3:=waa (hu2.block2 hT1.out hAnB);have hAF:¬F2 AB:=hg2.no hAW (λe=>by have:=hFl _ e;omega);have hAR:v2.ownBlock≠some AB:=λe=>(hr2 _ e).elim (λe=>by have:=hvl _ e;omega) (λe=>by omega)
  have hAw:w.heap.size<AB:=Zo
  obtain⟨⟨a0,a1,a2⟩,aw⟩:=r;unfold anX anV;dsimp only
  have f0:=h0.cell;have f1:V.cell? ⟨b1,1,none⟩=some (.int .i64 a):=qab h1 1;have f2:=h2.cell;replace hA2:=waa hA2;replace hL2:=waa hL2;replace h0:=waa h0;replace h1:=waa h1;replace h2:=waa h2;clear hI2 hg2 hu2 hr2 hw ho2 hw1 hnB;go_wp2_with fail;refine hK.out _ _ (⟨f0,f1,f2⟩) (λhHeld2=>?_);clear hK K hHeld;have hHeld:=hHeld2;clear hHeld2;try simp only[Act.put,waf,wae,wag,wab,wac,wad]
  refine wpAnyH_ready (rs:=[7]) Zk Zs ?_;refine AllReadyH.cons rfl (λK hK=>?_) AllReadyH.nil;obtain⟨⟨t3_,t4_,t5_⟩,tg_⟩:=qaf hT3.out
  (try simp only[wab,wac,wad])
  go_simp
  have huT:Upd (λj=>j=AB) V (((V.setCell ⟨AB,0,none⟩ (.int .i64 a0)).setCell ⟨AB,1,none⟩ (.int .i64 a1)).setCell ⟨AB,2,none⟩ (.int .u64 (a2:Int))):=qam (.int .i64 a0) (.int .i64 a1) (.int .u64 (a2:Int));have hA9:=hA2.out.own (B:=AB) Zo hAF hAR huT hlt (λk hk e=>by have:=hE k hk;omega);have hT9:=qan hT3.out (.int .i64 a0) (.int .i64 a1) (.int .u64 (a2:Int));have hL9:=huT.block2 hL2.out (λe=>by omega);have hbA:b0≠AB/\b1≠AB/\b2≠AB:=Zo
  have p0:Boxed (((V.setCell ⟨AB,0,none⟩ (.int .i64 a0)).setCell ⟨AB,1,none⟩ (.int .i64 a1)).setCell ⟨AB,2,none⟩ (.int .u64 (a2:Int))) b0 154 (.pointer (some ⟨A.ab,0,none⟩)):=huT.block2 h0.out hbA.1;have p1:=huT.block2 h1.out hbA.2.1;have p2:Boxed (((V.setCell ⟨AB,0,none⟩ (.int .i64 a0)).setCell ⟨AB,1,none⟩ (.int .i64 a1)).setCell ⟨AB,2,none⟩ (.int .u64 (a2:Int))) b2 3 (.int .i64 c):=huT.block2 h2.out hbA.2.2;have x0_:=p0.cell;have x1_:(((V.setCell ⟨AB,0,none⟩ (.int .i64 a0)).setCell ⟨AB,1,none⟩ (.int .i64 a1)).setCell ⟨AB,2,none⟩ (.int .u64 (a2:Int))).cell? ⟨b1,1,none⟩=some (.int .i64 a):=qab p1 1;have x2_:=p2.cell;obtain⟨V9,hV9⟩:∃V9,((V.setCell ⟨AB,0,none⟩ (.int .i64 a0)).setCell ⟨AB,1,none⟩ (.int .i64 a1)).setCell ⟨AB,2,none⟩ (.int .u64 (a2:Int))=V9:=⟨_,rfl⟩
  rw[hV9] at hA9 hT9 hL9 p0 p1 p2 x0_ x1_ x2_;try rw[hV9]
  replace hA9:=waa hA9;replace hL9:=waa hL9;replace p0:=waa p0;replace p1:=waa p1;replace p2:=waa p2;clear huT;refine hK.out _ _ (⟨x0_,x1_,x2_⟩) (λhHeld2=>?_);clear hK K hHeld;have hHeld:=hHeld2;clear hHeld2;try simp only[Act.put,waf,wae,wag,wab,wac,wad]
  refine wpAnyH_done Zk ?_ _;obtain⟨⟨t0_,t1_,t2_⟩,tf_⟩:=qaf hT9;obtain⟨⟨l0_,l1_,l2_⟩,lf_⟩:=qaf hL9.out;have hs9:=(waj.1 hL9.out).1;by_cases hz:a0=0
  ·have hob2:smlB A E L ws a c E.sp i l s= .done ((a0,a1,a2),aw) i2 l2 s2:=by rw[hob1.out,smlG,if_neg (by simpa using hz)];rfl
   have hfin:=waa (AtH.done (t:=smlB A E L ws a c) (R:=λa x _=>x=anX a) (a:=(a0,a1,a2)) (x:=anX (a0,a1,a2)) (hA9.out.own (B:=w.heap.size) Zo hF2 hR2 (qam (.int .i64 a0) (.int .i64 a1) (.int .u64 (a2:Int))) hlt hab) hob2 rfl);replace hT9:=waa hT9;subst hz;clear hob1 hob2 hw2 hA9;go_wp2_with fail;refine qak rfl rfl rfl (qai (qan hL9.out _ _ _)) ?_;exact hfin.out
  ·have hw3:=waa (show((givA L A.who c a).bind λ_=>AP.ret ((a0,a1,a2),aw)) E.sp i2 l2 s2≠ .wild from by have:=hw2.out;rw[smlG,if_pos hz] at this;exact this)
   have hob2:=waa (show smlB A E L ws a c E.sp i l s=((givA L A.who c a).bind λ_=>AP.ret (((a0,a1,a2):ANS),aw)) E.sp i2 l2 s2 from by rw[hob1.out,smlG,if_pos hz]);have hgv:=waa (qfd hA9.out.a hD c a (AP.tame hw3.out));replace hT9:=waa hT9;clear hob1 hw2;go_wp2_with fail;refine hgv.out.mono ?_;intro e V10 hpost;rcases DP.Post.done (t:=givA L A.who c a) hpost (AP.tame hw3.out) with ⟨u6,i6,l6,s6,x6,F6,ho6,rfl,rfl,hI6,hg6,hu6⟩|⟨bl,l6,s6,F6,ho6,rfl,hO6,hg6,hu6⟩
   rotate_left
   ·exact⟨rfl,qal (hA9.out.off hO6 hg6 hu6) (by rw[hob2.out,AP.bind_stop ho6])⟩
   have hob3:smlB A E L ws a c E.sp i l s= .done ((a0,a1,a2),aw) i6 l6 s6:=by rw[hob2.out,AP.bind_done ho6];rfl
   have hL10:=hu6.block2 hL9.out hF2;have hT10:=hu6.block2 hT9.out hAF;have hF6:=hg6.no hs9 hF2;have hA10:=hA9.out.step hI6 hg6 hu6;obtain⟨⟨t3_,t4_,t5_⟩,tg_⟩:=qaf hT10;obtain⟨⟨l3_,l4_,l5_⟩,lg_⟩:=qaf hL10;have hfin:=waa (AtH.done (t:=smlB A E L ws a c) (R:=λa x _=>x=anX a) (a:=(a0,a1,a2)) (x:=anX (a0,a1,a2)) (hA10.own (B:=w.heap.size) Zo hF6 hR2 (qam (.int .i64 a0) (.int .i64 a1) (.int .u64 (a2:Int))) hlt hab) hob3 rfl);replace hL10:=waa hL10;replace hT10:=waa hT10;clear hpost hI6 hg6 hu6 ho6 hob2 hob3 hw3 hgv hA9 hA10 hL9 hT9;go_wp2_with fail;refine qak rfl rfl rfl (qai (qan hL10.out _ _ _)) ?_;exact hfin.out
end
end Go.Proofs.YtgjhkafggagniaaGreat
