/- Parts. No condition. -/
import Derived.Test.YtgjhkafggagniaaGreatJoinV32
set_option linter.unusedVariables false
set_option maxRecDepth 100000
set_option maxHeartbeats 8000000
namespace Go.Proofs.YtgjhkafggagniaaGreat
open Go Go.RowKit
def qbd{σ α:Type}:AP σ α:=λ_ _ _ _=> .wild
abbrev OV:=Int×(Int×Int×Int)×(Int×Int×Int)
def ovC:Option OV->Array Value
 |none=>#[.int .i64 0,.int .i64 0,.int .i64 0,.int .i64 0,.int .i64 0,.int .i64 0,.int .i64 0]
 |some o=>#[.int .i64 o.1,.int .i64 o.2.1.1,.int .i64 o.2.1.2.1,.int .i64 o.2.1.2.2,.int .i64 o.2.2.1,.int .i64 o.2.2.2.1,.int .i64 o.2.2.2.2]
def ovV(o:Option OV):Value:= .tuple #[.agg (ovC o),.bool o.isSome]
def f3O(x:Nat):Int×Int×Int:=(((x%65536:Nat):Int),((x/65536%256:Nat):Int),((x/16777216%256:Nat):Int))
noncomputable def liveO (x:Nat) (c:Int):Option (Int×Int×Int):=by
 classical exact if BHit x c (f3O x).1 (f3O x).2.1 (f3O x).2.2/\f3O x≠(0,0,0) then some (f3O x) else none
theorem qoa{x:Nat}{c:Int}{e:Ending}(h:qe2 x c e):∃r s n code:Int,e= .returned (.tuple #[.agg #[.int .i64 r,.int .i64 s,.int .i64 n],.int .i64 code])/\
  ((code=0/\¬(r=0/\s=0/\n=0)/\liveO x c=some (r,s,n))\/(code=0/\(r=0/\s=0/\n=0)/\liveO x c=none)\/(code=11/\(r=0/\s=0/\n=0)/\liveO x c=none)):=by
 rcases h with ⟨r,s,n,hh,rfl⟩|⟨hno,rfl⟩
 ·obtain⟨-,e1,e2,e3⟩:=hh.told
  have hf:f3O x=(r,s,n):=by unfold f3O;rw[e1,e2,e3]
  refine⟨r,s,n,0,rfl,?_⟩;unfold liveO;by_cases hz:r=0/\s=0/\n=0
  ·refine .inr (.inl ⟨rfl,hz,?_⟩)
   rw[if_neg];rintro⟨-,k⟩;rw[hf,hz.1,hz.2.1,hz.2.2] at k;exact k rfl
  ·refine .inl ⟨rfl,hz,?_⟩
   rw[if_pos,hf];rw[hf];refine⟨hh,λk=>hz ?_⟩;injection k with k1 k2;injection k2 with k2 k3;exact⟨k1,k2,k3⟩
 ·refine⟨0,0,0,11,rfl,.inr (.inr ⟨rfl,⟨rfl,rfl,rfl⟩,?_⟩)⟩
  unfold liveO;rw[if_neg];exact λk=>hno _ _ _ k.1
noncomputable def objectA (A:AC) (E:DP HS) (ws:List (Int×Nat)) (a:Int):AP (DM×HS) (Option OV):=
 if a=0 then AP.ret none else(bwA A a).bind λm=>if m=0 then AP.ret none else if ¬(0<m/\m<=4096) then qbd else
  (qar E.n E.nl E.who ws (headN A.s A.l A.r (sptN A a m).1+1)).bind λy=>if hasB y (sptN A a m).2.1=true then
   (qar E.n E.nl E.who ws a).bind λx=>AP.ret ((liveO x (clN (m - 1))).map λo=>(a,o,sptN A a m)) else AP.ret none
section
variable {W:World} {g:Nat} {a b c d e f k:Value}
theorem qau(h:W.heap[g]? =some (.cells #[a,b,c,d,e,f,k] 79 (0,0))):(W.cell? ⟨g,0,none⟩=some a/\W.cell? ⟨g,1,none⟩=some b/\W.cell? ⟨g,2,none⟩=some c/\W.cell? ⟨g,3,none⟩=some d/\W.cell? ⟨g,4,none⟩=some e/\W.cell? ⟨g,5,none⟩=some f/\W.cell? ⟨g,6,none⟩=some k)/\∀j,W.frozen? ⟨g,j,none⟩=false:=
 ⟨⟨qab h 0,qab h 1,qab h 2,qab h 3,qab h 4,qab h 5,qab h 6⟩,λj=>qah h j⟩
theorem qcl(h:W.heap[g]? =some (.cells #[a,b,c,d,e,f,k] 79 (0,0)))(a' b' c' d' e' f' k':Value):(((((((W.setCell ⟨g,0,none⟩ a').setCell ⟨g,1,none⟩ b').setCell ⟨g,2,none⟩ c').setCell ⟨g,3,none⟩ d').setCell ⟨g,4,none⟩ e').setCell ⟨g,5,none⟩ f').setCell ⟨g,6,none⟩ k').heap[g]? =some (.cells #[a',b',c',d',e',f',k'] 79 (0,0)):=
by
 have h:=qaj h 0 a';simp only[waf,wae] at h;replace h:=qaj h 1 b';simp only[waf,wae,wag] at h;replace h:=qaj h 2 c';simp only[waf,wae,wag] at h;replace h:=qaj h 3 d';simp only[waf,wae,wag] at h;replace h:=qaj h 4 e';simp only[waf,wae,wag] at h;replace h:=qaj h 5 f';simp only[waf,wae,wag] at h;replace h:=qaj h 6 k';simp only[waf,wae,wag] at h;exact h
theorem qcb(a' b' c' d' e' f' k':Value):Upd (λj=>j=g) W (((((((W.setCell ⟨g,0,none⟩ a').setCell ⟨g,1,none⟩ b').setCell ⟨g,2,none⟩ c').setCell ⟨g,3,none⟩ d').setCell ⟨g,4,none⟩ e').setCell ⟨g,5,none⟩ f').setCell ⟨g,6,none⟩ k'):=
 (((((((Upd.refl (λj=>j=g) W).setCell (p:=⟨g,0,none⟩) (.inl rfl) a').setCell (p:=⟨g,1,none⟩) (.inl rfl) b').setCell (p:=⟨g,2,none⟩) (.inl rfl) c').setCell (p:=⟨g,3,none⟩) (.inl rfl) d').setCell (p:=⟨g,4,none⟩) (.inl rfl) e').setCell (p:=⟨g,5,none⟩) (.inl rfl) f').setCell (p:=⟨g,6,none⟩) (.inl rfl) k'
end
section
variable {A:AC} {E:DP HS} {i i':Nat} {l l':List Nat} {s s':DM×HS} {F F':Nat->Prop} {v v':Value} {ws ws':List (Int×Nat)} {w w' w2:World} {base n L:Nat} {e:Ending}
theorem AP.ask_in{σ α:Type}{q:σ->Option (Nat×σ)}{f:Nat->α}{sp:Nat->Bool}{i i':Nat}{l l':List Nat}{s s':σ}{z:α}(h:AP.ask q f sp i l s= .done z i' l' s'):∃y∈l',z=f y:=by
 unfold AP.ask at h;split at h
 ·rename_i y hy
  injection h with h1 h2 h3 h4;subst h1 h3;exact⟨y,wb9 hy,rfl⟩
 ·split at h
  ·cases h
  ·split at h
   ·cases h
   ·split at h
    ·cases h
    ·rename_i y s2 hq
     injection h with h1 h2 h3 h4;subst h1 h3;exact⟨y,by simp,rfl⟩
theorem DP.In.lt64(h:E.In i l s F w):∀y∈l,y<18446744073709551616:=by
 obtain⟨lv,G,k1,k2,k3,k4,k5,k6,k7,k8,k9,k10,k11⟩:=h;exact k11
theorem qfa{who:Int}{nn nl:Nat}{a:Int}{sp:Nat->Bool}{y:Nat}(h:qar (τ:=HS) nn nl who ws a sp i l s= .done y i' l' s')(hl:∀y∈l',y<18446744073709551616)(hws:∀e∈ws,qen e):y<18446744073709551616:=by
 cases hz:wrAt ws a with
 |some z=>
  simp only[qar,hz] at h;injection h with h1;subst h1;exact qzl hws hz
 |none=>
  simp only[qar,hz] at h;obtain⟨y',hy,rfl⟩:=AP.ask_in (f:=id) h;exact hl _ hy
theorem AtF.own{B:Nat}(h:AtF A E F v ws w i' l' s' F' w')(hB:w.heap.size<=B)(hF:¬F' B)(hR:v.ownBlock≠some B)(hu:Upd (λj=>j=B) w' w2)(h1:A.ab<w.heap.size)(h2:∀k,k=E.a\/k=E.b\/k=E.c->k≠B):AtF A E F v ws w i' l' s' F' w2:=
 ⟨⟨h.a.i.upd hu (λk hk e=>hF (e▸hk)) (h2 _ (.inl rfl)) (h2 _ (.inr (.inl rfl))) (h2 _ (.inr (.inr rfl))),h.a.a.upd hu (λe=>by omega) (λk hk e=>hR (e▸hk)),h.a.nF,h.a.nR,h.a.eb⟩,h.g,h.u.after hu (λk hk=> .inr Zo)⟩
theorem qhs(h:AIn A E i l s F v ws w)(hD:DdE A E base n L)(a:Int)(ha:-9223372036854775808<=a/\a<=9223372036854775807)(hm:ws.length<=500)(hw:objectA A E ws a E.sp i l s≠ .wild):
  Calls Tryz.prog 261 #[.pointer (some ⟨A.ab,0,none⟩),.int .i64 a] w λe w'=>E.Post (objectA A E ws a E.sp i l s) (λo v _=>v=ovV o) F w e w':=by
 have hu:Upd (λ_=>False) w (w.alloc (.cells #[.int .i64 0,.int .i64 0,.int .i64 0,.int .i64 0,.int .i64 0,.int .i64 0,.int .i64 0] 79)):=(Upd.refl _ w).alloc _;have hA0:=(AtF.start h).new hu;have hL0:(w.alloc (.cells #[.int .i64 0,.int .i64 0,.int .i64 0,.int .i64 0,.int .i64 0,.int .i64 0,.int .i64 0] 79)).heap[w.heap.size]? =some (.cells #[.int .i64 0,.int .i64 0,.int .i64 0,.int .i64 0,.int .i64 0,.int .i64 0,.int .i64 0] 79 (0,0)):=heap_alloc_new w _;have hFl:∀k,w.heap.size<=k->¬F k:=λk hk e=>by have:=h.i.lt e;omega
 obtain⟨W1,hW1⟩:∃W1,w.alloc (.cells #[.int .i64 0,.int .i64 0,.int .i64 0,.int .i64 0,.int .i64 0,.int .i64 0,.int .i64 0] 79)=W1:=⟨_,rfl⟩
 rw[hW1] at hA0 hL0;obtain⟨⟨z0,z1,z2,z3,z4,z5,z6⟩,zf⟩:=qau hL0;have hFl0:=hFl w.heap.size (wah _);have hRl0:v.ownBlock≠some w.heap.size:=λe=>by have:=(h.a.row.lt _ e).2;omega
 have hlt:=h.a.lt;have hlow:=h.i.low;have hab:∀k,k=E.a\/k=E.b\/k=E.c->k≠w.heap.size:=λk hk e=>by have:=hlow k (.inr hk);omega
 have hs1:w.heap.size<W1.heap.size:=by rw[<-hW1];simp
 by_cases ha0:a=0
 ·subst ha0
  have hob:objectA A E ws 0 E.sp i l s= .done none i l s:=by unfold objectA;rw[if_pos rfl];rfl
  replace hA0:=waa hA0;replace hL0:=waa hL0;replace hw:=waa hw;clear h hFl hu;go_enter Tryz.func261,Tryz.ntmps261;go_wp2_with fail;have hfin:=waa (DP.Post.res (R':=λo v _=>v=ovV o) (AtF.done (t:=objectA A E ws 0) (R:=λo v _=>v=ovV o) (x:=ovV none) (hA0.out.own (B:=w.heap.size) (wah _) hFl0 hRl0 (qcb (.int .i64 0) (.int .i64 0) (.int .i64 0) (.int .i64 0) (.int .i64 0) (.int .i64 0) (.int .i64 0)) hlt hab) hob rfl) (λ_ _ h=>h));exact qbt rfl rfl rfl rfl (qb1 (qcl hL0.out _ _ _ _ _ _ _)) hfin.out
 ·have hob0:objectA A E ws a E.sp i l s=((bwA A a).bind λm=>if m=0 then AP.ret none else if ¬(0<m/\m<=4096) then qbd else
   (qar E.n E.nl E.who ws (headN A.s A.l A.r (sptN A a m).1+1)).bind λy=>if hasB y (sptN A a m).2.1=true then
   (qar E.n E.nl E.who ws a).bind λx=>AP.ret ((liveO x (clN (m - 1))).map λo=>(a,o,sptN A a m)) else AP.ret none) E.sp i l s:=by unfold objectA;rw[if_neg ha0]
  rw[hob0] at hw;have hw1:=AP.tame hw;have hbw:=waa (qji hA0.a hD a hw1);replace hA0:=waa hA0;replace hL0:=waa hL0;replace hw:=waa hw;replace hob0:=waa hob0;clear h hu;go_enter Tryz.func261,Tryz.ntmps261;go_wp2_with fail;try rw[hW1]
  refine hbw.out.mono ?_;rintro e V hpost;rcases hpost.done hw1 with ⟨m,i1,l1,s1,x1,F1,ho1,rfl,rfl,hI1,hg1,hu1⟩|⟨bl,l1,s1,F1,ho1,rfl,hO1,hg1,hu1⟩
  rotate_left
  ·exact⟨rfl,qba (hA0.out.off hO1 hg1 hu1) (by rw[hob0.out,AP.bind_stop ho1])⟩
  have hw2:=AP.tame_next hw.out ho1;have hob1:=hob0.out.trans (AP.bind_done ho1);have hL1:=(hu1.block _ hs1 hFl0).trans hL0.out;have hF1:=hg1.no hs1 hFl0;have hA1:=hA0.out.step hI1 hg1 hu1;have hs2:=wak hs1 hu1.size;obtain⟨⟨z0,z1,z2,z3,z4,z5,z6⟩,zf⟩:=qau hL1;clear hpost hI1 hg1 hu1 hw hob0 ho1 hA0 hL0 hw1 hbw;replace hA1:=waa hA1;replace hL1:=waa hL1;by_cases hm0:m=0
  ·subst hm0
   rw[if_pos rfl] at hob1;clear hw2;go_wp2_with fail;have hfin:=waa (AtF.done (t:=objectA A E ws a) (R:=λo v _=>v=ovV o) (x:=ovV none) (hA1.out.own (B:=w.heap.size) (wah _) hF1 hRl0 (qcb (.int .i64 0) (.int .i64 0) (.int .i64 0) (.int .i64 0) (.int .i64 0) (.int .i64 0) (.int .i64 0)) hlt hab) hob1 rfl);exact qbt rfl rfl rfl rfl (qb1 (qcl hL1.out _ _ _ _ _ _ _)) hfin.out
  ·rw[if_neg hm0] at hob1 hw2
   by_cases hmb:0<m/\m<=4096
   rotate_left
   ·rw[if_pos hmb] at hw2
    exact absurd rfl hw2
   rw[if_neg (λe=>e hmb)] at hob1 hw2;have hsp:=waa (qj8 hA1.out.a.a a m ha.1 ha.2 hmb.1 Zo);have hcl:=waa (λW=>qnq m W Zo);have hqb:=show(-1<=(sptN A a m).1/\(sptN A a m).1<=100)/\0<=(sptN A a m).2.1/\(sptN A a m).2.1<=100 from⟨(qg2 A.s A.l A.r a).1,Int.ediv_nonneg (qg2 A.s A.l A.r a).2.1 Zo,Int.le_trans (Int.ediv_le_self _ (qg2 A.s A.l A.r a).2.1) (qg2 A.s A.l A.r a).2.2⟩
   generalize sptN A a m=q at hsp hob1 hw2 hqb;obtain⟨q0,q1,q2⟩:=q;dsimp only[sptV] at hsp hob1 hw2 hqb;generalize clN (m - 1)=cc at hcl hob1 hw2;replace hob1:=waa hob1;replace hw2:=waa hw2;go_wp2_with fail;refine hsp.out.mono ?_;rintro e V2 ⟨rfl,hB2⟩;have hw3:=AP.tame hw2.out;have hA2:=hA1.out.below hB2;have hL2:=(hB2.block _ hs2).trans hL1.out;have hs3:=wak hs2 hB2.size;have hx:(V2.alloc (.cells #[.int .i64 q0,.int .i64 q1,.int .i64 q2] 77)).heap[V2.heap.size]? =some (.cells #[.int .i64 q0,.int .i64 q1,.int .i64 q2] 77 (0,0)):=heap_alloc_new V2 _;have hBa:=(wai V2.heap.size V2).alloc (wah _) (.cells #[.int .i64 q0,.int .i64 q1,.int .i64 q2] 77);have hFb:¬F1 V2.heap.size:=λe=>by have:=hA1.out.a.i.lt e;have:=hB2.size;omega
   have hge:w.heap.size<=V2.heap.size:=Zo
   obtain⟨V3,hV3⟩:∃V3,V2.alloc (.cells #[.int .i64 q0,.int .i64 q1,.int .i64 q2] 77)=V3:=⟨_,rfl⟩
   rw[hV3] at hx hBa;have hA3:=(hA2.below hBa).new ((Upd.refl (λ_=>False) V3).drew);have hL3:=(hBa.block _ hs3).trans hL2;have hs4:w.heap.size<V3.heap.size:=by have:=hBa.size;omega
   have hbl:V2.heap.size<V3.heap.size:=(waj.1 hx).1;obtain⟨k0,k1,k2,kf⟩:=Sb.cells hx;have hmo:=waa (qgp hA3.a.a q0);replace hA3:=waa hA3;replace hL3:=waa hL3;replace hx:=waa hx;clear hA1 hL1 hA2 hL2 hBa hB2 hsp z0 z1 z2 z3 z4 z5 z6 zf;go_upto_region 7 with fail
   try rw[hV3]
   refine wp_region_held_drew (S:=(λU=>U.cell? ⟨V2.heap.size,0,none⟩=some (.int .i64 q0)/\U.cell? ⟨V2.heap.size,1,none⟩=some (.int .i64 q1))) Zk (⟨k0,k1⟩) (λhHeld=>?_);refine wpAnyH_take (i:=0) (v:=?_) rfl Zk Zk Zk (λ_ _ _ h=>h) (Or.inl ⟨by rfl,?_⟩) Za ?_;rotate_left;(·intro u h;(try dsimp only at h);(try simp only[wab,wac]);go_simp;try with_reducible rfl);try simp only[Act.put,waf,wae,wag,wab,wac]
   refine wpAnyH_take (i:=1) (v:=?_) rfl Zk Zk Zk (λ_ _ _ h=>h) (Or.inl ⟨by rfl,?_⟩) Za ?_;rotate_left;(·intro u h;(try dsimp only at h);(try simp only[wab,wac,wad]);go_simp;try with_reducible rfl);try simp only[Act.put,waf,wae,wag,wab,wac,wad]
   refine wpAnyH_take (i:=2) (v:=?_) rfl Zk Zk Zk (λ_ _ _ h=>h) (Or.inl ⟨by rfl,?_⟩) Za ?_;rotate_left;(·intro u h;(try dsimp only at h);(try simp only[wab,wac,wad]);go_simp;try with_reducible rfl);try simp only[Act.put,waf,wae,wag,wab,wac,wad]
   refine wpAnyH_take (i:=3) (v:=?_) rfl Zk Zk Zk (λ_ _ _ h=>h) (Or.inl ⟨by rfl,?_⟩) Za ?_;rotate_left;(·intro u h;(try dsimp only at h);(try simp only[wab,wac,wad]);go_simp;try with_reducible rfl);try simp only[Act.put,waf,wae,wag,wab,wac,wad]
   refine wpAnyH_take (i:=6) (v:=?_) rfl Zk Zk Zk (λ_ _ _ h=>h) (Or.inl ⟨by rfl,?_⟩) Za ?_;rotate_left;(·intro u h;(try dsimp only at h);(try simp only[wab,wac,wad]);go_simp;try with_reducible rfl);try simp only[Act.put,waf,wae,wag,wab,wac,wad]
   refine wpAnyH_take (i:=7) (v:=?_) rfl Zk Zk Zk (λ_ _ _ h=>h) (Or.inl ⟨by rfl,?_⟩) Za ?_;rotate_left;(·intro u h;(try dsimp only at h);(try simp only[wab,wac,wad]);go_simp;try with_reducible rfl);try simp only[Act.put,waf,wae,wag,wab,wac,wad]
   refine wpAnyH_ready (rs:=[4]) Zk Zs ?_;refine AllReadyH.cons rfl (λK hK=>?_) AllReadyH.nil
   (try simp only[wab,wac,wad])
   go_simp
   refine hmo.out.mono ?_;rintro e V4 ⟨rfl,hB4⟩;have hA4:=waa (hA3.out.below hB4);have hL4:=waa ((hB4.block _ hs4).trans hL3.out);have hx4:=waa ((hB4.block _ hbl).trans hx.out);have hs5:=wak hs4 hB4.size;have hbl4:=wak hbl hB4.size;have hld:=waa (qc3 hA4.out.a (headN A.s A.l A.r q0+1) hm hw3);clear hB4 hA3 hL3 hx hmo;go_wp2_with fail;refine hK.out _ _ (⟨(Sb.cells hx4.out).1,(Sb.cells hx4.out).2.1⟩) (λhHeld2=>?_);clear hK K hHeld;have hHeld:=hHeld2;clear hHeld2;try simp only[Act.put,waf,wae,wag,wab,wac,wad]
   refine wpAnyH_ready (rs:=[5]) Zk Zs ?_;refine AllReadyH.cons rfl (λK hK=>?_) AllReadyH.nil
   (try simp only[wab,wac,wad])
   go_simp
   refine hld.out.mono ?_;intro e V5 hpost;rcases hpost.done hw3 with ⟨y,i2,l2,s2,x2,F2,ho2,rfl,rfl,hI2,hg2,hu2⟩|⟨bl,l2,s2,F2,ho2,rfl,hO2,hg2,hu2⟩
   rotate_left
   ·exact⟨rfl,qba (hA4.out.off hO2 hg2 hu2) (by rw[hob1.out,AP.bind_stop ho2])⟩
   have hw4:=waa (AP.tame_next hw2.out ho2);have hob2:=waa (hob1.out.trans (AP.bind_done ho2));have hy:=qfa ho2 hI2.lt64 hA4.out.a.a.ok;have hL5:=waa ((hu2.block _ hs5 hF1).trans hL4.out);have hx5:=waa ((hu2.block _ hbl4 hFb).trans hx4.out);have hF2:=hg2.no hs5 hF1;have hFb2:=hg2.no hbl4 hFb;have hA5:=waa (hA4.out.step hI2 hg2 hu2);have hs6:=wak hs5 hu2.size;have hbl5:=wak hbl4 hu2.size;clear hpost hI2 hg2 hu2 ho2 hA4 hL4 hx4 hld hw2 hob1 hw3;go_wp2_with fail;refine hK.out _ _ (⟨(Sb.cells hx5.out).1,(Sb.cells hx5.out).2.1⟩) (λhHeld2=>?_);clear hK K hHeld;have hHeld:=hHeld2;clear hHeld2;try simp only[Act.put,waf,wae,wag,wab,wac,wad]
   refine wpAnyH_ready (rs:=[8]) Zk Zs ?_;refine AllReadyH.cons rfl (λK hK=>?_) AllReadyH.nil
   (try simp only[wab,wac,wad])
   go_simp
   refine(qy6 y q1 _ hy Zo Zo).mono ?_;rintro e V6 ⟨rfl,rfl⟩;go_wp2_with fail;refine hK.out _ _ (⟨(Sb.cells hx5.out).1,(Sb.cells hx5.out).2.1⟩) (λhHeld2=>?_);clear hK K hHeld;have hHeld:=hHeld2;clear hHeld2;try simp only[Act.put,waf,wae,wag,wab,wac,wad]
   refine wpAnyH_take (i:=9) (v:=?_) rfl Zk Zk Zk (λ_ _ _ h=>h) (Or.inl ⟨by rfl,?_⟩) Za ?_;rotate_left;(·intro u h;(try dsimp only at h);(try simp only[wab,wac,wad]);go_simp;try with_reducible rfl);try simp only[Act.put,waf,wae,wag,wab,wac,wad]
   refine wpAnyH_done Zk ?_ _;obtain⟨bb,hbb⟩:∃bb,hasB y q1=bb:=⟨_,rfl⟩
   rw[hbb] at hob2 hw4 ⊢;clear hbb hy k0 k1 k2 kf;cases bb with
   |false=>
    rw[if_neg wfa] at hob2;obtain⟨⟨z0,z1,z2,z3,z4,z5,z6⟩,zf⟩:=qau hL5.out;go_wp2_with fail;have hfin:=waa (AtF.done (t:=objectA A E ws a) (R:=λo v _=>v=ovV o) (x:=ovV none) (hA5.out.own (B:=w.heap.size) (wah _) hF2 hRl0 (qcb (.int .i64 0) (.int .i64 0) (.int .i64 0) (.int .i64 0) (.int .i64 0) (.int .i64 0) (.int .i64 0)) hlt hab) hob2.out rfl);exact qbt rfl rfl rfl rfl (qb1 (qcl hL5.out _ _ _ _ _ _ _)) hfin.out
   |true=>
    rw[if_pos rfl] at hob2 hw4;have hw5:=AP.tame hw4.out;have hld:=waa (qc3 hA5.out.a a hm hw5);go_wp2_with fail;refine hld.out.mono ?_;intro e V6 hpost;rcases hpost.done hw5 with ⟨x,i3,l3,s3,x3,F3,ho3,rfl,rfl,hI3,hg3,hu3⟩|⟨bl,l3,s3,F3,ho3,rfl,hO3,hg3,hu3⟩
    rotate_left
    ·exact⟨rfl,qba (hA5.out.off hO3 hg3 hu3) (by rw[hob2.out,AP.bind_stop ho3])⟩
    have hob3:=waa (hob2.out.trans (AP.bind_done ho3));have hx64:=qfa ho3 hI3.lt64 hA5.out.a.a.ok;have hL6:=waa ((hu3.block _ hs6 hF2).trans hL5.out);have hx6:=waa ((hu3.block _ hbl5 hFb2).trans hx5.out);have hF3:=hg3.no hs6 hF2;have hA6:=waa (hA5.out.step hI3 hg3 hu3);have hs7:=wak hs6 hu3.size;have hbl6:=wak hbl5 hu3.size;clear hpost hI3 hg3 hu3 ho3 hA5 hL5 hx5 hld hw4 hob2 hw5;go_wp2_with fail;refine(hcl.out _).mono ?_;rintro e V7 ⟨rfl,rfl⟩;go_wp2_with fail;refine(qvs x cc _ hx64).mono ?_;rintro e V8 ⟨hE,hB8⟩;obtain⟨r,sl,nn,code,rfl,hcase⟩:=qoa hE;obtain⟨V9,hV9⟩:∃V9,V8.alloc (.cells #[.int .i64 r,.int .i64 sl,.int .i64 nn] 75)=V9:=⟨_,rfl⟩
    have hBo:=(wai V8.heap.size V8).alloc (wah _) (.cells #[.int .i64 r,.int .i64 sl,.int .i64 nn] 75);have ho:(V8.alloc (.cells #[.int .i64 r,.int .i64 sl,.int .i64 nn] 75)).heap[V8.heap.size]? =some (.cells #[.int .i64 r,.int .i64 sl,.int .i64 nn] 75 (0,0)):=heap_alloc_new V8 _;rw[hV9] at hBo ho;have hL8:=(hB8.block _ hs7).trans hL6.out;have hx8:=(hB8.block _ hbl6).trans hx6.out;have hL9:=waa ((hBo.block _ (wak hs7 hB8.size)).trans hL8);have hx9:=waa ((hBo.block _ (wak hbl6 hB8.size)).trans hx8);have hA9:=waa ((hA6.out.below hB8).below hBo);have o0:V9.cell? ⟨V8.heap.size,0,none⟩=some (.int .i64 r):=qab ho 0;have o1:V9.cell? ⟨V8.heap.size,1,none⟩=some (.int .i64 sl):=qab ho 1;have o2:V9.cell? ⟨V8.heap.size,2,none⟩=some (.int .i64 nn):=qab ho 2;replace hV9:=waa hV9;obtain⟨k0,k1,k2,kf⟩:=Sb.cells hx9.out;obtain⟨⟨z0,z1,z2,z3,z4,z5,z6⟩,zf⟩:=qau hL9.out;clear hBo ho hL8 hx8 hA6 hL6 hx6 hB8 hcl hE;rcases hcase with ⟨rfl,hz,hl⟩|⟨rfl,⟨rfl,rfl,rfl⟩,hl⟩|⟨rfl,⟨rfl,rfl,rfl⟩,hl⟩
    ·rw[hl] at hob3
     by_cases hr:r=0
     ·subst hr
      by_cases hsl:sl=0
      ·subst hsl
       have hnn:¬nn=0:=λe=>hz ⟨rfl,rfl,e⟩
       go_upto_region 12 with fail
       rw[hV9.out];go_wp2_with fail;have hfin:=waa (AtF.done (t:=objectA A E ws a) (R:=λo v _=>v=ovV o) (x:=ovV (some (a,(0,0,nn),(q0,q1,q2)))) (hA9.out.own (B:=w.heap.size) (wah _) hF3 hRl0 (qcb (.int .i64 a) (.int .i64 0) (.int .i64 0) (.int .i64 nn) (.int .i64 q0) (.int .i64 q1) (.int .i64 q2)) hlt hab) hob3.out rfl);refine qbt rfl rfl rfl rfl (qb1 (qcl hL9.out _ _ _ _ _ _ _)) ?_;exact hfin.out
      ·go_upto_region 12 with fail
       rw[hV9.out];go_wp2_with fail;have hfin:=waa (AtF.done (t:=objectA A E ws a) (R:=λo v _=>v=ovV o) (x:=ovV (some (a,(0,sl,nn),(q0,q1,q2)))) (hA9.out.own (B:=w.heap.size) (wah _) hF3 hRl0 (qcb (.int .i64 a) (.int .i64 0) (.int .i64 sl) (.int .i64 nn) (.int .i64 q0) (.int .i64 q1) (.int .i64 q2)) hlt hab) hob3.out rfl);refine qbt rfl rfl rfl rfl (qb1 (qcl hL9.out _ _ _ _ _ _ _)) ?_;exact hfin.out
     ·go_upto_region 12 with fail
      rw[hV9.out];go_wp2_with fail;have hfin:=waa (AtF.done (t:=objectA A E ws a) (R:=λo v _=>v=ovV o) (x:=ovV (some (a,(r,sl,nn),(q0,q1,q2)))) (hA9.out.own (B:=w.heap.size) (wah _) hF3 hRl0 (qcb (.int .i64 a) (.int .i64 r) (.int .i64 sl) (.int .i64 nn) (.int .i64 q0) (.int .i64 q1) (.int .i64 q2)) hlt hab) hob3.out rfl);refine qbt rfl rfl rfl rfl (qb1 (qcl hL9.out _ _ _ _ _ _ _)) ?_;exact hfin.out
    ·rw[hl] at hob3
     go_upto_region 11 with fail
     rw[hV9.out];go_wp2_with fail;have hfin:=waa (AtF.done (t:=objectA A E ws a) (R:=λo v _=>v=ovV o) (x:=ovV none) (hA9.out.own (B:=w.heap.size) (wah _) hF3 hRl0 (qcb (.int .i64 0) (.int .i64 0) (.int .i64 0) (.int .i64 0) (.int .i64 0) (.int .i64 0) (.int .i64 0)) hlt hab) hob3.out rfl);refine qbt rfl rfl rfl rfl (qb1 (qcl hL9.out _ _ _ _ _ _ _)) ?_;exact hfin.out
    ·rw[hl] at hob3
     go_upto_region 11 with fail
     rw[hV9.out];go_wp2_with fail;have hfin:=waa (AtF.done (t:=objectA A E ws a) (R:=λo v _=>v=ovV o) (x:=ovV none) (hA9.out.own (B:=w.heap.size) (wah _) hF3 hRl0 (qcb (.int .i64 0) (.int .i64 0) (.int .i64 0) (.int .i64 0) (.int .i64 0) (.int .i64 0) (.int .i64 0)) hlt hab) hob3.out rfl);refine qbt rfl rfl rfl rfl (qb1 (qcl hL9.out _ _ _ _ _ _ _)) ?_;exact hfin.out
end
def wdN(at_ i f t:Int):Int:=if 0<=i/\i<t - f then at_+1+f+i else -1
theorem qms(at_ i f t:Int)(w:World)(h0:0<=f/\f<=255)(h1:0<=t/\t<=255)(h2:-4611686018427387904<=at_/\at_<=4611686018427387904):
  Calls Tryz.prog 108 #[.int .i64 at_,.int .i64 i,.int .i64 f,.int .i64 t] w λe w'=>e= .returned (.int .i64 (wdN at_ i f t))/\w=w':=by
 obtain⟨f0,f1⟩:=h0;obtain⟨t0,t1⟩:=h1;obtain⟨a0,a1⟩:=h2;by_cases hi:0<=i
 ·by_cases ht:i<t - f
  ·have hw:=waa (show wdN at_ i f t=at_+1+f+i from if_pos ⟨hi,ht⟩)
   generalize wdN at_ i f t=v at hw ⊢;go_enter Tryz.func108,Tryz.ntmps108;go_wp2
   go_ret;exact⟨qb2 (by rw[hw.out];omega),rfl⟩
  ·have hw:=waa (show wdN at_ i f t= -1 from if_neg Zo)
   generalize wdN at_ i f t=v at hw ⊢;go_enter Tryz.func108,Tryz.ntmps108;go_wp2
   go_ret;exact⟨qb2 (by rw[hw.out]),rfl⟩
 ·have hw:=waa (show wdN at_ i f t= -1 from if_neg Zo)
  generalize wdN at_ i f t=v at hw ⊢;go_enter Tryz.func108,Tryz.ntmps108;go_wp2
  go_ret;exact⟨qb2 (by rw[hw.out]),rfl⟩
theorem qr1(r s n:Int)(w:World)(h:qbp r s n=true):Calls Tryz.prog 109 #[.agg #[.int .i64 r,.int .i64 s,.int .i64 n]] w λe w'=>e= .returned (.int .i64 s)/\Below w.heap.size w w':=by
 have:=qi9 r s n w
 rwa [q05 h] at this
theorem qwr(r s n at_ i:Int)(w:World)(h:qbp r s n=true)(h2:-4611686018427387904<=at_/\at_<=4611686018427387904):
  Calls Tryz.prog 56 #[.agg #[.int .i64 r,.int .i64 s,.int .i64 n],.int .i64 at_,.int .i64 i] w λe w'=>e= .returned (.int .i64 (wdN at_ i 0 s))/\Below w.heap.size w w':=by
 have hb:=bmay_iff.1 h;have hs:=waa (λV=>qr1 r s n V h);have hd:=waa (λV=>qms at_ i 0 s V Zo Zo h2);have hB:=qca w r s n;clear h hb h2;go_enter Tryz.func56,Tryz.ntmps56;go_wp2_with fail;refine(hs.out _).mono ?_;rintro e w1 ⟨rfl,hC⟩;go_wp2_with fail;refine(hd.out _).mono ?_;rintro e w2 ⟨rfl,rfl⟩;go_wp2_with fail;go_ret;exact⟨rfl,hB.trans (hC.mono Zs)⟩
end Go.Proofs.YtgjhkafggagniaaGreat
