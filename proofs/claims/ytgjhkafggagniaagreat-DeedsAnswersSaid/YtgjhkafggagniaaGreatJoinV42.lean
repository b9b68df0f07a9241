/- Parts. No condition. -/
import Derived.Test.YtgjhkafggagniaaGreatJoinV39
import Derived.Test.YtgjhkafggagniaaGreatJoinV40
import Derived.Test.YtgjhkafggagniaaGreatJoinV41
set_option linter.unusedVariables false
set_option maxRecDepth 100000
set_option maxHeartbeats 8000000
namespace Go.Proofs.YtgjhkafggagniaaGreat
open Go Go.RowKit
noncomputable def backA (L:Nat) (who c a:Int):AP (DM×HS) Unit:=if c≠4 then givA L who c a else qbd
section
variable {A:AC} {E:DP HS} {i i':Nat} {l l':List Nat} {s s':DM×HS} {F F' H:Nat->Prop} {v v':Value} {ws ws':List (Int×Nat)} {w w' w2:World} {base n L b0 b1:Nat} {e:Ending}
theorem qvt(h:AIn A E i l s F v ws w)(hD:DdE A E base n L)(c j0 j1 j2 j3 j4 j5 j6:Int)(hw:backA L A.who c j0 E.sp i l s≠ .wild):
  Calls Tryz.prog 208 #[.pointer (some ⟨A.ab,0,none⟩),.int .i64 c,.agg #[.int .i64 j0,.int .i64 j1,.int .i64 j2,.int .i64 j3,.int .i64 j4,.int .i64 j5,.int .i64 j6]] w λe w'=>E.Post (backA L A.who c j0 E.sp i l s) qbc F w e w':=by
 by_cases hc:c=4
 ·exact absurd (by rw[backA,if_neg (by simpa using hc)];rfl) hw
 have hdef:backA L A.who c j0=givA L A.who c j0:=by rw[backA,if_pos hc]
 rw[hdef] at hw ⊢;have hu:Upd (λ_=>False) w ((w.alloc (.cells #[.pointer (some ⟨A.ab,0,none⟩)] 154)).alloc (.cells #[.int .i64 j0,.int .i64 j1,.int .i64 j2,.int .i64 j3,.int .i64 j4,.int .i64 j5,.int .i64 j6] 79)):=((Upd.refl _ w).alloc _).alloc _;have hA0:=(AtF.start h).new hu;have hk0:Boxed ((w.alloc (.cells #[.pointer (some ⟨A.ab,0,none⟩)] 154)).alloc (.cells #[.int .i64 j0,.int .i64 j1,.int .i64 j2,.int .i64 j3,.int .i64 j4,.int .i64 j5,.int .i64 j6] 79)) w.heap.size 154 (.pointer (some ⟨A.ab,0,none⟩)):=qag (qad rfl _ _) _;have hx0:((w.alloc (.cells #[.pointer (some ⟨A.ab,0,none⟩)] 154)).alloc (.cells #[.int .i64 j0,.int .i64 j1,.int .i64 j2,.int .i64 j3,.int .i64 j4,.int .i64 j5,.int .i64 j6] 79)).heap[w.heap.size+1]? =some (.cells #[.int .i64 j0,.int .i64 j1,.int .i64 j2,.int .i64 j3,.int .i64 j4,.int .i64 j5,.int .i64 j6] 79 (0,0)):=qad Zs _ _;obtain⟨W1,hW1⟩:∃W1,(w.alloc (.cells #[.pointer (some ⟨A.ab,0,none⟩)] 154)).alloc (.cells #[.int .i64 j0,.int .i64 j1,.int .i64 j2,.int .i64 j3,.int .i64 j4,.int .i64 j5,.int .i64 j6] 79)=W1:=⟨_,rfl⟩
 rw[hW1] at hA0 hk0 hx0 hu;have hgv:=waa (qfd hA0.a hD c j0 hw);have d0:=hk0.cell;obtain⟨⟨z0,z1,z2,z3,z4,z5,z6⟩,zf⟩:=qau hx0;replace hA0:=waa hA0;clear h hu hk0 hx0 hdef;go_enter Tryz.func208,Tryz.ntmps208;go_wp2_with fail;try rw[hW1]
 refine hgv.out.mono ?_;intro e V hpost;rcases DP.Post.done (t:=givA L A.who c j0) hpost hw with ⟨u1,i1,l1,s1,x1,F1,ho1,rfl,rfl,hI1,hg1,hu1⟩|⟨bl,l1,s1,F1,ho1,rfl,hO1,hg1,hu1⟩
 rotate_left
 ·exact⟨rfl,qba (hA0.out.off hO1 hg1 hu1) ho1⟩
 have hfin:=waa (AtF.done (t:=givA L A.who c j0) (R:=qbc) (a:=()) (x:= .tuple #[]) (hA0.out.step hI1 hg1 hu1) ho1 rfl);clear hpost hI1 hg1 hu1 ho1 hA0 hgv;go_wp2_with fail;go_end0
 exact hfin.out
theorem AtH.turn{τ:Type}{E:DP τ}{s':DM×τ}{B:Nat}(h:AtH A E F H v w i' l' s' F' v' ws' w')(hu:Upd (λj=>j=B) w' w2)(hF:¬F' B)(hH:H B)(hn:¬ownH A v' noH B)(h2:∀k,k=E.a\/k=E.b\/k=E.c->k≠B):AtH A E F H v w i' l' s' F' v' ws' w2:=
 ⟨⟨h.a.i.upd hu (λk hk e=>hF (e▸hk)) (h2 _ (.inl rfl)) (h2 _ (.inr (.inl rfl))) (h2 _ (.inr (.inr rfl))),h.a.a.upd hu (λe=>hn (.inl e.symm)) (λk hk e=>hn (.inr (.inl (e▸hk)))),h.a.nF,h.a.nR,h.a.eb⟩,h.g,h.u.after hu (λk hk=> .inl (.inr (.inr (.inr (hk▸hH))))),h.r⟩
abbrev FAP:=AP (DM×HS) ((ANS×Int)×List (Int×Nat))
noncomputable def frcA (L:Nat) (who:Int) (o:Option OV) (r:Unit×List (Int×Nat)):FAP:=(backA L who (clN (ocN o 3)) (ocN o 0)).bind λ_=>AP.ret (((0,ocN o 0,0),clN (ocN o 3)),r.2)
noncomputable def frbA (A:AC) (E:DP HS) (L:Nat) (ws:List (Int×Nat)) (x:Int×Option OV×Int):FAP:=
 if x.2.2≠0 then AP.ret (((x.2.2,0,0),0),ws) else(endA A E ws x.1 (ocN x.2.1 0) (ocN x.2.1 4) (ocN x.2.1 5) (ocN x.2.1 6)).bind (frcA L A.who x.2.1)
noncomputable def fraA (A:AC) (E:DP HS) (L:Nat) (ws:List (Int×Nat)):FAP:=(endingA A E ws).bind (frbA A E L ws)
theorem quy(h:AIn A E i l s F v ws w)(hD:DdE A E base n L)(k0:Boxed w b0 154 (.pointer (some ⟨A.ab,0,none⟩)))(m0:¬F b0)(k1:Boxed w b1 3 (.int .i64 0))(m1:¬F b1)(hne:b0≠b1)(hn:∀k,k=b0\/k=b1->¬ownH A v noH k)(hHb:∀k,H k↔k=b1)(hE:∀k,k=E.a\/k=E.b\/k=E.c->k≠b1)(ho:-9223372036854775808<=A.obj/\A.obj<=9223372036854775807)(hm:ws.length<=100)(hw:fraA A E L ws E.sp i l s≠ .wild):
  Calls Tryz.prog 205 #[.pointer (some ⟨b0,0,none⟩),.pointer (some ⟨b1,0,none⟩)] w λe w'=>qb6 A E (fraA A E L ws E.sp i l s) (λa x W=>x=anX a.1/\Boxed W b1 3 (.int .i64 a.2)) F H v w e w':=by
 have hu:Upd (λ_=>False) w (w.alloc (.cells #[.int .i64 0,.int .i64 0,.int .u64 0] 60)):=(Upd.refl _ w).alloc _;have hA0:=(AtH.start (H:=H) h).new hu;have hL0:(w.alloc (.cells #[.int .i64 0,.int .i64 0,.int .u64 0] 60)).heap[w.heap.size]? =some (.cells #[.int .i64 0,.int .i64 0,.int .u64 0] 60 (0,0)):=heap_alloc_new w _;have hk0:Boxed (w.alloc (.cells #[.int .i64 0,.int .i64 0,.int .u64 0] 60)) b0 154 (.pointer (some ⟨A.ab,0,none⟩)):=qac k0 hu (λe=>e);have hk1:Boxed (w.alloc (.cells #[.int .i64 0,.int .i64 0,.int .u64 0] 60)) b1 3 (.int .i64 0):=qac k1 hu (λe=>e);obtain⟨W1,hW1⟩:∃W1,w.alloc (.cells #[.int .i64 0,.int .i64 0,.int .u64 0] 60)=W1:=⟨_,rfl⟩
 rw[hW1] at hA0 hL0 hu hk0 hk1;have hs1:w.heap.size<W1.heap.size:=by rw[<-hW1];simp
 have hF0:¬F w.heap.size:=λe=>by have:=h.i.lt e;omega
 have hR0:v.ownBlock≠some w.heap.size:=λe=>by have:=(h.a.row.lt _ e).2;omega
 have hlt:=h.a.lt;have hvb:∀k,v.ownBlock=some k->k<w.heap.size:=λk hk=>(h.a.row.lt k hk).2
 have hkl0:=k0.lt;have hkl1:=k1.lt;have hn0:=hn b0 (.inl rfl);have hn1:=hn b1 (.inr rfl);have hab:∀k,k=E.a\/k=E.b\/k=E.c->k≠w.heap.size:=λk hk e=>by have:=h.i.low k (.inr hk);omega
 have hw1:endingA A E ws E.sp i l s≠ .wild:=AP.tame hw;have hdt:=waa (qnn hA0.a hD ho Zo hw1);have c0:=hk0.cell;replace hA0:=waa hA0;replace hL0:=waa hL0;replace hk0:=waa hk0;replace hk1:=waa hk1;replace hw:=waa hw;clear h hu k0 k1 hn;go_enter Tryz.func205,Tryz.ntmps205;go_wp2_with fail;try rw[hW1]
 refine hdt.out.mono ?_;intro e V hpost;rcases hpost.done hw1 with ⟨x,i1,l1,s1,x1,F1,ho1,rfl,rfl,hI1,hg1,hu1⟩|⟨bl,l1,s1,F1,ho1,rfl,hO1,hg1,hu1⟩
 rotate_left
 ·exact⟨rfl,qal (hA0.out.off hO1 hg1 hu1) (by unfold fraA;rw[AP.bind_stop ho1])⟩
 obtain⟨ta,o,cd⟩:=x;dsimp only
 have hw2:=AP.tame_next (t:=endingA A E ws) (f:=frbA A E L ws) hw.out ho1;have hob1:fraA A E L ws E.sp i l s=frbA A E L ws (ta,o,cd) E.sp i1 l1 s1:=by unfold fraA;rw[AP.bind_done ho1]
 have hL1:=hu1.block2 hL0.out hF0;have hF1:=hg1.no hs1 hF0;have hA1:=hA0.out.step hI1 hg1 hu1;have hs2:=wak hs1 hu1.size;have j0_:=qac hk0.out hu1 m0;have j1_:=qac hk1.out hu1 m1;have n0:=hg1.no hk0.out.lt m0;have n1:=hg1.no hk1.out.lt m1;clear hpost hI1 hg1 hu1 hw ho1 hA0 hL0 hw1 hdt hk0 hk1 c0;unfold frbA frcA at hw2 hob1;dsimp only at hw2 hob1;rw[qmc];generalize ocN o 0=j0 at hw2 hob1 ⊢;generalize ocN o 1=j1 at hw2 hob1 ⊢;generalize ocN o 2=j2 at hw2 hob1 ⊢;generalize ocN o 3=j3 at hw2 hob1 ⊢;generalize ocN o 4=j4 at hw2 hob1 ⊢;generalize ocN o 5=j5 at hw2 hob1 ⊢;generalize ocN o 6=j6 at hw2 hob1 ⊢;have hBs:=(wai V.heap.size V).alloc (wah _) (.cells #[.int .i64 j0,.int .i64 j1,.int .i64 j2,.int .i64 j3,.int .i64 j4,.int .i64 j5,.int .i64 j6] 79);have hA2:=hA1.below hBs;have hL2:=(hBs.block _ hs2).trans hL1;have hJ2:(V.alloc (.cells #[.int .i64 j0,.int .i64 j1,.int .i64 j2,.int .i64 j3,.int .i64 j4,.int .i64 j5,.int .i64 j6] 79)).heap[V.heap.size]? =some (.cells #[.int .i64 j0,.int .i64 j1,.int .i64 j2,.int .i64 j3,.int .i64 j4,.int .i64 j5,.int .i64 j6] 79 (0,0)):=heap_alloc_new V _;have g0:Boxed (V.alloc (.cells #[.int .i64 j0,.int .i64 j1,.int .i64 j2,.int .i64 j3,.int .i64 j4,.int .i64 j5,.int .i64 j6] 79)) b0 154 (.pointer (some ⟨A.ab,0,none⟩)):=(hBs.block _ j0_.lt).trans j0_;have g1:Boxed (V.alloc (.cells #[.int .i64 j0,.int .i64 j1,.int .i64 j2,.int .i64 j3,.int .i64 j4,.int .i64 j5,.int .i64 j6] 79)) b1 3 (.int .i64 0):=(hBs.block _ j1_.lt).trans j1_;have hnJ:¬F1 V.heap.size:=λe=>by have:=hA1.a.i.lt e;omega
 have hb1V:b1<V.heap.size:=j1_.lt;have hb0V:b0<V.heap.size:=j0_.lt;obtain⟨W2,hW2⟩:∃W2,V.alloc (.cells #[.int .i64 j0,.int .i64 j1,.int .i64 j2,.int .i64 j3,.int .i64 j4,.int .i64 j5,.int .i64 j6] 79)=W2:=⟨_,rfl⟩
 rw[hW2] at hA2 hL2 hJ2 g0 g1;replace hA2:=waa hA2;clear hBs hA1 hL1 j0_ j1_;by_cases hz:cd=0
 rotate_left
 ·have hobR:fraA A E L ws E.sp i l s= .done (((cd,0,0),0),ws) i1 l1 s1:=by rw[hob1,if_pos hz];rfl
  clear hob1 hw2 hJ2 g0;replace hL2:=waa hL2;go_upto_region 2 with fail
  try rw[hW2]
  go_wp2_with fail;refine(qax cd _).mono ?_;rintro e VR ⟨rfl,hBR⟩;have hAR:=hA2.out.below hBR;have hLR:=(hBR.block _ (waj.1 hL2.out).1).trans hL2.out;have hgR:Boxed VR b1 3 (.int .i64 0):=(hBR.block _ g1.lt).trans g1;unfold anV;obtain⟨⟨p0,p1,p2⟩,pf⟩:=qaf hLR;have hfin:=waa (AtH.done (t:=fraA A E L ws) (R:=λa x W=>x=anX a.1/\Boxed W b1 3 (.int .i64 a.2)) (a:=((cd,0,0),0)) (x:=anX (cd,0,0)) (hAR.own (B:=w.heap.size) Zo hF1 hR0 (qam (.int .i64 cd) (.int .i64 0) (.int .u64 ((0:Nat):Int))) hlt hab) hobR ⟨rfl,qac hgR (qam _ _ _) Zo⟩);replace hLR:=waa hLR;clear hBR hAR hgR;go_wp2_with fail;refine qak rfl rfl rfl (qai (qan hLR.out _ _ _)) ?_;exact hfin.out
 subst hz;rw[if_neg Zs] at hw2 hob1;have hcf:=waa (λU=>qg9 j3 U);have hu3:Upd (λk=>k=b1) W2 (W2.setCell ⟨b1,0,none⟩ (.int .i64 (clN j3))):=(Upd.refl (λk=>k=b1) W2).setCell (p:=⟨b1,0,none⟩) (.inl rfl) _;have hlt1:∀k,k=E.a\/k=E.b\/k=E.c->k≠b1:=hE;have hA3:AtH A E F H v w i1 l1 s1 F1 v ws (W2.setCell ⟨b1,0,none⟩ (.int .i64 (clN j3))):=hA2.out.turn hu3 n1 ((hHb b1).2 rfl) hn1 hlt1;have hL3:=hu3.block2 hL2 (λe=>by omega);have hJ3:=hu3.block2 hJ2 (λe=>by omega);have q0:Boxed (W2.setCell ⟨b1,0,none⟩ (.int .i64 (clN j3))) b0 154 (.pointer (some ⟨A.ab,0,none⟩)):=hu3.block2 g0 hne;have q1:Boxed (W2.setCell ⟨b1,0,none⟩ (.int .i64 (clN j3))) b1 3 (.int .i64 (clN j3)):=qaj g1 0 _;obtain⟨W3,hW3⟩:∃W3,W2.setCell ⟨b1,0,none⟩ (.int .i64 (clN j3))=W3:=⟨_,rfl⟩
 rw[hW3] at hA3 hL3 hJ3 q0 q1;obtain⟨cl,hcl⟩:∃cl,clN j3=cl:=⟨_,rfl⟩
 rw[hcl] at hcf hw2 hob1 q1;have hen:=waa (qwj (H:=noH) hA3.a hD ta j0 j1 j2 j3 j4 j5 j6 hm (AP.tame hw2));obtain⟨⟨z0,z1,z2,z3,z4,z5,z6⟩,zf⟩:=qau hJ2;obtain⟨⟨y0,y1,y2,y3,y4,y5,y6⟩,yf⟩:=qau hJ3;have x0_:=q0.cell;have x1_:=q1.cell;have w0_:=g0.cell;have w1_:=g1.cell;have wf_:W2.frozen? ⟨b1,0,none⟩=false:=qah g1 0;have hJl:=(waj.1 hJ3).1;have hLl:=(waj.1 hL3).1;have hw3:=waa hw2;have hob2:=waa hob1;replace hA3:=waa hA3;replace hL3:=waa hL3;replace hJ3:=waa hJ3;replace q0:=waa q0;replace q1:=waa q1;rw[hcl] at hW3;clear hw2 hob1 hA2 hL2 hJ2 g0 g1 hu3;go_upto_region 2 with fail
 try rw[hW2]
 go_wp2_with fail;refine(hcf.out _).mono ?_;rintro e VC ⟨rfl,rfl⟩;clear z0 z1 z2 z4 z5 z6;go_upto_region 5 with fail
 try rw[hW3]
 clear z3 zf w0_ w1_ wf_;go_wp2_with fail;refine hen.out.mono ?_;intro e V4 hpost;obtain⟨hu4,hp4⟩:=hpost;have hu4H:Upd (λk=>F1 k\/ownH A v H k) W3 V4:=hu4.mono (λk hk=>hk.imp id (λe=>e.imp id (λe=>e.imp id (λe=>e.elim))));cases ho4:endA A E ws ta j0 j4 j5 j6 E.sp i1 l1 s1 with
 |wild=>exact absurd ho4 (AP.tame hw3.out)
 |stop bl l4 s4=>
  rw[ho4] at hp4;obtain⟨F4,rfl,hO4,hg4⟩:=hp4;exact⟨rfl,qal (hA3.out.offH hO4 hg4 hu4H) (by rw[hob2.out,AP.bind_stop ho4])⟩
 |done r i4 l4 s4=>
  rw[ho4] at hp4;obtain⟨x4,F4,v4,rfl,rfl,hI4,hg4,hr4⟩:=hp4;have hw5:=waa (AP.tame_next hw3.out ho4);have hob5:=waa (hob2.out.trans (AP.bind_done ho4));have hVw:w.heap.size<=V.heap.size:=Zo
  have hL4:=hu4.block2 hL3.out (by
   rintro(e|e|e|e)
   ·exact hF1 e
   ·omega
   ·exact hR0 e
   ·exact e)
  have hJ4:=hu4.block2 hJ3.out (by
   rintro(e|e|e|e)
   ·exact hnJ e
   ·omega
   ·have:=hvb _ e
    omega
   ·exact e)
  have p0:Boxed V4 b0 154 (.pointer (some ⟨A.ab,0,none⟩)):=hu4.block2 q0.out (λe=>e.elim n0 hn0);have p1:Boxed V4 b1 3 (.int .i64 cl):=hu4.block2 q1.out (λe=>e.elim n1 hn1);have hF4:=hg4.no hLl hF1;have hnJ4:=hg4.no hJl hnJ;have n14:=hg4.no q1.out.lt n1;have hR4:v4.ownBlock≠some w.heap.size:=λe=>(hr4 _ e).elim hR0 (λe=>by omega)
  have hA4:=hA3.out.next hI4 hg4 hu4H hr4;have hs4:=wak hLl hu4.size;have hbk:=waa (qvt hA4.a hD cl j0 j1 j2 j3 j4 j5 j6 (AP.tame hw5.out));obtain⟨⟨z0,z1,z2,z3,z4,z5,z6⟩,zf⟩:=qau hJ4;have x0_:=p0.cell;have x1_:=p1.cell;replace hA4:=waa hA4;replace hL4:=waa hL4;replace hJ4:=waa hJ4;replace p1:=waa p1;clear hu4 hu4H hI4 hr4 ho4 hA3 hL3 hJ3 q0 q1 hen hw3 hob2 y0 y1 y2 y3 y4 y5 y6 yf;go_wp2_with fail;refine hbk.out.mono ?_;intro e V5 hpost;rcases DP.Post.done (t:=backA L A.who cl j0) hpost (AP.tame hw5.out) with ⟨u5,i5,l5,s5,x5,F5,ho5,rfl,rfl,hI5,hg5,hu5⟩|⟨bl,l5,s5,F5,ho5,rfl,hO5,hg5,hu5⟩
  rotate_left
  ·exact⟨rfl,qal (hA4.out.off hO5 hg5 hu5) (by rw[hob5.out,AP.bind_stop ho5])⟩
  have hob6:=hob5.out.trans (AP.bind_done ho5);have hL5:=hu5.block2 hL4.out hF4;have hJ5:=hu5.block2 hJ4.out hnJ4;have hF5:=hg5.no hs4 hF4;have hA5:=hA4.out.step hI5 hg5 hu5;have p5:Boxed V5 b1 3 (.int .i64 cl):=qac p1.out hu5 n14;obtain⟨⟨y0,y1,y2,y3,y4,y5,y6⟩,yf⟩:=qau hJ5;obtain⟨⟨r0,r1,r2⟩,rf⟩:=qaf hL5;have hfin:=waa (AtH.done (t:=fraA A E L ws) (R:=λa x W=>x=anX a.1/\Boxed W b1 3 (.int .i64 a.2)) (a:=((0,j0,0),cl)) (x:=anX (0,j0,0)) (hA5.own (B:=w.heap.size) Zo hF5 hR4 (qam (.int .i64 0) (.int .i64 j0) (.int .u64 ((0:Nat):Int))) hlt hab) hob6 ⟨rfl,qac p5 (qam _ _ _) Zo⟩);replace hL5:=waa hL5;clear hpost hI5 hg5 hu5 ho5 hob5 hob6 hw5 hbk hA4 hA5 hL4 hJ4 p0 p1 p5 z0 z1 z2 z3 z4 z5 z6 zf hJ5;go_wp2_with fail;refine qak rfl rfl rfl (qai (qan hL5.out _ _ _)) ?_;exact hfin.out
end
noncomputable def freeO (L:Nat) (who:Int) (r:(ANS×Int)×List (Int×Nat)):DAP:=if r.1.1.1≠0 then AP.ret (r.1.1,r.2) else(overA L who r.1.2).bind λb=>if b=true then qbd else AP.ret (r.1.1,r.2)
noncomputable def freeA (A:AC) (E:DP HS) (L:Nat) (ws:List (Int×Nat)):DAP:=(underG E 1 (fraA A E L ws)).bind (freeO L A.who)
section
variable {A:AC} {E:DP HS} {i i' i2:Nat} {l l' l2:List Nat} {s s' s2:DM×HS} {F F' F2 H:Nat->Prop} {v v' v2:Value} {ws ws' ws2:List (Int×Nat)} {w w' w2:World} {base n L b0 b1:Nat} {e:Ending}
theorem AtH.nextG{G:Nat->Prop}(h:AtH A E F H v w i' l' s' F' v' ws' w')(hI:AIn A E i2 l2 s2 F2 v2 ws2 w2)(hg:Grows F' F2 w')(hu:Upd G w' w2)(hG:∀k,G k->(F' k\/ownH A v' H k)\/w.heap.size<=k)(hr:∀k,v2.ownBlock=some k->v'.ownBlock=some k\/w'.heap.size<=k):AtH A E F H v w i2 l2 s2 F2 v2 ws2 w2:=
 ⟨hI,h.g.trans hg h.u.size,h.u.after hu (λk hk=>(hG k hk).elim (λe=>h.foot e) .inr),λk hk=>(hr k hk).elim (h.r k) (λe=> .inr (wam h.u.size e))⟩
theorem AtH.offG{G:Nat->Prop}{bl:Bool}(h:AtH A E F H v w i' l' s' F' v' ws' w')(hO:E.Off bl l2 s2 F2 w2)(hg:Grows F' F2 w')(hu:Upd G w' w2)(hG:∀k,G k->(F' k\/ownH A v' H k)\/w.heap.size<=k):∃F2,E.Off bl l2 s2 F2 w2/\Grows F F2 w/\Upd (λk=>F k\/ownH A v H k) w w2:=
 ⟨F2,hO,h.g.trans hg h.u.size,h.u.after hu (λk hk=>(hG k hk).elim (λe=>h.foot e) .inr)⟩
theorem qkm(h:AIn A E i l s F v ws w)(hD:DdE A E base n L)(ho:-9223372036854775808<=A.obj/\A.obj<=9223372036854775807)(hm:ws.length<=100)(hw:freeA A E L ws E.sp i l s≠ .wild)(hH:∀k,H k->k<w.heap.size):
  Calls Tryz.prog 167 #[.pointer (some ⟨A.ab,0,none⟩)] w λe w'=>qb6 A E (freeA A E L ws E.sp i l s) (λa x _=>x=anX a) F H v w e w':=by
 have hmf:∀(fn:Fn) (first cap:Array Value) (w:World),(Instr.makeFunc fn first cap).run Tryz.prog w= .ok (.func fn first cap) w:=λ_ _ _ _=>rfl
 have hu:Upd (λ_=>False) w (((w.alloc (.cells #[.pointer (some ⟨A.ab,0,none⟩)] 154)).alloc (.cells #[.int .i64 0,.int .i64 0,.int .u64 0] 60)).alloc (.cells #[.int .i64 0] 3)):=(((Upd.refl _ w).alloc _).alloc _).alloc _;have hA0:=(AtH.start (H:=H) h).new hu;have hL0:(((w.alloc (.cells #[.pointer (some ⟨A.ab,0,none⟩)] 154)).alloc (.cells #[.int .i64 0,.int .i64 0,.int .u64 0] 60)).alloc (.cells #[.int .i64 0] 3)).heap[w.heap.size+1]? =some (.cells #[.int .i64 0,.int .i64 0,.int .u64 0] 60 (0,0)):=qag (qad Zs _ _) _;have hk0:Boxed (((w.alloc (.cells #[.pointer (some ⟨A.ab,0,none⟩)] 154)).alloc (.cells #[.int .i64 0,.int .i64 0,.int .u64 0] 60)).alloc (.cells #[.int .i64 0] 3)) w.heap.size 154 (.pointer (some ⟨A.ab,0,none⟩)):=qag (qag (qad rfl _ _) _) _;have hk1:Boxed (((w.alloc (.cells #[.pointer (some ⟨A.ab,0,none⟩)] 154)).alloc (.cells #[.int .i64 0,.int .i64 0,.int .u64 0] 60)).alloc (.cells #[.int .i64 0] 3)) (w.heap.size+2) 3 (.int .i64 0):=qad Zs _ _;obtain⟨W1,hW1⟩:∃W1,(((w.alloc (.cells #[.pointer (some ⟨A.ab,0,none⟩)] 154)).alloc (.cells #[.int .i64 0,.int .i64 0,.int .u64 0] 60)).alloc (.cells #[.int .i64 0] 3))=W1:=⟨_,rfl⟩
 rw[hW1] at hA0 hL0 hu hk0 hk1;have hs1:w.heap.size+2<W1.heap.size:=by rw[<-hW1];simp
 have hFk:∀j,w.heap.size<=j->¬F j:=λj hj e=>by have:=h.i.lt e;omega
 have hFl:∀k,F k->k<w.heap.size:=λk hk=>h.i.lt hk
 have hvl:∀k,v.ownBlock=some k->k<w.heap.size:=λk hk=>(h.a.row.lt k hk).2
 have hlt:=h.a.lt;have hE:∀k,k=E.a\/k=E.b\/k=E.c->k<w.heap.size:=λk hk=>h.i.low k (.inr hk)
 have hab:∀k,k=E.a\/k=E.b\/k=E.c->k≠w.heap.size+1:=λk hk e=>by have:=hE k hk;omega
 have hw1:underG E 1 (fraA A E L ws) E.sp i l s≠ .wild:=AP.tame hw;have hun:=waa (qor (H:=λk=>k=w.heap.size+2) (Q:=λc W=>Boxed W (w.heap.size+2) 3 (.int .i64 c)) (FN:=205) (fcaps:=#[.pointer (some ⟨w.heap.size,0,none⟩),.pointer (some ⟨w.heap.size+2,0,none⟩)]) (t:=fraA A E L ws) (λargs w=>by simp[go_sem]) hA0.a 1 hw1 (λk hk=>by omega)
  (λg V V' G hq hU hG=>qac hq hU (λe=>(hG _ e).elim (hFk _ Zo) (λe=>by omega)))
  (λV i' l' s' F' hI hU hG hw'=>quy hI hD (qac hk0 hU (hFk _ (wah _))) (hG.no Zo (hFk _ (wah _))) (qac hk1 hU (hFk _ Zo)) (hG.no Zo (hFk _ Zo)) Zo (by
   rintro k (rfl|rfl) (e|e|e)
   ·omega
   ·have:=hvl _ e;omega
   ·exact e
   ·omega
   ·have:=hvl _ e;omega
   ·exact e) (λk=>Iff.rfl) (λk hk e=>by have:=hE k hk;omega) ho hm hw'))
 have d0:=hk0.cell;replace hA0:=waa hA0;replace hL0:=waa hL0;replace hk0:=waa hk0;replace hw:=waa hw;clear h hu hk1;go_enter Tryz.func167,Tryz.ntmps167;go_wp2_with fail;try rw[hW1]
 refine hun.out.mono ?_;intro e V hpost;obtain⟨hu2,hp2⟩:=hpost;have hG2:∀k,(F k\/ownH A v (λk=>k=w.heap.size+2) k)->(F k\/ownH A v H k)\/w.heap.size<=k:=by
  rintro k (e|e|e|e)
  ·exact .inl (.inl e)
  ·exact .inl (.inr (.inl e))
  ·exact .inl (.inr (.inr (.inl e)))
  ·exact .inr Zo
 cases ho2:underG E 1 (fraA A E L ws) E.sp i l s with
 |wild=>exact absurd ho2 hw1
 |stop bl l2 s2=>
  rw[ho2] at hp2;obtain⟨F2,rfl,hO2,hg2⟩:=hp2;exact⟨rfl,qal (hA0.out.offG hO2 hg2 hu2 hG2) (by unfold freeA;rw[AP.bind_stop ho2])⟩
 |done r i2 l2 s2=>
  rw[ho2] at hp2;obtain⟨x2,F2,v2,rfl,⟨rfl,hq2⟩,hI2,hg2,hr2⟩:=hp2;have hw2:=waa (AP.tame_next (t:=underG E 1 (fraA A E L ws)) (f:=freeO L A.who) hw.out ho2);have hob1:=waa (show freeA A E L ws E.sp i l s=freeO L A.who r E.sp i2 l2 s2 by unfold freeA;rw[AP.bind_done ho2]);have hL2:=hu2.block2 hL0.out (by
   rintro(e|e|e|e)
   ·have:=hFl _ e;omega
   ·omega
   ·have:=hvl _ e;omega
   ·omega)
  have j0:Boxed V w.heap.size 154 (.pointer (some ⟨A.ab,0,none⟩)):=hu2.block2 hk0.out (by
   rintro(e|e|e|e)
   ·have:=hFl _ e;omega
   ·omega
   ·have:=hvl _ e;omega
   ·omega)
  have hF1:=hg2.no (show w.heap.size+1<W1.heap.size by omega) (hFk _ Zo);have n0:=hg2.no (show w.heap.size<W1.heap.size by omega) (hFk _ Zo);have n2:=hg2.no hs1 (hFk _ Zo);have hR1:v2.ownBlock≠some (w.heap.size+1):=λe=>(hr2 _ e).elim (λe=>by have:=hvl _ e;omega) (λe=>by omega)
  have hA1:=hA0.out.nextG hI2 hg2 hu2 hG2 hr2;have hs2:=wak hs1 hu2.size;obtain⟨⟨⟨a0,a1,a2⟩,cl⟩,aw⟩:=r;unfold anX anV;dsimp only
  have hBs:=(wai V.heap.size V).alloc (wah _) (.cells #[.int .i64 a0,.int .i64 a1,.int .u64 (a2:Int)] 60);have hA2:=hA1.below hBs;have hL3:=(hBs.block _ Zo).trans hL2;have g0:Boxed (V.alloc (.cells #[.int .i64 a0,.int .i64 a1,.int .u64 (a2:Int)] 60)) w.heap.size 154 (.pointer (some ⟨A.ab,0,none⟩)):=(hBs.block _ j0.lt).trans j0;have g1:Boxed (V.alloc (.cells #[.int .i64 a0,.int .i64 a1,.int .u64 (a2:Int)] 60)) (w.heap.size+2) 3 (.int .i64 cl):=(hBs.block _ hq2.lt).trans hq2;have g2:(V.alloc (.cells #[.int .i64 a0,.int .i64 a1,.int .u64 (a2:Int)] 60)).heap[V.heap.size]? =some (.cells #[.int .i64 a0,.int .i64 a1,.int .u64 (a2:Int)] 60 (0,0)):=heap_alloc_new V _;have n3:¬F2 V.heap.size:=λe=>by have:=hI2.i.lt e;omega
  obtain⟨W2,hW2⟩:∃W2,V.alloc (.cells #[.int .i64 a0,.int .i64 a1,.int .u64 (a2:Int)] 60)=W2:=⟨_,rfl⟩
  rw[hW2] at hA2 hL3 g0 g1 g2;obtain⟨⟨z0,z1,z2⟩,zf⟩:=qaf g2;have c0:=g0.cell;have c1:=g1.cell;by_cases hz:a0=0
  rotate_left
  ·have hob2:freeA A E L ws E.sp i l s= .done ((a0,a1,a2),aw) i2 l2 s2:=by rw[hob1.out,freeO,if_pos hz];rfl
   obtain⟨⟨p0,p1,p2⟩,pf⟩:=qaf hL3;have hfin:=waa (AtH.done (t:=freeA A E L ws) (R:=λa x _=>x=anX a) (a:=(a0,a1,a2)) (x:=anX (a0,a1,a2)) (hA2.own (B:=w.heap.size+1) Zo hF1 hR1 (qam (.int .i64 a0) (.int .i64 a1) (.int .u64 (a2:Int))) hlt hab) hob2 rfl);replace hL3:=waa hL3;clear hI2 hg2 hu2 hr2 ho2 hA0 hL0 hw1 hw hun hk0 d0 j0 hA1 hA2 hob1 hob2 hw2 hL2 hBs g0 g1 g2 hG2 hq2;go_upto_region 3 with fail
   try rw[hW2]
   go_wp2_with fail;refine qak rfl rfl rfl (qai (qan hL3.out _ _ _)) ?_;exact hfin.out
  subst hz;have hdef:freeO L A.who (((0,a1,a2),cl),aw)=(overA L A.who cl).bind λb=>if b=true then qbd else AP.ret ((0,a1,a2),aw):=by rw[freeO,if_neg Zs]
  rw[hdef] at hw2 hob1;have hov:=waa (qsi hA2.a hD cl (AP.tame hw2.out));replace hA2:=waa hA2;replace hL3:=waa hL3;replace g2:=waa g2;have hs3:w.heap.size+1<W2.heap.size:=(waj.1 hL3.out).1;have hs4:V.heap.size<W2.heap.size:=(waj.1 g2.out).1;clear hI2 hg2 hu2 hr2 ho2 hA0 hL0 hw1 hw hun hk0 d0 j0 hA1 hL2 hBs g0 g1 hG2 hq2 hdef;go_upto_region 3 with fail
  try rw[hW2]
  go_wp2_with fail;refine hov.out.mono ?_;intro e V3 hpost;rcases hpost.done (AP.tame hw2.out) with ⟨b,i3,l3,s3,x3,F3,ho3,rfl,rfl,hI3,hg3,hu3⟩|⟨bl,l3,s3,F3,ho3,rfl,hO3,hg3,hu3⟩
  rotate_left
  ·exact⟨rfl,qal (hA2.out.off hO3 hg3 hu3) (by rw[hob1.out,AP.bind_stop ho3])⟩
  have hw3:=AP.tame_next (t:=overA L A.who cl) (f:=λb=>if b=true then qbd else AP.ret (((0,a1,a2):ANS),aw)) hw2.out ho3;have hob2:=hob1.out.trans (AP.bind_done ho3);cases b with
  |true=>exact absurd rfl hw3
  |false=>
   have hob3:freeA A E L ws E.sp i l s= .done ((0,a1,a2),aw) i3 l3 s3:=hob2.trans rfl;have hL4:=hu3.block2 hL3.out hF1;have hT4:=hu3.block2 g2.out n3;have hF3:=hg3.no hs3 hF1;have hA3:=hA2.out.step hI3 hg3 hu3;obtain⟨⟨p0,p1,p2⟩,pf⟩:=qaf hL4;obtain⟨⟨y0,y1,y2⟩,yf⟩:=qaf hT4;have hfin:=waa (AtH.done (t:=freeA A E L ws) (R:=λa x _=>x=anX a) (a:=(0,a1,a2)) (x:=anX (0,a1,a2)) (hA3.own (B:=w.heap.size+1) Zo hF3 hR1 (qam (.int .i64 0) (.int .i64 a1) (.int .u64 (a2:Int))) hlt hab) hob3 rfl);replace hL4:=waa hL4;clear hpost hI3 hg3 hu3 ho3 hA2 hA3 hL3 g2 hob1 hob2 hob3 hw2 hw3 hov hT4 z0 z1 z2 zf c0 c1;go_wp2_with fail;refine qak rfl rfl rfl (qai (qan hL4.out _ _ _)) ?_;exact hfin.out
end
def qe0:Array Value:=#[.nilFunc,.func (.func 166) #[] #[],.func (.func 167) #[] #[],.func (.func 168) #[] #[],.func (.func 169) #[] #[],.func (.func 170) #[] #[],.func (.func 171) #[] #[],.func (.func 172) #[] #[],.func (.func 173) #[] #[]]
theorem qwn{W:World}{g:Nat}(h:W.heap[g]? =some (.cells qe0 221 (0,0))):(loadVar 221 ⟨g,0,none⟩).run Tryz.prog W= .ok (.agg qe0) W:=run_loadVar_row W g 221 221 _ _ _ h Tryz.underlying221 rfl Zk
theorem qs0(w:World):Calls Tryz.prog 126 #[] w λe w'=>e= .returned (.agg qe0)/\Below w.heap.size w w':=by
 have hs1:∀(a:Addr) (fn:Fn) (first cap:Array Value) (m:Mode) (W:World),(store a (.func fn first cap) m).run Tryz.prog W=stored Tryz.prog W a (.func fn first cap) m:=λa fn first cap m W=>run_store Tryz.prog W a _ m rfl
 have hs2:∀(a:Addr) (m:Mode) (W:World),(store a .nilFunc m).run Tryz.prog W=stored Tryz.prog W a .nilFunc m:=λa m W=>run_store Tryz.prog W a _ m rfl
 have hB:=(wai w.heap.size w).alloc (wah _) (.cells qe0 221);replace hB:=waa hB;go_enter Tryz.func126,Tryz.ntmps126;go_wp2_with fail;exact qak rfl rfl rfl (qwn (heap_alloc_new w _)) ⟨rfl,hB.out⟩
end Go.Proofs.YtgjhkafggagniaaGreat
