/- Parts. No condition. -/
import Derived.Test.YtgjhkafggagniaaGreatJoinV37
set_option linter.unusedVariables false
set_option maxRecDepth 100000
set_option maxHeartbeats 8000000
namespace Go.Proofs.YtgjhkafggagniaaGreat
open Go Go.RowKit
section
variable {A:AC} {E:DP HS} {i i':Nat} {l l':List Nat} {s s':DM×HS} {F F' H:Nat->Prop} {v v':Value} {ws ws' more:List (Int×Nat)} {w w' w2:World} {base n L b0 b1 b2:Nat} {e:Ending}
theorem qja(h:AIn A E i l s F v ws w)(hD:DdE A E base n L)(c:Int)(hc:0<=c/\c<4)(ho:-9223372036854775808<=A.obj/\A.obj<=9223372036854775807){eX:Option Addr}{en ec:Nat}(hed:A.ed= .slice eX en ec)(hw:smallA A E n L c ws E.sp i l s≠ .wild)(hH:∀k,H k->k<w.heap.size):
  Calls Tryz.prog 203 #[.pointer (some ⟨A.ab,0,none⟩),.int .i64 c] w λe w'=>qb6 A E (smallA A E n L c ws E.sp i l s) (λa x _=>x=anX a) F H v w e w':=by
 have hmf:∀(fn:Fn) (first cap:Array Value) (w:World),(Instr.makeFunc fn first cap).run Tryz.prog w= .ok (.func fn first cap) w:=λ_ _ _ _=>rfl
 have hu:Upd (λ_=>False) w (((w.alloc (.cells #[.pointer (some ⟨A.ab,0,none⟩)] 154)).alloc (.cells #[.int .i64 c] 3)).alloc (.cells #[.int .i64 0,.int .i64 0,.int .u64 0] 60)):=(((Upd.refl _ w).alloc _).alloc _).alloc _;have hA0:=(AtH.start (H:=H) h).new hu;have hL0:(((w.alloc (.cells #[.pointer (some ⟨A.ab,0,none⟩)] 154)).alloc (.cells #[.int .i64 c] 3)).alloc (.cells #[.int .i64 0,.int .i64 0,.int .u64 0] 60)).heap[w.heap.size+2]? =some (.cells #[.int .i64 0,.int .i64 0,.int .u64 0] 60 (0,0)):=qad Zs _ _;have hk0:Boxed (((w.alloc (.cells #[.pointer (some ⟨A.ab,0,none⟩)] 154)).alloc (.cells #[.int .i64 c] 3)).alloc (.cells #[.int .i64 0,.int .i64 0,.int .u64 0] 60)) w.heap.size 154 (.pointer (some ⟨A.ab,0,none⟩)):=qag (qag (qad rfl _ _) _) _;have hk1:Boxed (((w.alloc (.cells #[.pointer (some ⟨A.ab,0,none⟩)] 154)).alloc (.cells #[.int .i64 c] 3)).alloc (.cells #[.int .i64 0,.int .i64 0,.int .u64 0] 60)) (w.heap.size+1) 3 (.int .i64 c):=qag (qad Zs _ _) _;obtain⟨W1,hW1⟩:∃W1,((w.alloc (.cells #[.pointer (some ⟨A.ab,0,none⟩)] 154)).alloc (.cells #[.int .i64 c] 3)).alloc (.cells #[.int .i64 0,.int .i64 0,.int .u64 0] 60)=W1:=⟨_,rfl⟩
 rw[hW1] at hA0 hL0 hu hk0 hk1;have hs1:w.heap.size+2<W1.heap.size:=by rw[<-hW1];simp
 have hF0:¬F (w.heap.size+2):=λe=>by have:=h.i.lt e;omega
 have hFk:∀j,w.heap.size<=j->¬F j:=λj hj e=>by have:=h.i.lt e;omega
 have hR0:v.ownBlock≠some (w.heap.size+2):=λe=>by have:=(h.a.row.lt _ e).2;omega
 have hlt:=h.a.lt;have hvl:∀k,v.ownBlock=some k->k<w.heap.size:=λk hk=>(h.a.row.lt k hk).2
 have hFl:∀k,F k->k<w.heap.size:=λk hk=>h.i.lt hk
 have hab:∀k,k=E.a\/k=E.b\/k=E.c->k≠w.heap.size+2:=λk hk e=>by have:=h.i.low k (.inr hk);omega
 have hHB:∀j,w.heap.size<=j->¬H j:=λj hj e=>by have:=hH _ e;omega
 have hw1:tknA A E n L c ws E.sp i l s≠ .wild:=AP.tame hw;have htk:=waa (qq2 (H:=H) hA0.a hD c hc hw1 (λk hk=>by have:=hH k hk;omega));have c0:=hk0.cell;have c1:=hk1.cell;have m0:=hFk w.heap.size (wah _);have m1:=hFk (w.heap.size+1) Zo;replace hA0:=waa hA0;replace hL0:=waa hL0;replace hk0:=waa hk0;replace hk1:=waa hk1;replace hw:=waa hw;clear h hu hFk;go_enter Tryz.func203,Tryz.ntmps203;go_wp2_with fail;try rw[hW1]
 refine htk.out.mono ?_;intro e V hpost;obtain⟨hu1,hp1⟩:=hpost;cases ho1:tknA A E n L c ws E.sp i l s with
 |wild=>exact absurd ho1 hw1
 |stop bl l1 s1=>
  rw[ho1] at hp1;obtain⟨F1,rfl,hO1,hg1⟩:=hp1;exact⟨rfl,qal (hA0.out.offH hO1 hg1 hu1) (by unfold smallA;rw[AP.bind_stop ho1])⟩
 |done r i1 l1 s1=>
  rw[ho1] at hp1;obtain⟨x1,F1,v1,rfl,rfl,hI1,hg1,hr1⟩:=hp1;have hw2:=waa (AP.tame_next (t:=tknA A E n L c ws) (f:=smlC A E L c) hw.out ho1);have hob1:=waa (show smallA A E n L c ws E.sp i l s=smlC A E L c r E.sp i1 l1 s1 by unfold smallA;rw[AP.bind_done ho1]);have hnB:∀j,w.heap.size<=j->j<W1.heap.size->¬(F j\/ownH A v H j):=by
   rintro j hj - (e|e|e|e)
   ·have:=hFl _ e;omega
   ·omega
   ·have:=hvl _ e;omega
   ·exact hHB j hj e
  have hL1:=hu1.block2 hL0.out (hnB _ Zo Zo);have hF1:=hg1.no hs1 hF0;have hR1:v1.ownBlock≠some (w.heap.size+2):=λe=>(hr1 _ e).elim hR0 (λe=>by omega)
  have j0:Boxed V w.heap.size 154 (.pointer (some ⟨A.ab,0,none⟩)):=hu1.block2 hk0.out (hnB _ Zo Zo);have j1:Boxed V (w.heap.size+1) 3 (.int .i64 c):=hu1.block2 hk1.out (hnB _ Zo Zo);have n0:=hg1.no hk0.out.lt m0;have n1:=hg1.no hk1.out.lt m1;have hv0:v1.ownBlock≠some w.heap.size:=λe=>(hr1 _ e).elim (λe=>by have:=hvl _ e;omega) (λe=>by omega)
  have hv1:v1.ownBlock≠some (w.heap.size+1):=λe=>(hr1 _ e).elim (λe=>by have:=hvl _ e;omega) (λe=>by omega)
  have hA1:=hA0.out.next hI1 hg1 hu1 hr1;have hs2:=wak hs1 hu1.size;obtain⟨⟨a0,a1,a2⟩,aw⟩:=r;unfold anX anV;dsimp only
  have hBs:=(wai V.heap.size V).alloc (wah _) (.cells #[.int .i64 a0,.int .i64 a1,.int .u64 (a2:Int)] 60);have hA2:=hA1.below hBs;have hL2:=(hBs.block _ hs2).trans hL1;have g0:Boxed (V.alloc (.cells #[.int .i64 a0,.int .i64 a1,.int .u64 (a2:Int)] 60)) w.heap.size 154 (.pointer (some ⟨A.ab,0,none⟩)):=(hBs.block _ j0.lt).trans j0;have g1:Boxed (V.alloc (.cells #[.int .i64 a0,.int .i64 a1,.int .u64 (a2:Int)] 60)) (w.heap.size+1) 3 (.int .i64 c):=(hBs.block _ j1.lt).trans j1;have g2:(V.alloc (.cells #[.int .i64 a0,.int .i64 a1,.int .u64 (a2:Int)] 60)).heap[V.heap.size]? =some (.cells #[.int .i64 a0,.int .i64 a1,.int .u64 (a2:Int)] 60 (0,0)):=heap_alloc_new V _;have n2:¬F1 V.heap.size:=λe=>by have:=hI1.i.lt e;omega
  have hv2:v1.ownBlock≠some V.heap.size:=λe=>by have:=(hI1.a.row.lt _ e).2;omega
  obtain⟨W2,hW2⟩:∃W2,V.alloc (.cells #[.int .i64 a0,.int .i64 a1,.int .u64 (a2:Int)] 60)=W2:=⟨_,rfl⟩
  rw[hW2] at hA2 hL2 g0 g1 g2;have hs3:V.heap.size<W2.heap.size:=(waj.1 g2).1;obtain⟨⟨z0,z1,z2⟩,zf⟩:=qaf g2;have d0:=g0.cell;have d1:=g1.cell;by_cases hz:a0=0
  rotate_left
  ·have hob2:smallA A E n L c ws E.sp i l s= .done ((a0,a1,a2),aw) i1 l1 s1:=by rw[hob1.out,smlC,if_pos hz];rfl
   obtain⟨⟨p0,p1,p2⟩,pf⟩:=qaf hL2;have hfin:=waa (AtH.done (t:=smallA A E n L c ws) (R:=λa x _=>x=anX a) (a:=(a0,a1,a2)) (x:=anX (a0,a1,a2)) (hA2.own (B:=w.heap.size+2) Zo hF1 hR1 (qam (.int .i64 a0) (.int .i64 a1) (.int .u64 (a2:Int))) hlt hab) hob2 rfl);replace hL2:=waa hL2;clear hI1 hg1 hu1 hr1 ho1 hA0 hL0 hw1 hw htk hk0 hk1 c0 c1 j0 j1 hA1 hA2 hob1 hob2 hw2 hL1 hnB hBs g0 g1 g2;go_upto_region 2 with fail
   try rw[hW2]
   go_wp2_with fail;refine qak rfl rfl rfl (qai (qan hL2.out _ _ _)) ?_;exact hfin.out
  subst hz;by_cases hle:aw.length<=200
  rotate_left
  ·exact absurd (by rw[smlC,if_neg Zs,if_neg hle];rfl) hw2.out
  have hdef:smlC A E L c ((0,a1,a2),aw)=qbe E 1 (smlB A E L aw a1 c):=by rw[smlC,if_neg Zs,if_pos hle]
  have hw3:qbe E 1 (smlB A E L aw a1 c) E.sp i1 l1 s1≠ .wild:=by have:=hw2.out;rw[hdef] at this;exact this
  have hob2:=waa (show smallA A E n L c ws E.sp i l s=qbe E 1 (smlB A E L aw a1 c) E.sp i1 l1 s1 from by rw[hob1.out,hdef]);have hHw:∀k,H k->k<W2.heap.size:=λk hk=>by have:=hH k hk;omega
  have hun:=waa (qit (H:=H) (FN:=257) (fcaps:=#[.pointer (some ⟨w.heap.size,0,none⟩),.pointer (some ⟨V.heap.size,0,none⟩),.pointer (some ⟨w.heap.size+1,0,none⟩)]) (t:=smlB A E L aw a1 c) (λargs w=>by simp[go_sem]) hA2.a 1 hw3 hHw (λV' i' l' s' F' hI hU hG hw'=>
   qsd (z0:=0) (x0:=a2) hI hD (qac g0 hU n0) (hG.no g0.lt n0) (hU.block2 g2 n2) (hG.no hs3 n2) (qac g1 hU n1) (hG.no g1.lt n1) (by
    rintro k (rfl|rfl|rfl) (e|e|e)
    ·omega
    ·exact hv0 e
    ·exact hHB _ (wah _) e
    ·omega
    ·exact hv2 e
    ·exact hHB _ Zo e
    ·omega
    ·exact hv1 e
    ·exact hHB _ Zo e) hc ho hle hed (λk hk=>wak (hHw k hk) hU.size) hw'))
  replace hA2:=waa hA2;replace hL2:=waa hL2;clear hI1 hg1 hu1 hr1 ho1 hA0 hL0 hw1 hw htk hk0 hk1 c0 c1 j0 j1 hA1 hob1 hw2 hL1 hnB hBs g0 g1 g2 hdef;go_upto_region 2 with fail
  try rw[hW2]
  go_wp2_with fail;refine hun.out.mono ?_;intro e V2 hpost;obtain⟨hu2,hp2⟩:=hpost;cases ho2:qbe E 1 (smlB A E L aw a1 c) E.sp i1 l1 s1 with
  |wild=>exact absurd ho2 hw3
  |stop bl l2 s2=>
   rw[ho2] at hp2;obtain⟨F2,rfl,hO2,hg2⟩:=hp2;exact⟨rfl,qal (hA2.out.offH hO2 hg2 hu2) (by rw[hob2.out];exact ho2)⟩
  |done b i2 l2 s2=>
   rw[ho2] at hp2;obtain⟨x2,F2,v2,rfl,rfl,hI2,hg2,hr2⟩:=hp2;have hob3:=hob2.out.trans ho2;have hL3:=hu2.block2 hL2.out (by
    rintro(e|e|e|e)
    ·exact hF1 e
    ·omega
    ·exact hR1 e
    ·exact hHB _ Zo e)
   have hF2:=hg2.no Zo hF1;have hR2:v2.ownBlock≠some (w.heap.size+2):=λe=>(hr2 _ e).elim hR1 (λe=>by omega)
   have hA3:=hA2.out.next hI2 hg2 hu2 hr2;obtain⟨⟨y0,y1,y2⟩,yw⟩:=b;unfold anX anV;dsimp only
   obtain⟨⟨q0,q1,q2⟩,qf⟩:=qaf hL3;have hfin:=waa (AtH.done (t:=smallA A E n L c ws) (R:=λa x _=>x=anX a) (a:=(y0,y1,y2)) (x:=anX (y0,y1,y2)) (hA3.own (B:=w.heap.size+2) Zo hF2 hR2 (qam (.int .i64 y0) (.int .i64 y1) (.int .u64 (y2:Int))) hlt hab) hob3 rfl);replace hL3:=waa hL3;clear hA3 hI2 hg2 hu2 hr2 hA2 hL2 hun hob2 hob3 ho2;go_wp2_with fail;refine qak rfl rfl rfl (qai (qan hL3.out _ _ _)) ?_;exact hfin.out
noncomputable def mallocA (A:AC) (E:DP HS) (n L:Nat) (ws:List (Int×Nat)):DAP:=
 if A.slots<0\/A.words<A.slots\/255<A.slots then errA 1 ws else if clN A.words<0 then errA 2 ws else if A.root=true/\qco A.s A.l A.r A.idx<0 then errA 3 ws
 else if 0<=clN A.words/\clN A.words<4 then smallA A E n L (clN A.words) ws else qbd
theorem qhv(h:AIn A E i l s F v ws w)(hD:DdE A E base n L)(ho:-9223372036854775808<=A.obj/\A.obj<=9223372036854775807){eX:Option Addr}{en ec:Nat}(hed:A.ed= .slice eX en ec)(hw:mallocA A E n L ws E.sp i l s≠ .wild)(hH:∀k,H k->k<w.heap.size):
  Calls Tryz.prog 166 #[.pointer (some ⟨A.ab,0,none⟩)] w λe w'=>qb6 A E (mallocA A E n L ws E.sp i l s) (λa x _=>x=anX a) F H v w e w':=by
 have hu:Upd (λ_=>False) w ((w.alloc (.cells #[.int .i64 0,.int .i64 0,.int .u64 0] 60)).alloc (.cells #[.int .i64 A.kind,.int .i64 A.who,.bool A.root,.int .i64 A.obj,.int .i64 A.idx,.int .i64 A.words,.int .i64 A.slots,.int .i64 A.target,.int .i64 A.many,.int .u64 (A.x:Int),.slice eX en ec] 43)):=((Upd.refl _ w).alloc _).alloc _;have hA0:=(AtH.start (H:=H) h).new hu;have hL0:((w.alloc (.cells #[.int .i64 0,.int .i64 0,.int .u64 0] 60)).alloc (.cells #[.int .i64 A.kind,.int .i64 A.who,.bool A.root,.int .i64 A.obj,.int .i64 A.idx,.int .i64 A.words,.int .i64 A.slots,.int .i64 A.target,.int .i64 A.many,.int .u64 (A.x:Int),.slice eX en ec] 43)).heap[w.heap.size]? =some (.cells #[.int .i64 0,.int .i64 0,.int .u64 0] 60 (0,0)):=qag (heap_alloc_new w _) _;have hC0:((w.alloc (.cells #[.int .i64 0,.int .i64 0,.int .u64 0] 60)).alloc (.cells #[.int .i64 A.kind,.int .i64 A.who,.bool A.root,.int .i64 A.obj,.int .i64 A.idx,.int .i64 A.words,.int .i64 A.slots,.int .i64 A.target,.int .i64 A.many,.int .u64 (A.x:Int),.slice eX en ec] 43)).heap[w.heap.size+1]? =some (.cells #[.int .i64 A.kind,.int .i64 A.who,.bool A.root,.int .i64 A.obj,.int .i64 A.idx,.int .i64 A.words,.int .i64 A.slots,.int .i64 A.target,.int .i64 A.many,.int .u64 (A.x:Int),.slice eX en ec] 43 (0,0)):=qad Zs _ _;obtain⟨⟨c5,c7,c8,c9⟩,c10,c11,c12,c13,c14,c15⟩:=((h.new ((Upd.refl (λ_=>False) w).alloc (.cells #[.int .i64 0,.int .i64 0,.int .u64 0] 60))).a.call)
 rw[hed] at c15;have c6:=((h.new ((Upd.refl (λ_=>False) w).alloc (.cells #[.int .i64 0,.int .i64 0,.int .u64 0] 60))).a.cells).2.1.2.1;obtain⟨W1,hW1⟩:∃W1,(w.alloc (.cells #[.int .i64 0,.int .i64 0,.int .u64 0] 60)).alloc (.cells #[.int .i64 A.kind,.int .i64 A.who,.bool A.root,.int .i64 A.obj,.int .i64 A.idx,.int .i64 A.words,.int .i64 A.slots,.int .i64 A.target,.int .i64 A.many,.int .u64 (A.x:Int),.slice eX en ec] 43)=W1:=⟨_,rfl⟩
 rw[hW1] at hA0 hL0 hu hC0;have hs1:w.heap.size+1<W1.heap.size:=by rw[<-hW1];simp
 have hs0:w.heap.size<W1.heap.size:=Zo
 have hF0:¬F w.heap.size:=λe=>by have:=h.i.lt e;omega
 have hR0:v.ownBlock≠some w.heap.size:=λe=>by have:=(h.a.row.lt _ e).2;omega
 have hHB:¬H w.heap.size:=λe=>by have:=hH _ e;omega
 have hlt:=h.a.lt;have hab:∀k,k=E.a\/k=E.b\/k=E.c->k≠w.heap.size:=λk hk e=>by have:=h.i.low k (.inr hk);omega
 have hcf:=waa (λV=>qg9 A.words V);have d2:W1.cell? ⟨w.heap.size+1,2,none⟩=some (.bool A.root):=qab hC0 2;have d4:W1.cell? ⟨w.heap.size+1,4,none⟩=some (.int .i64 A.idx):=qab hC0 4;have d5:W1.cell? ⟨w.heap.size+1,5,none⟩=some (.int .i64 A.words):=qab hC0 5;have d6:W1.cell? ⟨w.heap.size+1,6,none⟩=some (.int .i64 A.slots):=qab hC0 6;obtain⟨⟨-,k1,k2,k3⟩,-⟩:=hA0.a.a.cells;have hrt:=waa (λV=>qm3 A.s A.l A.r A.idx V);have hA0d:=waa (hA0.new ((Upd.refl (λ_=>False) _).drew));have hob0:mallocA A E n L ws E.sp i l s=mallocA A E n L ws E.sp i l s:=rfl;replace hA0:=waa hA0;replace hL0:=waa hL0;replace hW1:=waa hW1;clear h hu hC0 hob0;go_enter Tryz.func166,Tryz.ntmps166;go_upto_region 2 with fail
 rw[hW1.out];clear c5 c6 c7 c8 c9 c10 c11 c12 c13 c14 c15;obtain⟨cl,hcl⟩:∃cl,clN A.words=cl:=⟨_,rfl⟩
 rw[hcl] at hcf;by_cases hs:A.slots<0\/A.words<A.slots\/255<A.slots
 ·have hobR:mallocA A E n L ws E.sp i l s= .done ((1,0,0),ws) i l s:=by rw[mallocA,if_pos hs];rfl
  clear hw;by_cases h1:A.slots<0
  ·clear hs
   go_wp2_with fail;refine(hcf.out _).mono ?_;rintro e VC ⟨rfl,rfl⟩;go_wp2_with fail;refine(qax 1 _).mono ?_;rintro e VR ⟨rfl,hBR⟩;have hAR:=hA0.out.below hBR;have hLR:=(hBR.block _ hs0).trans hL0.out;unfold anV;obtain⟨⟨p0,p1,p2⟩,pf⟩:=qaf hLR;have hfin:=waa (AtH.done (t:=mallocA A E n L ws) (R:=λa x _=>x=anX a) (a:=(1,0,0)) (x:=anX (1,0,0)) (hAR.own (B:=w.heap.size) Zo hF0 hR0 (qam (.int .i64 1) (.int .i64 0) (.int .u64 ((0:Nat):Int))) hlt hab) hobR rfl);replace hLR:=waa hLR;clear hBR hAR;go_wp2_with fail;refine qak rfl rfl rfl (qai (qan hLR.out _ _ _)) ?_;exact hfin.out
  by_cases h2:A.words<A.slots
  ·clear hs
   go_wp2_with fail;refine(hcf.out _).mono ?_;rintro e VC ⟨rfl,rfl⟩;go_wp2_with fail;refine(qax 1 _).mono ?_;rintro e VR ⟨rfl,hBR⟩;have hAR:=hA0.out.below hBR;have hLR:=(hBR.block _ hs0).trans hL0.out;unfold anV;obtain⟨⟨p0,p1,p2⟩,pf⟩:=qaf hLR;have hfin:=waa (AtH.done (t:=mallocA A E n L ws) (R:=λa x _=>x=anX a) (a:=(1,0,0)) (x:=anX (1,0,0)) (hAR.own (B:=w.heap.size) Zo hF0 hR0 (qam (.int .i64 1) (.int .i64 0) (.int .u64 ((0:Nat):Int))) hlt hab) hobR rfl);replace hLR:=waa hLR;clear hBR hAR;go_wp2_with fail;refine qak rfl rfl rfl (qai (qan hLR.out _ _ _)) ?_;exact hfin.out
  have h3:255<A.slots:=(hs.resolve_left h1).resolve_left h2;clear hs;go_wp2_with fail;refine(hcf.out _).mono ?_;rintro e VC ⟨rfl,rfl⟩;go_wp2_with fail;refine(qax 1 _).mono ?_;rintro e VR ⟨rfl,hBR⟩;have hAR:=hA0.out.below hBR;have hLR:=(hBR.block _ hs0).trans hL0.out;unfold anV;obtain⟨⟨p0,p1,p2⟩,pf⟩:=qaf hLR;have hfin:=waa (AtH.done (t:=mallocA A E n L ws) (R:=λa x _=>x=anX a) (a:=(1,0,0)) (x:=anX (1,0,0)) (hAR.own (B:=w.heap.size) Zo hF0 hR0 (qam (.int .i64 1) (.int .i64 0) (.int .u64 ((0:Nat):Int))) hlt hab) hobR rfl);replace hLR:=waa hLR;clear hBR hAR;go_wp2_with fail;refine qak rfl rfl rfl (qai (qan hLR.out _ _ _)) ?_;exact hfin.out
 have h1:¬A.slots<0:=λe=>hs (.inl e)
 have h2:¬A.words<A.slots:=λe=>hs (.inr (.inl e))
 have h3:¬255<A.slots:=λe=>hs (.inr (.inr e))
 by_cases hc0:cl<0
 ·have hobR:mallocA A E n L ws E.sp i l s= .done ((2,0,0),ws) i l s:=by rw[mallocA,if_neg hs,hcl,if_pos hc0];rfl
  clear hw hs;go_wp2_with fail;refine(hcf.out _).mono ?_;rintro e VC ⟨rfl,rfl⟩;go_wp2_with fail;refine(qax 2 _).mono ?_;rintro e VR ⟨rfl,hBR⟩;have hAR:=hA0.out.below hBR;have hLR:=(hBR.block _ hs0).trans hL0.out;unfold anV;obtain⟨⟨p0,p1,p2⟩,pf⟩:=qaf hLR;have hfin:=waa (AtH.done (t:=mallocA A E n L ws) (R:=λa x _=>x=anX a) (a:=(2,0,0)) (x:=anX (2,0,0)) (hAR.own (B:=w.heap.size) Zo hF0 hR0 (qam (.int .i64 2) (.int .i64 0) (.int .u64 ((0:Nat):Int))) hlt hab) hobR rfl);replace hLR:=waa hLR;clear hBR hAR;go_wp2_with fail;refine qak rfl rfl rfl (qai (qan hLR.out _ _ _)) ?_;exact hfin.out
 have hrest:mallocA A E n L ws E.sp i l s=(if A.root=true/\qco A.s A.l A.r A.idx<0 then errA 3 ws else if 0<=cl/\cl<4 then smallA A E n L cl ws else qbd) E.sp i l s:=by rw[mallocA,if_neg hs,hcl,if_neg hc0]
 have hfin3:¬(A.root=true/\qco A.s A.l A.r A.idx<0)->(0<=cl/\cl<4)/\mallocA A E n L ws E.sp i l s=smallA A E n L cl ws E.sp i l s/\smallA A E n L cl ws E.sp i l s≠ .wild:=λhn=>by
  rw[hrest,if_neg hn] at hw;rw[hrest,if_neg hn];by_cases hcc:0<=cl/\cl<4
  ·rw[if_pos hcc] at hw ⊢
   exact⟨hcc,rfl,hw⟩
  ·rw[if_neg hcc] at hw
   exact absurd rfl hw
 replace hrest:=waa hrest;replace hfin3:=waa hfin3;clear hs hw;cases hr:A.root with
 |false=>
  obtain⟨hcc,hob,hw⟩:=hfin3.out (by rw[hr];simp);have hc4:¬cl=4:=Zo
  rw[hr] at d2;replace hob:=waa hob;replace hw:=waa hw;clear hrest hfin3;go_upto_region 9 with (refine(hcf.out _).mono ?_;rintro e VC ⟨rfl,rfl⟩)
  refine wp_region_held_drew (S:=(λU=>U.cell? ⟨w.heap.size+1,2,none⟩=some (.bool false))) Zk (d2) (λhHeld=>?_);refine wpAnyH_take (i:=0) (v:=?_) rfl Zk Zk Zk (λ_ _ _ h=>h) (Or.inl ⟨by rfl,?_⟩) Za ?_;rotate_left;(·intro u h;(try dsimp only at h);(try simp only[wab,wac]);go_simp;try with_reducible rfl);try simp only[Act.put,waf,wae,wag,wab,wac]
  refine wpAnyH_take (i:=1) (v:=?_) rfl Zk Zk Zk (λ_ _ _ h=>h) (Or.inl ⟨by rfl,?_⟩) Za ?_;rotate_left;(·intro u h;(try dsimp only at h);(try simp only[wab,wac,wad]);go_simp;try with_reducible rfl);try simp only[Act.put,waf,wae,wag,wab,wac,wad]
  refine wpAnyH_take (i:=2) (v:=?_) rfl Zk Zk Zk (λ_ _ _ h=>h) (Or.inl ⟨by rfl,?_⟩) Za ?_;rotate_left;(·intro u h;(try dsimp only at h);(try simp only[wab,wac,wad]);go_simp;try with_reducible rfl);try simp only[Act.put,waf,wae,wag,wab,wac,wad]
  refine wpAnyH_take (i:=3) (v:=?_) rfl Zk Zk Zk (λ_ _ _ h=>h) (Or.inl ⟨by rfl,?_⟩) Za ?_;rotate_left;(·intro u h;(try dsimp only at h);(try simp only[wab,wac,wad]);go_simp;try with_reducible rfl);try simp only[Act.put,waf,wae,wag,wab,wac,wad]
  refine wpAnyH_take (i:=4) (v:=undef) rfl Zk Zk Zk (λ_ _ _ h=>h) (Or.inr ⟨by rfl,rfl⟩) Za ?_;try simp only[Act.put,waf,wae,wag,wab,wac,wad]
  refine wpAnyH_take (i:=5) (v:=undef) rfl Zk Zk Zk (λ_ _ _ h=>h) (Or.inr ⟨by rfl,rfl⟩) Za ?_;try simp only[Act.put,waf,wae,wag,wab,wac,wad]
  refine wpAnyH_take (i:=6) (v:=undef) rfl Zk Zk Zk (λ_ _ _ h=>h) (Or.inr ⟨by rfl,rfl⟩) Za ?_;try simp only[Act.put,waf,wae,wag,wab,wac,wad]
  refine wpAnyH_take (i:=7) (v:=undef) rfl Zk Zk Zk (λ_ _ _ h=>h) (Or.inr ⟨by rfl,rfl⟩) Za ?_;try simp only[Act.put,waf,wae,wag,wab,wac,wad]
  refine wpAnyH_take (i:=8) (v:=undef) rfl Zk Zk Zk (λ_ _ _ h=>h) (Or.inr ⟨by rfl,rfl⟩) Za ?_;try simp only[Act.put,waf,wae,wag,wab,wac,wad]
  refine wpAnyH_take (i:=9) (v:=undef) rfl Zk Zk Zk (λ_ _ _ h=>h) (Or.inr ⟨by rfl,rfl⟩) Za ?_;try simp only[Act.put,waf,wae,wag,wab,wac,wad]
  refine wpAnyH_take (i:=10) (v:=undef) rfl Zk Zk Zk (λ_ _ _ h=>h) (Or.inr ⟨by rfl,rfl⟩) Za ?_;try simp only[Act.put,waf,wae,wag,wab,wac,wad]
  refine wpAnyH_take (i:=11) (v:=undef) rfl Zk Zk Zk (λ_ _ _ h=>h) (Or.inr ⟨by rfl,rfl⟩) Za ?_;try simp only[Act.put,waf,wae,wag,wab,wac,wad]
  refine wpAnyH_take (i:=12) (v:=undef) rfl Zk Zk Zk (λ_ _ _ h=>h) (Or.inr ⟨by rfl,rfl⟩) Za ?_;try simp only[Act.put,waf,wae,wag,wab,wac,wad]
  refine wpAnyH_take (i:=13) (v:=?_) rfl Zk Zk Zk (λ_ _ _ h=>h) (Or.inl ⟨by rfl,?_⟩) Za ?_;rotate_left;(·intro u h;(try dsimp only at h);(try simp only[wab,wac,wad]);go_simp;try with_reducible rfl);try simp only[Act.put,waf,wae,wag,wab,wac,wad]
  refine wpAnyH_take (i:=14) (v:=?_) rfl Zk Zk Zk (λ_ _ _ h=>h) (Or.inl ⟨by rfl,?_⟩) Za ?_;rotate_left;(·intro u h;(try dsimp only at h);(try simp only[wab,wac,wad]);go_simp;try with_reducible rfl);try simp only[Act.put,waf,wae,wag,wab,wac,wad]
  refine wpAnyH_done Zk ?_ _;have hsm:=waa (qja (H:=H) hA0d.out.a hD cl hcc ho hed hw.out (λk hk=>wak (hH k hk) hA0d.out.u.size));go_wp2_with fail;refine hsm.out.mono ?_;intro e V2 hpost;obtain⟨hu2,hp2⟩:=hpost;cases ho2:smallA A E n L cl ws E.sp i l s with
  |wild=>exact absurd ho2 hw.out
  |stop bl l2 s2=>
   rw[ho2] at hp2;obtain⟨F2,rfl,hO2,hg2⟩:=hp2;exact⟨rfl,qal (hA0d.out.offH hO2 hg2 hu2) (by rw[hob.out];exact ho2)⟩
  |done b i2 l2 s2=>
   rw[ho2] at hp2;obtain⟨x2,F2,v2,rfl,rfl,hI2,hg2,hr2⟩:=hp2;have hob3:=hob.out.trans ho2;have hL3:=hu2.block2 hL0.out (by
    rintro(e|e|e|e)
    ·exact hF0 e
    ·omega
    ·exact hR0 e
    ·exact hHB e)
   have hsW:w.heap.size<W1.heap.size:=(waj.1 hL0.out).1;have hF2:=hg2.no hsW hF0;have hR2:v2.ownBlock≠some w.heap.size:=λe=>(hr2 _ e).elim hR0 (λe=>by have:W1.heap.size<=w.heap.size:=e;omega)
   have hA3:=hA0d.out.next hI2 hg2 hu2 hr2;obtain⟨⟨y0,y1,y2⟩,yw⟩:=b;unfold anX anV;dsimp only
   obtain⟨⟨q0,q1,q2⟩,qf⟩:=qaf hL3;have hfin:=waa (AtH.done (t:=mallocA A E n L ws) (R:=λa x _=>x=anX a) (a:=(y0,y1,y2)) (x:=anX (y0,y1,y2)) (hA3.own (B:=w.heap.size) Zo hF2 hR2 (qam (.int .i64 y0) (.int .i64 y1) (.int .u64 (y2:Int))) hlt hab) hob3 rfl);replace hL3:=waa hL3;clear hA3 hI2 hg2 hu2 hr2 hsm hob3 ho2;go_wp2_with fail;refine qak rfl rfl rfl (qai (qan hL3.out _ _ _)) ?_;exact hfin.out
 |true=>
  rw[hr] at d2;go_upto_region 9 with (refine(hcf.out _).mono ?_;rintro e VC ⟨rfl,rfl⟩)
  refine wp_region_held_drew (S:=(λU=>(U.cell? ⟨A.ab,1,none⟩=some (.int .i64 A.s)/\U.cell? ⟨A.ab,2,none⟩=some (.int .i64 A.l)/\U.cell? ⟨A.ab,3,none⟩=some (.int .i64 A.r))/\U.cell? ⟨w.heap.size+1,2,none⟩=some (.bool true)/\U.cell? ⟨w.heap.size+1,4,none⟩=some (.int .i64 A.idx))) Zk (⟨⟨k1,k2,k3⟩,d2,d4⟩) (λhHeld=>?_);refine wpAnyH_take (i:=0) (v:=?_) rfl Zk Zk Zk (λ_ _ _ h=>h) (Or.inl ⟨by rfl,?_⟩) Za ?_;rotate_left;(·intro u h;(try dsimp only at h);(try simp only[wab,wac]);go_simp;try with_reducible rfl);try simp only[Act.put,waf,wae,wag,wab,wac]
  refine wpAnyH_take (i:=1) (v:=?_) rfl Zk Zk Zk (λ_ _ _ h=>h) (Or.inl ⟨by rfl,?_⟩) Za ?_;rotate_left;(·intro u h;(try dsimp only at h);(try simp only[wab,wac,wad]);go_simp;try with_reducible rfl);try simp only[Act.put,waf,wae,wag,wab,wac,wad]
  refine wpAnyH_take (i:=2) (v:=?_) rfl Zk Zk Zk (λ_ _ _ h=>h) (Or.inl ⟨by rfl,?_⟩) Za ?_;rotate_left;(·intro u h;(try dsimp only at h);(try simp only[wab,wac,wad]);go_simp;try with_reducible rfl);try simp only[Act.put,waf,wae,wag,wab,wac,wad]
  refine wpAnyH_take (i:=3) (v:=?_) rfl Zk Zk Zk (λ_ _ _ h=>h) (Or.inl ⟨by rfl,?_⟩) Za ?_;rotate_left;(·intro u h;(try dsimp only at h);(try simp only[wab,wac,wad]);go_simp;try with_reducible rfl);try simp only[Act.put,waf,wae,wag,wab,wac,wad]
  refine wpAnyH_take (i:=4) (v:=?_) rfl Zk Zk Zk (λ_ _ _ h=>h) (Or.inl ⟨by rfl,?_⟩) Za ?_;rotate_left;(·intro u h;(try dsimp only at h);(try simp only[wab,wac,wad]);go_simp;try with_reducible rfl);try simp only[Act.put,waf,wae,wag,wab,wac,wad]
  refine wpAnyH_take (i:=5) (v:=?_) rfl Zk Zk Zk (λ_ _ _ h=>h) (Or.inl ⟨by rfl,?_⟩) Za ?_;rotate_left;(·intro u h;(try dsimp only at h);(try simp only[wab,wac,wad]);go_simp;try with_reducible rfl);try simp only[Act.put,waf,wae,wag,wab,wac,wad]
  refine wpAnyH_take (i:=6) (v:=?_) rfl Zk Zk Zk (λ_ _ _ h=>h) (Or.inl ⟨by rfl,?_⟩) Za ?_;rotate_left;(·intro u h;(try dsimp only at h);(try simp only[wab,wac,wad]);go_simp;try with_reducible rfl);try simp only[Act.put,waf,wae,wag,wab,wac,wad]
  refine wpAnyH_take (i:=7) (v:=?_) rfl Zk Zk Zk (λ_ _ _ h=>h) (Or.inl ⟨by rfl,?_⟩) Za ?_;rotate_left;(·intro u h;(try dsimp only at h);(try simp only[wab,wac,wad]);go_simp;try with_reducible rfl);try simp only[Act.put,waf,wae,wag,wab,wac,wad]
  refine wpAnyH_take (i:=8) (v:=?_) rfl Zk Zk Zk (λ_ _ _ h=>h) (Or.inl ⟨by rfl,?_⟩) Za ?_;rotate_left;(·intro u h;(try dsimp only at h);(try simp only[wab,wac,wad]);go_simp;try with_reducible rfl);try simp only[Act.put,waf,wae,wag,wab,wac,wad]
  refine wpAnyH_take (i:=9) (v:=?_) rfl Zk Zk Zk (λ_ _ _ h=>h) (Or.inl ⟨by rfl,?_⟩) Za ?_;rotate_left;(·intro u h;(try dsimp only at h);(try simp only[wab,wac,wad]);go_simp;try with_reducible rfl);try simp only[Act.put,waf,wae,wag,wab,wac,wad]
  refine wpAnyH_take (i:=10) (v:=?_) rfl Zk Zk Zk (λ_ _ _ h=>h) (Or.inl ⟨by rfl,?_⟩) Za ?_;rotate_left;(·intro u h;(try dsimp only at h);(try simp only[wab,wac,wad]);go_simp;try with_reducible rfl);try simp only[Act.put,waf,wae,wag,wab,wac,wad]
  refine wpAnyH_ready (rs:=[11]) Zk Zs ?_;refine AllReadyH.cons rfl (λK hK=>?_) AllReadyH.nil
  (try simp only[wab,wac,wad])
  go_simp
  refine(hrt.out _).mono ?_;rintro e VB ⟨rfl,hBB⟩;have hAB:=waa (hA0d.out.below hBB);have hLB:=waa ((hBB.block _ hs0).trans hL0.out);obtain⟨j1,j2,j3,j4,j5⟩:VB.cell? ⟨A.ab,1,none⟩=some (.int .i64 A.s)/\VB.cell? ⟨A.ab,2,none⟩=some (.int .i64 A.l)/\VB.cell? ⟨A.ab,3,none⟩=some (.int .i64 A.r)/\VB.cell? ⟨w.heap.size+1,2,none⟩=some (.bool true)/\VB.cell? ⟨w.heap.size+1,4,none⟩=some (.int .i64 A.idx):=⟨qaa hBB k1,qaa hBB k2,qaa hBB k3,qaa hBB d2,qaa hBB d4⟩
  clear hBB;go_wp2_with fail;refine hK.out _ _ (⟨⟨j1,j2,j3⟩,j4,j5⟩) (λhHeld2=>?_);clear hK K hHeld;have hHeld:=hHeld2;clear hHeld2;try simp only[Act.put,waf,wae,wag,wab,wac,wad]
  refine wpAnyH_take (i:=12) (v:=?_) rfl Zk Zk Zk (λ_ _ _ h=>h) (Or.inl ⟨by rfl,?_⟩) Za ?_;rotate_left;(·intro u h;(try dsimp only at h);(try simp only[wab,wac,wad]);go_simp;try with_reducible rfl);try simp only[Act.put,waf,wae,wag,wab,wac,wad]
  refine wpAnyH_take (i:=13) (v:=?_) rfl Zk Zk Zk (λ_ _ _ h=>h) (Or.inl ⟨by rfl,?_⟩) Za ?_;rotate_left;(·intro u h;(try dsimp only at h);(try simp only[wab,wac,wad]);go_simp;try with_reducible rfl);try simp only[Act.put,waf,wae,wag,wab,wac,wad]
  refine wpAnyH_take (i:=14) (v:=?_) rfl Zk Zk Zk (λ_ _ _ h=>h) (Or.inl ⟨by rfl,?_⟩) Za ?_;rotate_left;(·intro u h;(try dsimp only at h);(try simp only[wab,wac,wad]);go_simp;try with_reducible rfl);try simp only[Act.put,waf,wae,wag,wab,wac,wad]
  refine wpAnyH_done Zk ?_ _;by_cases hrn:qco A.s A.l A.r A.idx<0
  ·have hobR:mallocA A E n L ws E.sp i l s= .done ((3,0,0),ws) i l s:=by rw[hrest.out,if_pos ⟨hr,hrn⟩];rfl
   go_wp2_with fail;refine(qax 3 _).mono ?_;rintro e VR ⟨rfl,hBR⟩;have hAR:=hAB.out.below hBR;have hLR:=(hBR.block _ (waj.1 hLB.out).1).trans hLB.out;unfold anV;obtain⟨⟨p0,p1,p2⟩,pf⟩:=qaf hLR;have hfin:=waa (AtH.done (t:=mallocA A E n L ws) (R:=λa x _=>x=anX a) (a:=(3,0,0)) (x:=anX (3,0,0)) (hAR.own (B:=w.heap.size) Zo hF0 hR0 (qam (.int .i64 3) (.int .i64 0) (.int .u64 ((0:Nat):Int))) hlt hab) hobR rfl);replace hLR:=waa hLR;clear hBR hAR;go_wp2_with fail;refine qak rfl rfl rfl (qai (qan hLR.out _ _ _)) ?_;exact hfin.out
  ·obtain⟨hcc,hob,hw⟩:=hfin3.out (λe=>hrn e.2)
   have hc4:¬cl=4:=Zo
   replace hob:=waa hob;replace hw:=waa hw;have hsm:=waa (qja (H:=H) hAB.out.a hD cl hcc ho hed hw.out (λk hk=>wak (hH k hk) hAB.out.u.size));go_wp2_with fail;refine hsm.out.mono ?_;intro e V2 hpost;obtain⟨hu2,hp2⟩:=hpost;cases ho2:smallA A E n L cl ws E.sp i l s with
   |wild=>exact absurd ho2 hw.out
   |stop bl l2 s2=>
    rw[ho2] at hp2;obtain⟨F2,rfl,hO2,hg2⟩:=hp2;exact⟨rfl,qal (hAB.out.offH hO2 hg2 hu2) (by rw[hob.out];exact ho2)⟩
   |done b i2 l2 s2=>
    rw[ho2] at hp2;obtain⟨x2,F2,v2,rfl,rfl,hI2,hg2,hr2⟩:=hp2;have hob3:=hob.out.trans ho2;have hL3:=hu2.block2 hLB.out (by
     rintro(e|e|e|e)
     ·exact hF0 e
     ·omega
     ·exact hR0 e
     ·exact hHB e)
    have hsW:w.heap.size<VB.heap.size:=(waj.1 hLB.out).1;have hF2:=hg2.no hsW hF0;have hR2:v2.ownBlock≠some w.heap.size:=λe=>(hr2 _ e).elim hR0 (λe=>by have:VB.heap.size<=w.heap.size:=e;omega)
    have hA3:=hAB.out.next hI2 hg2 hu2 hr2;obtain⟨⟨y0,y1,y2⟩,yw⟩:=b;unfold anX anV;dsimp only
    obtain⟨⟨q0,q1,q2⟩,qf⟩:=qaf hL3;have hfin:=waa (AtH.done (t:=mallocA A E n L ws) (R:=λa x _=>x=anX a) (a:=(y0,y1,y2)) (x:=anX (y0,y1,y2)) (hA3.own (B:=w.heap.size) Zo hF2 hR2 (qam (.int .i64 y0) (.int .i64 y1) (.int .u64 (y2:Int))) hlt hab) hob3 rfl);replace hL3:=waa hL3;clear hA3 hI2 hg2 hu2 hr2 hsm hob3 ho2;go_wp2_with fail;refine qak rfl rfl rfl (qai (qan hL3.out _ _ _)) ?_;exact hfin.out
end
end Go.Proofs.YtgjhkafggagniaaGreat
