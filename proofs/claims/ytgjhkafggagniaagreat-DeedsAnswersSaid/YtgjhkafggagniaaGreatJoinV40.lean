/- Parts. No condition. -/
import Derived.Test.YtgjhkafggagniaaGreatJoinV35
set_option linter.unusedVariables false
set_option maxRecDepth 100000
set_option maxHeartbeats 8000000
namespace Go.Proofs.YtgjhkafggagniaaGreat
open Go Go.RowKit
abbrev EAP:=AP (DM×HS) (Int×Option OV×Int)
def qcr(E:DP HS)(ws:List (Int×Nat))(o:Option OV):Nat->Nat->AP (DM×HS) Bool
 |0,_=>AP.ret false
 |r+1,k=>(qar E.n E.nl E.who ws (qdi o (k:Int))).bind λy=>if y≠0 then AP.ret true else qcr E ws o r (k+1)
def qi4(ta:Int)(o:Option OV)(b:Bool):EAP:=if b=true then AP.ret (0,none,8) else AP.ret (ta,o,0)
def qes(E:DP HS)(ws:List (Int×Nat))(ta:Int)(o:Option OV):EAP:=
 if ocN o 1≠1 then AP.ret (0,none,7) else if okB o=true/\0<=ocN o 2/\ocN o 2<=255 then(qcr E ws o (ocN o 2).toNat 0).bind (qi4 ta o) else qbd
noncomputable def endgY (A:AC) (E:DP HS) (ws:List (Int×Nat)) (ta:Int) (y:Nat):EAP:=if wrap64 (y:Int)=0 then AP.ret (0,none,6) else(objectA A E ws (wrap64 (y:Int))).bind (qes E ws ta)
noncomputable def endgF (A:AC) (E:DP HS) (ws:List (Int×Nat)) (d:Int×Bool):EAP:=if d.2=true then(qar E.n E.nl E.who ws d.1).bind (endgY A E ws d.1) else AP.ret (0,none,3)
noncomputable def endingA (A:AC) (E:DP HS) (ws:List (Int×Nat)):EAP:=(destA A E ws A.root A.obj A.idx).bind (endgF A E ws)
theorem qmm{V:World}{b:Nat}{o:Obj}(h:V.heap[b]? =some o):V.drew.heap[b]? =some o:=h
theorem qfp{fn:Func}{a:Act}{W:World}{R:Ending->World->Prop}{p u q g:Nat}{t:TypeId}{cs:Array Value}{b c:Value}(h:fn.results=#[.tmp u,.cell p t,.tmp q])(hb:a.tmps.getD u undef=b)(hp:a.tmps.getD p undef= .pointer (some ⟨g,0,none⟩))(hc:a.tmps.getD q undef=c)(hd:a.defers=[])(hl:(loadVar t ⟨g,0,none⟩).run Tryz.prog W= .ok (.agg cs) W)(hR:R (.returned (.tuple #[b,.agg cs,c])) W):bodyPost Tryz.prog fn R .ret a W:=by
 refine⟨hd,_,?_,hR⟩;have hp':a.tmps[p]?.getD undef= .pointer (some ⟨g,0,none⟩):=by simpa using hp
 have hb':a.tmps[u]?.getD undef=b:=by simpa using hb
 have hc':a.tmps[q]?.getD undef=c:=by simpa using hc
 simp[results,h,asAddr,hp',hb',hc',hl,Result.andThen]
def HelI(A:AC)(E:DP HS)(F:Nat->Prop)(v:Value)(ws:List (Int×Nat))(w:World)(i:Nat)(l:List Nat)(s:DM×HS)(o:Option OV)(ta:Int)(LB RB M:Nat)(C:Array Value)(j:Nat)(wr:World):Prop:=
 ∃i' l' s' F',endingA A E ws E.sp i l s=((qcr E ws o (M - j) j).bind (qi4 ta o)) E.sp i' l' s'/\((qcr E ws o (M - j) j).bind (qi4 ta o)) E.sp i' l' s'≠ .wild/\AtF A E F v ws w i' l' s' F' wr/\wr.heap[LB]? =some (.cells C 79 (0,0))/\
  wr.heap[RB]? =some (.cells #[.int .i64 0,.int .i64 0,.int .i64 0,.int .i64 0,.int .i64 0,.int .i64 0,.int .i64 0] 79 (0,0))/\¬F' LB/\¬F' RB
section
variable {A:AC} {E:DP HS} {i i':Nat} {l l':List Nat} {s s':DM×HS} {F F' H:Nat->Prop} {v v':Value} {ws ws':List (Int×Nat)} {w w' w2:World} {base n L:Nat} {e:Ending}
theorem qnn(h:AIn A E i l s F v ws w)(hD:DdE A E base n L)(ho:-9223372036854775808<=A.obj/\A.obj<=9223372036854775807)(hm:ws.length<=400)(hw:endingA A E ws E.sp i l s≠ .wild):
  Calls Tryz.prog 206 #[.pointer (some ⟨A.ab,0,none⟩)] w λe w'=>E.Post (endingA A E ws E.sp i l s) (λ(x:Int×Option OV×Int) (v:Value) (_:World)=>v= .tuple #[.int .i64 x.1,.agg (ovC x.2.1),.int .i64 x.2.2]) F w e w':=by
 have hu:Upd (λ_=>False) w (w.alloc (.cells #[.int .i64 0,.int .i64 0,.int .i64 0,.int .i64 0,.int .i64 0,.int .i64 0,.int .i64 0] 79)):=(Upd.refl _ w).alloc _;have hA0:=(AtF.start h).new hu;have hL0:(w.alloc (.cells #[.int .i64 0,.int .i64 0,.int .i64 0,.int .i64 0,.int .i64 0,.int .i64 0,.int .i64 0] 79)).heap[w.heap.size]? =some (.cells #[.int .i64 0,.int .i64 0,.int .i64 0,.int .i64 0,.int .i64 0,.int .i64 0,.int .i64 0] 79 (0,0)):=heap_alloc_new w _;obtain⟨⟨c5,c7,c8,c9⟩,-⟩:=(hA0.a.a.call)
 obtain⟨W1,hW1⟩:∃W1,w.alloc (.cells #[.int .i64 0,.int .i64 0,.int .i64 0,.int .i64 0,.int .i64 0,.int .i64 0,.int .i64 0] 79)=W1:=⟨_,rfl⟩
 rw[hW1] at hA0 hL0 hu c7 c8 c9;have hs1:w.heap.size<W1.heap.size:=(waj.1 hL0).1;have hF0:¬F w.heap.size:=λe=>by have:=h.i.lt e;omega
 have hR0:v.ownBlock≠some w.heap.size:=λe=>by have:=(h.a.row.lt _ e).2;omega
 have hlt:=h.a.lt;have hab:∀k,k=E.a\/k=E.b\/k=E.c->k≠w.heap.size:=λk hk e=>by have:=h.i.low k (.inr hk);omega
 have hw1:destA A E ws A.root A.obj A.idx E.sp i l s≠ .wild:=AP.tame hw;have hdt:=waa (qkc hA0.a hD A.root A.obj A.idx ho Zo hw1);replace hA0:=waa hA0;replace hL0:=waa hL0;replace hw:=waa hw;clear h hu c5;go_enter Tryz.func206,Tryz.ntmps206;go_wp2_with fail;try rw[hW1]
 refine hdt.out.mono ?_;intro e V hpost;rcases hpost.done hw1 with ⟨d,i1,l1,s1,x1,F1,ho1,rfl,rfl,hI1,hg1,hu1⟩|⟨bl,l1,s1,F1,ho1,rfl,hO1,hg1,hu1⟩
 rotate_left
 ·exact⟨rfl,qba (hA0.out.off hO1 hg1 hu1) (by unfold endingA;rw[AP.bind_stop ho1])⟩
 obtain⟨ta,ok⟩:=d;unfold qdz;dsimp only
 have hw2:=waa (AP.tame_next (t:=destA A E ws A.root A.obj A.idx) (f:=endgF A E ws) hw.out ho1);have hob1:=waa (show endingA A E ws E.sp i l s=endgF A E ws (ta,ok) E.sp i1 l1 s1 by unfold endingA;rw[AP.bind_done ho1]);have hL1:=hu1.block2 hL0.out hF0;have hF1:=hg1.no hs1 hF0;have hA1:=waa (hA0.out.step hI1 hg1 hu1);have hs2:=wak hs1 hu1.size;clear hpost hI1 hg1 hu1 hw ho1 hA0 hL0 hw1 hdt c7 c8 c9;cases ok with
 |false=>
  have hobR:endingA A E ws E.sp i l s= .done (0,none,3) i1 l1 s1:=by rw[hob1.out];rfl
  obtain⟨⟨y0_,y1_,y2_,y3_,y4_,y5_,y6_⟩,yf_⟩:=qau hL1;have hfin:=waa (AtF.done (t:=endingA A E ws) (R:=(λ(x:Int×Option OV×Int) (v:Value) (_:World)=>v= .tuple #[.int .i64 x.1,.agg (ovC x.2.1),.int .i64 x.2.2])) (a:=(0,none,3)) (x:= .tuple #[.int .i64 0,.agg #[.int .i64 0,.int .i64 0,.int .i64 0,.int .i64 0,.int .i64 0,.int .i64 0,.int .i64 0],.int .i64 3]) (hA1.out.own (B:=w.heap.size) (wah _) hF1 hR0 (qcb (.int .i64 0) (.int .i64 0) (.int .i64 0) (.int .i64 0) (.int .i64 0) (.int .i64 0) (.int .i64 0)) hlt hab) hobR rfl);replace hL1:=waa hL1;go_wp2_with fail;refine qfp rfl rfl rfl rfl rfl (qb1 (qcl hL1.out _ _ _ _ _ _ _)) ?_;exact hfin.out
 |true=>
  have hw3:=waa (show((qar E.n E.nl E.who ws ta).bind (endgY A E ws ta)) E.sp i1 l1 s1≠ .wild from hw2.out);have hob2:=waa (show endingA A E ws E.sp i l s=((qar E.n E.nl E.who ws ta).bind (endgY A E ws ta)) E.sp i1 l1 s1 from hob1.out);have hld:=waa (qc3 hA1.out.a ta Zo (AP.tame hw3.out));replace hL1:=waa hL1;clear hob1 hw2;go_wp2_with fail;refine hld.out.mono ?_;intro e V2 hpost;rcases hpost.done (AP.tame hw3.out) with ⟨y,i2,l2,s2,x2,F2,ho2,rfl,rfl,hI2,hg2,hu2⟩|⟨bl,l2,s2,F2,ho2,rfl,hO2,hg2,hu2⟩
  rotate_left
  ·exact⟨rfl,qba (hA1.out.off hO2 hg2 hu2) (by rw[hob2.out,AP.bind_stop ho2])⟩
  have hw4:=waa (AP.tame_next (t:=qar E.n E.nl E.who ws ta) (f:=endgY A E ws ta) hw3.out ho2);have hob3:=waa (hob2.out.trans (AP.bind_done ho2));have hL2:=hu2.block2 hL1.out hF1;have hF2:=hg2.no hs2 hF1;have hA2:=waa (hA1.out.step hI2 hg2 hu2);have hs3:=wak hs2 hu2.size;clear hpost hI2 hg2 hu2 ho2 hA1 hL1 hw3 hob2 hld;by_cases hy:wrap64 (y:Int)=0
  ·have hobR:endingA A E ws E.sp i l s= .done (0,none,6) i2 l2 s2:=by rw[hob3.out,endgY,if_pos hy];rfl
   obtain⟨⟨y0_,y1_,y2_,y3_,y4_,y5_,y6_⟩,yf_⟩:=qau hL2;have hfin:=waa (AtF.done (t:=endingA A E ws) (R:=(λ(x:Int×Option OV×Int) (v:Value) (_:World)=>v= .tuple #[.int .i64 x.1,.agg (ovC x.2.1),.int .i64 x.2.2])) (a:=(0,none,6)) (x:= .tuple #[.int .i64 0,.agg #[.int .i64 0,.int .i64 0,.int .i64 0,.int .i64 0,.int .i64 0,.int .i64 0,.int .i64 0],.int .i64 6]) (hA2.out.own (B:=w.heap.size) (wah _) hF2 hR0 (qcb (.int .i64 0) (.int .i64 0) (.int .i64 0) (.int .i64 0) (.int .i64 0) (.int .i64 0) (.int .i64 0)) hlt hab) hobR rfl);replace hL2:=waa hL2;go_wp2_with fail;refine qfp rfl rfl rfl rfl rfl (qb1 (qcl hL2.out _ _ _ _ _ _ _)) ?_;exact hfin.out
  have hdef:endgY A E ws ta y=(objectA A E ws (wrap64 (y:Int))).bind (qes E ws ta):=by rw[endgY,if_neg hy]
  rw[hdef] at hw4 hob3;have hbj:=waa (qhs hA2.out.a hD (wrap64 (y:Int)) (quk _) Zo (AP.tame hw4.out));replace hL2:=waa hL2;clear hdef;go_wp2_with fail;refine hbj.out.mono ?_;intro e V3 hpost;rcases hpost.done (AP.tame hw4.out) with ⟨o,i3,l3,s3,x3,F3,ho3,rfl,rfl,hI3,hg3,hu3⟩|⟨bl,l3,s3,F3,ho3,rfl,hO3,hg3,hu3⟩
  rotate_left
  ·exact⟨rfl,qba (hA2.out.off hO3 hg3 hu3) (by rw[hob3.out,AP.bind_stop ho3])⟩
  have hw5:=AP.tame_next (t:=objectA A E ws (wrap64 (y:Int))) (f:=qes E ws ta) hw4.out ho3;have hob5:=hob3.out.trans (AP.bind_done ho3);have hL3:=hu3.block2 hL2.out hF2;have hF3:=hg3.no hs3 hF2;have hA3:=hA2.out.step hI3 hg3 hu3;have hs4:=wak hs3 hu3.size;clear hpost hI3 hg3 hu3 ho3 hA2 hL2 hw4 hob3 hbj;have hsl0:okB o=true->∀(i:Int) (W:World),Calls Tryz.prog 56 #[.agg #[.int .i64 (ocN o 1),.int .i64 (ocN o 2),.int .i64 (ocN o 3)],.int .i64 (ocN o 0),.int .i64 i] W λe w'=>e= .returned (.int .i64 (qdi o i))/\Below W.heap.size W w':=λhk i W=>qkj hk i W
  have hco:=qmc o;unfold qes at hw5 hob5;unfold ovV;rw[hco];generalize ocN o 0=j0 at hsl0 hco hw5 hob5 ⊢;generalize ocN o 1=j1 at hsl0 hco hw5 hob5 ⊢;generalize ocN o 2=j2 at hsl0 hco hw5 hob5 ⊢;generalize ocN o 3=j3 at hsl0 hco hw5 hob5 ⊢;generalize ocN o 4=j4 at hco hw5 hob5 ⊢;generalize ocN o 5=j5 at hco hw5 hob5 ⊢;generalize ocN o 6=j6 at hco hw5 hob5 ⊢;have hBs:=(wai V3.heap.size V3).alloc (wah _) (.cells #[.int .i64 j0,.int .i64 j1,.int .i64 j2,.int .i64 j3,.int .i64 j4,.int .i64 j5,.int .i64 j6] 79);have hA4:=hA3.below hBs;have hL4:=(hBs.block _ hs4).trans hL3;have hJ4:(V3.alloc (.cells #[.int .i64 j0,.int .i64 j1,.int .i64 j2,.int .i64 j3,.int .i64 j4,.int .i64 j5,.int .i64 j6] 79)).heap[V3.heap.size]? =some (.cells #[.int .i64 j0,.int .i64 j1,.int .i64 j2,.int .i64 j3,.int .i64 j4,.int .i64 j5,.int .i64 j6] 79 (0,0)):=heap_alloc_new V3 _;have hnJ:¬F3 V3.heap.size:=λe=>by have:=hA3.a.i.lt e;omega
  obtain⟨W4,hW4⟩:∃W4,V3.alloc (.cells #[.int .i64 j0,.int .i64 j1,.int .i64 j2,.int .i64 j3,.int .i64 j4,.int .i64 j5,.int .i64 j6] 79)=W4:=⟨_,rfl⟩
  rw[hW4] at hA4 hL4 hJ4;obtain⟨⟨z0,z1,z2,z3,z4,z5,z6⟩,zf⟩:=qau hJ4;generalize o.isSome=bs;replace hA4:=waa hA4;clear hBs hA3 hL3;by_cases h1:j1=1
  rotate_left
  ·have hobR:endingA A E ws E.sp i l s= .done (0,none,7) i3 l3 s3:=by rw[hob5,if_pos h1];rfl
   clear hob5 hw5 hsl0 hJ4;go_upto_region 8 with fail
   try rw[hW4]
   obtain⟨⟨y0_,y1_,y2_,y3_,y4_,y5_,y6_⟩,yf_⟩:=qau hL4;have hfin:=waa (AtF.done (t:=endingA A E ws) (R:=(λ(x:Int×Option OV×Int) (v:Value) (_:World)=>v= .tuple #[.int .i64 x.1,.agg (ovC x.2.1),.int .i64 x.2.2])) (a:=(0,none,7)) (x:= .tuple #[.int .i64 0,.agg #[.int .i64 0,.int .i64 0,.int .i64 0,.int .i64 0,.int .i64 0,.int .i64 0,.int .i64 0],.int .i64 7]) (hA4.out.own (B:=w.heap.size) (wah _) hF3 hR0 (qcb (.int .i64 0) (.int .i64 0) (.int .i64 0) (.int .i64 0) (.int .i64 0) (.int .i64 0) (.int .i64 0)) hlt hab) hobR rfl);replace hL4:=waa hL4;go_wp2_with fail;refine qfp rfl rfl rfl rfl rfl (qb1 (qcl hL4.out _ _ _ _ _ _ _)) ?_;exact hfin.out
  subst h1;rw[if_neg Zs] at hw5 hob5;by_cases hcc:okB o=true/\0<=j2/\j2<=255
  rotate_left
  ·rw[if_neg hcc] at hw5
   exact absurd rfl hw5
  rw[if_pos hcc] at hw5 hob5;have hsl:=waa (hsl0 hcc.1);obtain⟨M,rfl⟩:∃M:Nat,j2=(M:Int):=⟨j2.toNat,Zo⟩
  rw[wao] at hw5 hob5;have hM:M<=255:=Zo
  have hI0:Hid (HelI A E F v ws w i l s o ta V3.heap.size w.heap.size M #[.int .i64 j0,.int .i64 1,.int .i64 (M:Int),.int .i64 j3,.int .i64 j4,.int .i64 j5,.int .i64 j6] 0 W4):=waa ⟨i3,l3,s3,F3,hob5,hw5,hA4.out,hJ4,hL4,hnJ,hF3⟩;replace hco:=waa hco;clear hob5 hw5 hA4 hsl0 hJ4 hL4 hnJ hF3 hcc z3 z4 z5 z6 zf;go_upto_region 8 with fail
  try rw[hW4]
  go_wp2_with fail;clear z0 z1 z2;go_loopg [45] M (λk s45 wr=>∃j:Nat,s45= .int .i64 (j:Int)/\M - j<=k/\j<=M/\Hid (HelI A E F v ws w i l s o ta V3.heap.size w.heap.size M #[.int .i64 j0,.int .i64 1,.int .i64 (M:Int),.int .i64 j3,.int .i64 j4,.int .i64 j5,.int .i64 j6] j wr))
  case atStart=>exact⟨0,rfl,Zo,Zo,hI0⟩
  case round=>
   obtain⟨j,rfl,hk,hj,hI⟩:=hrel;obtain⟨i5,l5,s5,F5,hobj,hwj,hA5,hJ5,hL5,hnJ5,hnL5⟩:=hI.out;obtain⟨⟨z0,z1,z2,z3,z4,z5,z6⟩,zf⟩:=qau hJ5;obtain⟨⟨r0,r1,r2,r3,r4,r5,r6⟩,rf⟩:=qau hL5;clear hI0;by_cases hjm:j<M
   ·have q1:(j:Int)<(M:Int):=Zo
    have hMj:M - j=(M - (j+1))+1:=Zo
    rw[hMj] at hobj hwj;have hwl:((qar E.n E.nl E.who ws (qdi o (j:Int))).bind λy=>if y≠0 then AP.ret true else qcr E ws o (M - (j+1)) (j+1)) E.sp i5 l5 s5≠ .wild:=AP.tame hwj;have hsj:=waa (hsl.out (j:Int) wr);replace hobj:=waa hobj;replace hwj:=waa hwj;replace hwl:=waa hwl;replace hA5:=waa hA5;replace hJ5:=waa hJ5;replace hL5:=waa hL5;clear hI;go_wp2_with fail;refine hsj.out.mono ?_;rintro e V6 ⟨rfl,hB6⟩;have hA6:=waa (hA5.out.below hB6);have hLl:=(waj.1 hL5.out).1;have hJl:=(waj.1 hJ5.out).1;have hJ6:=waa ((hB6.block _ hJl).trans hJ5.out);have hL6:=waa ((hB6.block _ hLl).trans hL5.out);have hld:=waa (qc3 hA6.out.a (qdi o (j:Int)) Zo (AP.tame hwl.out));have hLl6:=wak hLl hB6.size;have hJl6:=wak hJl hB6.size;clear hB6 hA5 hJ5 hL5 hsj z0 z1 z2 z3 z4 z5 z6 zf r0 r1 r2 r3 r4 r5 r6 rf;go_wp2_with fail;refine hld.out.mono ?_;intro e V7 hpost;rcases hpost.done (AP.tame hwl.out) with ⟨yj,i7,l7,s7,x7,F7,ho7,rfl,rfl,hI7,hg7,hu7⟩|⟨bl,l7,s7,F7,ho7,rfl,hO7,hg7,hu7⟩
    rotate_left
    ·exact⟨rfl,qba (hA6.out.off hO7 hg7 hu7) (by rw[hobj.out];exact AP.bind_stop (AP.bind_stop ho7))⟩
    have hJ7:=hu7.block2 hJ6.out hnJ5;have hL7:=hu7.block2 hL6.out hnL5;have hnJ7:=hg7.no hJl6 hnJ5;have hnL7:=hg7.no hLl6 hnL5;have hA7:=hA6.out.step hI7 hg7 hu7;have hst:(qcr E ws o (M - (j+1)+1) j) E.sp i5 l5 s5=(if yj≠0 then AP.ret true else qcr E ws o (M - (j+1)) (j+1)) E.sp i7 l7 s7:=AP.bind_done ho7;by_cases hyj:yj=0
    ·subst hyj
     have hst':(qcr E ws o (M - (j+1)+1) j) E.sp i5 l5 s5=(qcr E ws o (M - (j+1)) (j+1)) E.sp i7 l7 s7:=by rw[hst,if_neg Zs]
     have hbd:((qcr E ws o (M - (j+1)+1) j).bind (qi4 ta o)) E.sp i5 l5 s5=((qcr E ws o (M - (j+1)) (j+1)).bind (qi4 ta o)) E.sp i7 l7 s7:=by simp only[AP.bind,hst']
     have hJJ:Hid (HelI A E F v ws w i l s o ta V3.heap.size w.heap.size M #[.int .i64 j0,.int .i64 1,.int .i64 (M:Int),.int .i64 j3,.int .i64 j4,.int .i64 j5,.int .i64 j6] (j+1) V7):=waa ⟨i7,l7,s7,F7,hobj.out.trans hbd,by rw[<-hbd];exact hwj.out,hA7,hJ7,hL7,hnJ7,hnL7⟩;clear hpost hI7 hg7 hu7 hA7 hJ7 hL7 hnJ7 hnL7 hst hst' hbd ho7 hA6 hJ6 hL6 hld hobj hwj hwl;go_wp2_with fail;go_roundg (M - (j+1))
     case measure=>omega
     case rel=>exact⟨j+1,by go_num,wah _,Zo,hJJ⟩
    ·have hyi:¬(yj:Int)=0:=Zo
     have hobR:endingA A E ws E.sp i l s= .done (0,none,8) i7 l7 s7:=by
      rw[hobj.out];refine(AP.bind_done (a:=true) ?_).trans rfl;rw[hst,if_pos hyj];rfl
     clear hpost hI7 hg7 hu7 hJ7 hst ho7 hA6 hJ6 hL6 hld hobj hwj hwl;obtain⟨⟨y0_,y1_,y2_,y3_,y4_,y5_,y6_⟩,yf_⟩:=qau hL7;have hfin:=waa (AtF.done (t:=endingA A E ws) (R:=(λ(x:Int×Option OV×Int) (v:Value) (_:World)=>v= .tuple #[.int .i64 x.1,.agg (ovC x.2.1),.int .i64 x.2.2])) (a:=(0,none,8)) (x:= .tuple #[.int .i64 0,.agg #[.int .i64 0,.int .i64 0,.int .i64 0,.int .i64 0,.int .i64 0,.int .i64 0,.int .i64 0],.int .i64 8]) (hA7.own (B:=w.heap.size) (wah _) hnL7 hR0 (qcb (.int .i64 0) (.int .i64 0) (.int .i64 0) (.int .i64 0) (.int .i64 0) (.int .i64 0) (.int .i64 0)) hlt hab) hobR rfl);replace hL7:=waa hL7;go_wp2_with fail;refine qfp rfl rfl rfl rfl rfl (qb1 (qcl hL7.out _ _ _ _ _ _ _)) ?_;exact hfin.out
   ·have q1:¬(j:Int)<(M:Int):=Zo
    have hj0:M - j=0:=Zo
    rw[hj0] at hobj;have hobR:endingA A E ws E.sp i l s= .done (ta,o,0) i5 l5 s5:=hobj.trans rfl;have hfin:=waa (AtF.done (t:=endingA A E ws) (R:=(λ(x:Int×Option OV×Int) (v:Value) (_:World)=>v= .tuple #[.int .i64 x.1,.agg (ovC x.2.1),.int .i64 x.2.2])) (a:=(ta,o,0)) (x:= .tuple #[.int .i64 ta,.agg (ovC o),.int .i64 0]) (hA5.own (B:=w.heap.size) (wah _) hnL5 hR0 (qcb (.int .i64 j0) (.int .i64 1) (.int .i64 (M:Int)) (.int .i64 j3) (.int .i64 j4) (.int .i64 j5) (.int .i64 j6)).drew hlt hab) hobR rfl);rw[hco.out] at hfin;have hne:V3.heap.size≠w.heap.size:=Zo
    replace hL5:=waa hL5;clear hI hobj hwj hA5 hobR;go_upto_region 16 with fail
    refine wp_region_held_drew (S:=(λU=>U.cell? ⟨V3.heap.size,0,none⟩=some (.int .i64 j0)/\U.cell? ⟨V3.heap.size,1,none⟩=some (.int .i64 1)/\U.cell? ⟨V3.heap.size,2,none⟩=some (.int .i64 (M:Int))/\U.cell? ⟨V3.heap.size,3,none⟩=some (.int .i64 j3)/\U.cell? ⟨V3.heap.size,4,none⟩=some (.int .i64 j4)/\U.cell? ⟨V3.heap.size,5,none⟩=some (.int .i64 j5)/\U.cell? ⟨V3.heap.size,6,none⟩=some (.int .i64 j6))) Zk (⟨z0,z1,z2,z3,z4,z5,z6⟩) (λhHeld=>?_);refine wpAnyH_take (i:=0) (v:=?_) rfl Zk Zk Zk (λ_ _ _ h=>h) (Or.inl ⟨by rfl,?_⟩) Za ?_;rotate_left;(·intro u h;(try dsimp only at h);(try simp only[wab,wac]);go_simp;try with_reducible rfl);try simp only[Act.put,waf,wae,wag,wab,wac]
    refine wpAnyH_take (i:=1) (v:=?_) rfl Zk Zk Zk (λ_ _ _ h=>h) (Or.inl ⟨by rfl,?_⟩) Za ?_;rotate_left;(·intro u h;(try dsimp only at h);(try simp only[wab,wac,wad]);go_simp;try with_reducible rfl);try simp only[Act.put,waf,wae,wag,wab,wac,wad]
    refine wpAnyH_take (i:=2) (v:=?_) rfl Zk Zk Zk (λ_ _ _ h=>h) (Or.inl ⟨by rfl,?_⟩) Za ?_;rotate_left;(·intro u h;(try dsimp only at h);(try simp only[wab,wac,wad]);go_simp;try with_reducible rfl);try simp only[Act.put,waf,wae,wag,wab,wac,wad]
    refine wpAnyH_ready (rs:=[3]) Zk Zs ?_;refine AllReadyH.cons rfl (λK hK=>?_) AllReadyH.nil
    (try simp only[wab,wac,wad])
    go_simp
    have huT:=(qcb (W:=wr) (g:=w.heap.size) (.int .i64 j0) (.int .i64 1) (.int .i64 (M:Int)) (.int .i64 j3) (.int .i64 j4) (.int .i64 j5) (.int .i64 j6)).drew;refine hK.out _ _ (⟨(huT.cell (p:=⟨V3.heap.size,0,none⟩) (wal wr _ z0) hne).trans z0,(huT.cell (p:=⟨V3.heap.size,1,none⟩) (wal wr _ z1) hne).trans z1,(huT.cell (p:=⟨V3.heap.size,2,none⟩) (wal wr _ z2) hne).trans z2,(huT.cell (p:=⟨V3.heap.size,3,none⟩) (wal wr _ z3) hne).trans z3,(huT.cell (p:=⟨V3.heap.size,4,none⟩) (wal wr _ z4) hne).trans z4,(huT.cell (p:=⟨V3.heap.size,5,none⟩) (wal wr _ z5) hne).trans z5,(huT.cell (p:=⟨V3.heap.size,6,none⟩) (wal wr _ z6) hne).trans z6⟩) (λhHeld2=>?_);clear hK K hHeld;have hHeld:=hHeld2;clear hHeld2;try simp only[Act.put,waf,wae,wag,wab,wac,wad]
    refine wpAnyH_take (i:=4) (v:=?_) rfl Zk Zk Zk (λ_ _ _ h=>h) (Or.inl ⟨by rfl,?_⟩) Za ?_;rotate_left;(·intro u h;(try dsimp only at h);(try simp only[wab,wac,wad]);go_simp;try with_reducible rfl);try simp only[Act.put,waf,wae,wag,wab,wac,wad]
    refine wpAnyH_done Zk ?_ _;have hRF:((((((((wr.setCell ⟨w.heap.size,0,none⟩ (.int .i64 j0)).setCell ⟨w.heap.size,1,none⟩ (.int .i64 1)).setCell ⟨w.heap.size,2,none⟩ (.int .i64 (M:Int))).setCell ⟨w.heap.size,3,none⟩ (.int .i64 j3)).setCell ⟨w.heap.size,4,none⟩ (.int .i64 j4)).setCell ⟨w.heap.size,5,none⟩ (.int .i64 j5)).setCell ⟨w.heap.size,6,none⟩ (.int .i64 j6))).drew.heap[w.heap.size]? =some (.cells #[.int .i64 j0,.int .i64 1,.int .i64 (M:Int),.int .i64 j3,.int .i64 j4,.int .i64 j5,.int .i64 j6] 79 (0,0)):=qmm (qcl hL5.out _ _ _ _ _ _ _);clear hHeld huT;generalize ((((((((wr.setCell ⟨w.heap.size,0,none⟩ (.int .i64 j0)).setCell ⟨w.heap.size,1,none⟩ (.int .i64 1)).setCell ⟨w.heap.size,2,none⟩ (.int .i64 (M:Int))).setCell ⟨w.heap.size,3,none⟩ (.int .i64 j3)).setCell ⟨w.heap.size,4,none⟩ (.int .i64 j4)).setCell ⟨w.heap.size,5,none⟩ (.int .i64 j5)).setCell ⟨w.heap.size,6,none⟩ (.int .i64 j6))).drew=WF at hfin hRF ⊢;replace hRF:=waa hRF;go_wp2_with fail;refine qfp rfl rfl rfl rfl rfl (qb1 hRF.out) ?_;exact hfin.out
end
end Go.Proofs.YtgjhkafggagniaaGreat
