/- Parts. No condition. -/
import Derived.Test.YtgjhkafggagniaaGreatJoinV34
set_option linter.unusedVariables false
set_option maxRecDepth 100000
set_option maxHeartbeats 8000000
namespace Go.Proofs.YtgjhkafggagniaaGreat
open Go Go.RowKit
def setN(A:AC)(a blk:Int):Int:=headN A.s A.l A.r (sptN A a blk).1+1
def begW(A:AC)(a blk ta:Int)(m:Nat)(ws more:List (Int×Nat)):List (Int×Nat):=ws++[(a,bW 1 A.slots A.words),(setN A a blk,qcz m (sptN A a blk).2.1),(ta,a.toNat)]++more
def begG(A:AC)(a blk ta:Int):Prop:=qbp 1 A.slots A.words=true/\(0<=a/\a+A.words<16384)/\(0<blk/\blk<=4096)/\(0<=A.words/\A.words<=300)/\(0<=ta/\ta<9223372036854775808)/\0<=(sptN A a blk).2.1/\(sptN A a blk).2.1<64
instance (A:AC) (a blk ta:Int):Decidable (begG A a blk ta):=by unfold begG;infer_instance
noncomputable def begC (A:AC) (E:DP HS) (ws more:List (Int×Nat)) (a blk ta:Int) (m:Nat):DAP:=(pubA A E (begW A a blk ta m ws more)).bind λ_=>AP.ret ((0,a,0),begW A a blk ta m ws more)
noncomputable def begD (A:AC) (E:DP HS) (ws more:List (Int×Nat)) (a blk ta:Int):DAP:=(qar E.n E.nl E.who ws (setN A a blk)).bind (begC A E ws more a blk ta)
noncomputable def begE (A:AC) (E:DP HS) (ws more:List (Int×Nat)) (a blk ta:Int) (y:Nat):DAP:=
 if y≠0 then errA 5 ws else if begG A a blk ta then(qa7 E.n E.nl E.who (blkZ (a+1) A.words.toNat)).bind λ_=>begD A E ws more a blk ta else qbd
noncomputable def begF (A:AC) (E:DP HS) (ws more:List (Int×Nat)) (a blk:Int) (d:Int×Bool):DAP:=if d.2=true then(qar E.n E.nl E.who ws d.1).bind (begE A E ws more a blk d.1) else errA 3 ws
noncomputable def beginA (A:AC) (E:DP HS) (ws more:List (Int×Nat)) (a blk:Int):DAP:=(destA A E ws A.root A.obj A.idx).bind (begF A E ws more a blk)
section
variable {A:AC} {E:DP HS} {i i':Nat} {l l':List Nat} {s s':DM×HS} {F F' H:Nat->Prop} {v v':Value} {ws ws' more:List (Int×Nat)} {w w' w2:World} {base n L b0 b1 b2:Nat} {e:Ending}
theorem Upd.block2{G:Nat->Prop}{k:Nat}{o:Obj}(hu:Upd G w w')(h:w.heap[k]? =some o)(hn:¬G k):w'.heap[k]? =some o:=(hu.block k (waj.1 h).1 hn).trans h
theorem qf6(h:AIn A E i l s F v ws w)(hD:DdE A E base n L)(a blk:Int){u:Value}{bs nm:Nat}(hur:w.ownsRow bs 169 2 u nm (eV more))(hun:∀k,u.ownBlock=some k->¬F k/\k≠A.ab/\v.ownBlock≠some k)(hmo:∀e∈more,qen e)(hml:more.length<=8)(ho:-9223372036854775808<=A.obj/\A.obj<=9223372036854775807)(hm:ws.length<=200){eX:Option Addr}{en ec:Nat}(hed:A.ed= .slice eX en ec)(hw:beginA A E ws more a blk E.sp i l s≠ .wild):
  Calls Tryz.prog 250 #[.pointer (some ⟨A.ab,0,none⟩),.int .i64 a,.int .i64 blk,u] w λe w'=>qb6 A E (beginA A E ws more a blk E.sp i l s) (λa x _=>x=anX a) F H v w e w':=by
 have hu:Upd (λ_=>False) w ((w.alloc (.cells #[.int .i64 0,.int .i64 0,.int .u64 0] 60)).alloc (.cells #[.int .i64 A.kind,.int .i64 A.who,.bool A.root,.int .i64 A.obj,.int .i64 A.idx,.int .i64 A.words,.int .i64 A.slots,.int .i64 A.target,.int .i64 A.many,.int .u64 (A.x:Int),.slice eX en ec] 43)):=((Upd.refl _ w).alloc _).alloc _;have hA0:=(AtH.start (H:=H) h).new hu;have hL0:((w.alloc (.cells #[.int .i64 0,.int .i64 0,.int .u64 0] 60)).alloc (.cells #[.int .i64 A.kind,.int .i64 A.who,.bool A.root,.int .i64 A.obj,.int .i64 A.idx,.int .i64 A.words,.int .i64 A.slots,.int .i64 A.target,.int .i64 A.many,.int .u64 (A.x:Int),.slice eX en ec] 43)).heap[w.heap.size]? =some (.cells #[.int .i64 0,.int .i64 0,.int .u64 0] 60 (0,0)):=qag (heap_alloc_new w _) _;have hC0:((w.alloc (.cells #[.int .i64 0,.int .i64 0,.int .u64 0] 60)).alloc (.cells #[.int .i64 A.kind,.int .i64 A.who,.bool A.root,.int .i64 A.obj,.int .i64 A.idx,.int .i64 A.words,.int .i64 A.slots,.int .i64 A.target,.int .i64 A.many,.int .u64 (A.x:Int),.slice eX en ec] 43)).heap[w.heap.size+1]? =some (.cells #[.int .i64 A.kind,.int .i64 A.who,.bool A.root,.int .i64 A.obj,.int .i64 A.idx,.int .i64 A.words,.int .i64 A.slots,.int .i64 A.target,.int .i64 A.many,.int .u64 (A.x:Int),.slice eX en ec] 43 (0,0)):=qad Zs _ _;have hr0:((w.alloc (.cells #[.int .i64 0,.int .i64 0,.int .u64 0] 60)).alloc (.cells #[.int .i64 A.kind,.int .i64 A.who,.bool A.root,.int .i64 A.obj,.int .i64 A.idx,.int .i64 A.words,.int .i64 A.slots,.int .i64 A.target,.int .i64 A.many,.int .u64 (A.x:Int),.slice eX en ec] 43)).ownsRow bs 169 2 u nm (eV more):=qa5 hur hu (λ_ _ e=>e);obtain⟨⟨c5,c7,c8,c9⟩,c10,c11,c12,c13,c14,c15⟩:=((h.new ((Upd.refl (λ_=>False) w).alloc (.cells #[.int .i64 0,.int .i64 0,.int .u64 0] 60))).a.call)
 rw[hed] at c15;have c6:=((h.new ((Upd.refl (λ_=>False) w).alloc (.cells #[.int .i64 0,.int .i64 0,.int .u64 0] 60))).a.cells).2.1.2.1;obtain⟨W1,hW1⟩:∃W1,(w.alloc (.cells #[.int .i64 0,.int .i64 0,.int .u64 0] 60)).alloc (.cells #[.int .i64 A.kind,.int .i64 A.who,.bool A.root,.int .i64 A.obj,.int .i64 A.idx,.int .i64 A.words,.int .i64 A.slots,.int .i64 A.target,.int .i64 A.many,.int .u64 (A.x:Int),.slice eX en ec] 43)=W1:=⟨_,rfl⟩
 rw[hW1] at hA0 hL0 hu hC0 hr0;have hs1:w.heap.size+1<W1.heap.size:=by rw[<-hW1];simp
 have hF0:¬F w.heap.size:=λe=>by have:=h.i.lt e;omega
 have hG0:¬F (w.heap.size+1):=λe=>by have:=h.i.lt e;omega
 have hR0:v.ownBlock≠some w.heap.size:=λe=>by have:=(h.a.row.lt _ e).2;omega
 have hlt:=h.a.lt;have hub:∀k,u.ownBlock=some k->k<W1.heap.size:=λk hk=>(hr0.lt k hk).2
 have hab:∀k,k=E.a\/k=E.b\/k=E.c->k≠w.heap.size:=λk hk e=>by have:=h.i.low k (.inr hk);omega
 have hvb:∀k,v.ownBlock=some k->k<w.heap.size:=λk hk=>(h.a.row.lt k hk).2
 have hw1:destA A E ws A.root A.obj A.idx E.sp i l s≠ .wild:=AP.tame hw;have hdt:=waa (qkc hA0.a hD A.root A.obj A.idx ho Zo hw1);have d2:W1.cell? ⟨w.heap.size+1,2,none⟩=some (.bool A.root):=qab hC0 2;have d3:W1.cell? ⟨w.heap.size+1,3,none⟩=some (.int .i64 A.obj):=qab hC0 3;have d4:W1.cell? ⟨w.heap.size+1,4,none⟩=some (.int .i64 A.idx):=qab hC0 4;replace hA0:=waa hA0;replace hL0:=waa hL0;replace hC0:=waa hC0;replace hr0:=waa hr0;replace hun:=waa hun;replace hmo:=waa hmo;replace hw:=waa hw;replace hW1:=waa hW1;clear h hu hur;go_enter Tryz.func250,Tryz.ntmps250;go_upto_region 2 with fail
 rw[hW1.out];clear c5 c6 c7 c8 c9 c10 c11 c12 c13 c14 c15;go_wp2_with fail;refine hdt.out.mono ?_;intro e V hpost;rcases hpost.done hw1 with ⟨d,i1,l1,s1,x1,F1,ho1,rfl,rfl,hI1,hg1,hu1⟩|⟨bl,l1,s1,F1,ho1,rfl,hO1,hg1,hu1⟩
 rotate_left
 ·exact⟨rfl,qal (hA0.out.off hO1 hg1 hu1) (by unfold beginA;rw[AP.bind_stop ho1])⟩
 obtain⟨ta,ok⟩:=d;unfold qdz;dsimp only
 have hw2:=waa (AP.tame_next (t:=destA A E ws A.root A.obj A.idx) (f:=begF A E ws more a blk) hw.out ho1);have hob1:=waa (show beginA A E ws more a blk E.sp i l s=begF A E ws more a blk (ta,ok) E.sp i1 l1 s1 by unfold beginA;rw[AP.bind_done ho1]);have hL1:=waa (hu1.block2 hL0.out hF0);have hC1:=waa (hu1.block2 hC0.out hG0);have hr1:=waa (qa5 hr0.out hu1 (λk hk=>(hun.out k hk).1));have hF1:=hg1.no Zo hF0;have hG1:=hg1.no hs1 hG0;have hun1:=waa (λ(k:Nat) (hk:u.ownBlock=some k)=>hg1.no (hub k hk) (hun.out k hk).1);have hA1:=waa (hA0.out.step hI1 hg1 hu1);have hs2:=wak hs1 hu1.size;clear hpost hI1 hg1 hu1 hw ho1 hA0 hL0 hC0 hr0 hw1 hdt d2 d3 d4;cases ok with
 |false=>
  have hob2:=waa (show beginA A E ws more a blk E.sp i l s= .done ((3,0,0),ws) i1 l1 s1 from by rw[hob1.out];rfl);clear hob1 hw2;go_wp2_with fail;refine(qax 3 _).mono ?_;rintro e V2 ⟨rfl,hB⟩;have hA2:=hA1.out.below hB;have hL2:=(hB.block _ Zo).trans hL1.out;unfold anV;obtain⟨⟨p0,p1,p2⟩,pf⟩:=qaf hL2;have hfin:=waa (AtH.done (t:=beginA A E ws more a blk) (R:=λa x _=>x=anX a) (a:=(3,0,0)) (x:=anX (3,0,0)) (hA2.own (B:=w.heap.size) (wah _) hF1 hR0 (qam (.int .i64 3) (.int .i64 0) (.int .u64 ((0:Nat):Int))) hlt hab) hob2.out rfl);replace hL2:=waa hL2;clear hB hA2 hA1 hob2;go_wp2_with fail;refine qak rfl rfl rfl (qai (qan hL2.out _ _ _)) ?_;exact hfin.out
 |true=>
  have hw3:=waa (show((qar E.n E.nl E.who ws ta).bind (begE A E ws more a blk ta)) E.sp i1 l1 s1≠ .wild from hw2.out);have hob2:=waa (show beginA A E ws more a blk E.sp i l s=((qar E.n E.nl E.who ws ta).bind (begE A E ws more a blk ta)) E.sp i1 l1 s1 from hob1.out);have hld:=waa (qc3 hA1.out.a ta Zo (AP.tame hw3.out));clear hob1 hw2;go_wp2_with fail;refine hld.out.mono ?_;intro e V2 hpost;rcases hpost.done (AP.tame hw3.out) with ⟨y,i2,l2,s2,x2,F2,ho2,rfl,rfl,hI2,hg2,hu2⟩|⟨bl,l2,s2,F2,ho2,rfl,hO2,hg2,hu2⟩
  rotate_left
  ·exact⟨rfl,qal (hA1.out.off hO2 hg2 hu2) (by rw[hob2.out,AP.bind_stop ho2])⟩
  have hw4:=waa (AP.tame_next (t:=qar E.n E.nl E.who ws ta) (f:=begE A E ws more a blk ta) hw3.out ho2);have hob3:=waa (hob2.out.trans (AP.bind_done ho2));have hL2:=waa (hu2.block2 hL1.out hF1);have hC2:=waa (hu2.block2 hC1.out hG1);have hr2:=waa (qa5 hr1.out hu2 (λk hk=>hun1.out k hk));have hF2:=hg2.no Zo hF1;have hG2:=hg2.no hs2 hG1;have hub2:∀k,u.ownBlock=some k->k<V.heap.size:=λk hk=>(hr1.out.lt k hk).2
  have hun2:=waa (λ(k:Nat) (hk:u.ownBlock=some k)=>hg2.no (hub2 k hk) (hun1.out k hk));have hA2:=waa (hA1.out.step hI2 hg2 hu2);have hs3:=wak hs2 hu2.size;clear hpost hI2 hg2 hu2 ho2 hA1 hL1 hC1 hr1 hun1 hub2 hw3 hob2 hld;by_cases hy:y=0
  rotate_left
  ·have hob4:=waa (show beginA A E ws more a blk E.sp i l s= .done ((5,0,0),ws) i2 l2 s2 from by rw[hob3.out,begE,if_pos hy];rfl)
   clear hob3 hw4;have hyi:¬(y:Int)=0:=Zo
   go_wp2_with fail;refine(qax 5 _).mono ?_;rintro e V3 ⟨rfl,hB⟩;have hA3:=hA2.out.below hB;have hL3:=(hB.block _ Zo).trans hL2.out;unfold anV;obtain⟨⟨p0,p1,p2⟩,pf⟩:=qaf hL3;have hfin:=waa (AtH.done (t:=beginA A E ws more a blk) (R:=λa x _=>x=anX a) (a:=(5,0,0)) (x:=anX (5,0,0)) (hA3.own (B:=w.heap.size) (wah _) hF2 hR0 (qam (.int .i64 5) (.int .i64 0) (.int .u64 ((0:Nat):Int))) hlt hab) hob4.out rfl);replace hL3:=waa hL3;clear hB hA3 hA2 hob4;go_wp2_with fail;refine qak rfl rfl rfl (qai (qan hL3.out _ _ _)) ?_;exact hfin.out
  subst hy;by_cases hgg:begG A a blk ta
  rotate_left
  ·exact absurd (by rw[begE,if_neg Zs,if_neg hgg];rfl) hw4.out
  have hdef:begE A E ws more a blk ta 0=(qa7 E.n E.nl E.who (blkZ (a+1) A.words.toNat)).bind λ_=>begD A E ws more a blk ta:=by rw[begE,if_neg Zs,if_pos hgg]
  rw[hdef] at hw4 hob3;obtain⟨g1,⟨g2,g3⟩,⟨g4,g5⟩,⟨g6,g7⟩,⟨g8,g9⟩,g10,g11⟩:=hgg;obtain⟨an,rfl⟩:∃an:Nat,a=(an:Int):=⟨a.toNat,Zo⟩
  have hcv:IntKind.u64.wrap (an:Int)=(an:Int):=by rw[wa4];omega
  obtain⟨nw,hnw⟩:∃nw:Nat,A.words=(nw:Int):=⟨A.words.toNat,Zo⟩
  have hnt:A.words.toNat=nw:=Zo
  rw[hnt] at hw4 hob3;have hwr:IntKind.i64.wrap ((an:Int)+1)=(an:Int)+1:=wap _ Zo;have hbl:=waa (λV=>qsw ((an:Int)+1) nw V Zo ⟨Zo,Zo⟩);have hbz:=waa (λ(e:Int×Nat) (he:e∈blkZ ((an:Int)+1) nw)=>show(0<=e.1/\e.1<16384)/\e.2<18446744073709551616 from by
   have:=qyl he
   have h0:e.2=0:=by
    obtain⟨k,hk,rfl⟩:=wbb.1 he;rfl
   omega)
  have d5:V2.cell? ⟨w.heap.size+1,5,none⟩=some (.int .i64 (nw:Int)):=hnw▸qab hC2.out 5;clear hdef;go_wp2_with fail;refine(hbl.out _).mono ?_;rintro e V3 ⟨rfl,hbr,hB3⟩;have hEs:=EsRd.of_blk hbr;rw[qld] at hEs;have hXb:∀p,some (⟨V2.heap.size,0,none⟩:Addr)=some p->0<nw->¬F2 p.block/\p.block<V3.heap.size:=λp hp _=>by
   injection hp with hp;subst hp;exact⟨λe=>by have:=hA2.out.a.i.lt e;exact wbo _ this,(waj.1 hbr).1⟩
  have hA3:=waa (hA2.out.below hB3);have hL3:=waa ((hB3.block _ Zo).trans hL2.out);have hC3:=waa ((hB3.block _ hs3).trans hC2.out);have hr3:=waa (qa5 hr2.out (Upd.of_below hB3 (wah _):Upd (λ_=>False) _ _) (λ_ _ e=>e));have hs4:=wak hs3 hB3.size;have hkp:=waa (qkl (cap:=nw) hA3.out.a hEs hXb (λe he=>(hbz.out e he).1) (λe he=>(hbz.out e he).2) Zo (AP.tame hw4.out));have hub3:∀k,u.ownBlock=some k->k<V3.heap.size:=λk hk=>(hr3.out.lt k hk).2
  clear hbr hB3 hEs hXb hA2 hL2 hC2 hr2 hbl hbz d5;go_wp2_with fail;refine hkp.out.mono ?_;intro e V4 hpost;rcases DP.Post.done (t:=qa7 E.n E.nl E.who (blkZ ((an:Int)+1) nw)) hpost (AP.tame hw4.out) with ⟨u4,i4,l4,s4,x4,F4,ho4,rfl,rfl,hI4,hg4,hu4⟩|⟨bl,l4,s4,F4,ho4,rfl,hO4,hg4,hu4⟩
  rotate_left
  ·exact⟨rfl,qal (hA3.out.off hO4 hg4 hu4) (by rw[hob3.out,AP.bind_stop ho4])⟩
  have hw5:=waa (AP.tame_next (t:=qa7 E.n E.nl E.who (blkZ ((an:Int)+1) nw)) (f:=λ_=>begD A E ws more (an:Int) blk ta) hw4.out ho4);have hob5:=waa (hob3.out.trans (AP.bind_done ho4));have hL4:=waa (hu4.block2 hL3.out hF2);have hC4:=waa (hu4.block2 hC3.out hG2);have hr4:=waa (qa5 hr3.out hu4 (λk hk=>hun2.out k hk));have hF4:=hg4.no Zo hF2;have hG4:=hg4.no hs4 hG2;have hun4:=waa (λ(k:Nat) (hk:u.ownBlock=some k)=>hg4.no (hub3 k hk) (hun2.out k hk));have hA4:=waa (hA3.out.step hI4 hg4 hu4);have hs5:=wak hs4 hu4.size;have hsp:=waa (qj8 hA4.out.a.a (an:Int) blk Zo Zo g4 Zo);clear hpost hI4 hg4 hu4 ho4 hA3 hL3 hC3 hr3 hun2 hub3 hw4 hob3 hkp;go_wp2_with fail;refine hsp.out.mono ?_;rintro e V5 ⟨rfl,hB5⟩;have hPF:∀k,F4 k->k<V4.heap.size:=λk hk=>hA4.out.a.i.lt hk
  have hVV:V4.heap.size<=V5.heap.size:=hB5.size;unfold sptV;obtain⟨S0,S1,hS0,hS1⟩:∃S0 S1,(sptN A (an:Int) blk).1=S0/\(sptN A (an:Int) blk).2.1=S1:=⟨_,_,rfl,rfl⟩
  rw[hS0,hS1,show(sptN A (an:Int) blk).2.2=blk from rfl];have hB6:=hB5.alloc hB5.size (.cells #[.int .i64 S0,.int .i64 S1,.int .i64 blk] 77);have hP6:(V5.alloc (.cells #[.int .i64 S0,.int .i64 S1,.int .i64 blk] 77)).heap[V5.heap.size]? =some (.cells #[.int .i64 S0,.int .i64 S1,.int .i64 blk] 77 (0,0)):=heap_alloc_new V5 _;obtain⟨W6,hW6⟩:∃W6,V5.alloc (.cells #[.int .i64 S0,.int .i64 S1,.int .i64 blk] 77)=W6:=⟨_,rfl⟩
  rw[hW6] at hB6 hP6;have hA6:=waa (hA4.out.below hB6);have hL6:=waa ((hB6.block _ Zo).trans hL4.out);have hC6:=waa ((hB6.block _ hs5).trans hC4.out);have hr6:=waa (qa5 hr4.out (Upd.of_below hB6 (wah _):Upd (λ_=>False) _ _) (λ_ _ e=>e));have hs6:=wak hs5 hB6.size;have hmp:=waa (qgp hA6.out.a.a S0);have p0:W6.cell? ⟨V5.heap.size,0,none⟩=some (.int .i64 S0):=qab hP6 0;have hPl:=(waj.1 hP6).1;have hset:setN A (an:Int) blk=headN A.s A.l A.r S0+1:=by unfold setN;rw[hS0]
  obtain⟨ST,hST⟩:∃ST,headN A.s A.l A.r S0+1=ST:=⟨_,rfl⟩
  have hSTb:=qe3 A.s A.l A.r S0;rw[hST] at hset hmp;have hSb:-1<=ST - 1/\ST - 1<=1000:=Zo
  have hsl1:0<=S1/\S1<64:=Zo
  replace hP6:=waa hP6;clear hB5 hB6 hA4 hL4 hC4 hr4 hsp hSTb;go_upto_region 9 with fail
  try rw[hW6]
  clear hW6;go_wp2_with fail;refine hmp.out.mono ?_;rintro e V7 ⟨rfl,hB7⟩;have hA7:=waa (hA6.out.below hB7);have hL7:=waa ((hB7.block _ Zo).trans hL6.out);have hC7:=(hB7.block _ hs6).trans hC6.out;have hP7:=(hB7.block _ hPl).trans hP6.out;have hr7:=waa (qa5 hr6.out (Upd.of_below hB7 (wah _):Upd (λ_=>False) _ _) (λ_ _ e=>e));have hs7:=wak hs6 hB7.size;have hPl7:=wak hPl hB7.size;have d5:V7.cell? ⟨w.heap.size+1,5,none⟩=some (.int .i64 (nw:Int)):=hnw▸qab hC7 5;have d6:V7.cell? ⟨w.heap.size+1,6,none⟩=some (.int .i64 A.slots):=qab hC7 6;have hbw:=waa (λV=>qur 1 A.slots (nw:Int) V (hnw▸g1));replace hP7:=waa hP7;clear hA6 hL6 hC6 hr6 hP6 hmp hB7 hC7;go_wp2_with fail;refine(hbw.out _).mono ?_;rintro e V8 ⟨rfl,hB8⟩;have hA8:=hA7.out.below hB8;have hL8:=waa ((hB8.block _ Zo).trans hL7.out);have hP8:=(hB8.block _ hPl7).trans hP7.out;have hr8:=waa (qa5 hr7.out (Upd.of_below hB8 (wah _):Upd (λ_=>False) _ _) (λ_ _ e=>e));have hs8:=wak hs7 hB8.size;have p1:V8.cell? ⟨V5.heap.size,1,none⟩=some (.int .i64 S1):=qab hP8 1;have hPl8:=wak hPl7 hB8.size;have hFP:¬F4 V5.heap.size:=λe=>by have:=hPF _ e;omega
  have hA8d:=waa (hA8.new ((Upd.refl (λ_=>False) _).drew));have hww:AP.bind (qar E.n E.nl E.who ws (setN A (an:Int) blk)) (begC A E ws more (an:Int) blk ta) E.sp i4 l4 s4≠ .wild:=hw5.out;rw[hset] at hww;have hob6:=hob5.out;unfold begD at hob6;rw[hset] at hob6;have hld:=waa (qc3 hA8d.out.a ST Zo (AP.tame hww));replace hob6:=waa hob6;replace hww:=waa hww;have hbwl:bW 1 A.slots (nw:Int)<18446744073709551616:=q2j (hnw▸g1);obtain⟨fw,hfw⟩:∃fw,bW 1 A.slots (nw:Int)=fw:=⟨_,rfl⟩
  rw[hfw] at hbwl ⊢;have hbeg:∀m,begW A (an:Int) blk ta m ws more=ws++[((an:Int),fw),(ST,qcz m S1),(ta,an)]++more:=λm=>by
   unfold begW;rw[hset,hS1,hnw,hfw,wao]
  clear hA7 hL7 hP7 hr7 hbw hB8 d5 d6 hA8 hob5 hw5 hP8;go_upto_region 11 with fail
  refine wp_region_held_drew (S:=(λU=>U.cell? ⟨V5.heap.size,1,none⟩=some (.int .i64 S1))) Zk (p1) (λhHeld=>?_);refine wpAnyH_take (i:=0) (v:=?_) rfl Zk Zk Zk (λ_ _ _ h=>h) (Or.inl ⟨by rfl,?_⟩) Za ?_;rotate_left;(·intro u h;(try dsimp only at h);(try simp only[wab,wac]);go_simp;try with_reducible rfl);try simp only[Act.put,waf,wae,wag,wab,wac]
  refine wpAnyH_take (i:=1) (v:=?_) rfl Zk Zk Zk (λ_ _ _ h=>h) (Or.inl ⟨by rfl,?_⟩) Za ?_;rotate_left;(·intro u h;(try dsimp only at h);(try simp only[wab,wac,wad]);go_simp;try with_reducible rfl);try simp only[Act.put,waf,wae,wag,wab,wac,wad]
  refine wpAnyH_take (i:=2) (v:=?_) rfl Zk Zk Zk (λ_ _ _ h=>h) (Or.inl ⟨by rfl,?_⟩) Za ?_;rotate_left;(·intro u h;(try dsimp only at h);(try simp only[wab,wac,wad]);go_simp;try with_reducible rfl);try simp only[Act.put,waf,wae,wag,wab,wac,wad]
  refine wpAnyH_take (i:=3) (v:=?_) rfl Zk Zk Zk (λ_ _ _ h=>h) (Or.inl ⟨by rfl,?_⟩) Za ?_;rotate_left;(·intro u h;(try dsimp only at h);(try simp only[wab,wac,wad]);go_simp;try with_reducible rfl);try simp only[Act.put,waf,wae,wag,wab,wac,wad]
  refine wpAnyH_take (i:=4) (v:=?_) rfl Zk Zk Zk (λ_ _ _ h=>h) (Or.inl ⟨by rfl,?_⟩) Za ?_;rotate_left;(·intro u h;(try dsimp only at h);(try simp only[wab,wac,wad]);go_simp;try with_reducible rfl);try simp only[Act.put,waf,wae,wag,wab,wac,wad]
  refine wpAnyH_take (i:=5) (v:=?_) rfl Zk Zk Zk (λ_ _ _ h=>h) (Or.inl ⟨by rfl,?_⟩) Za ?_;rotate_left;(·intro u h;(try dsimp only at h);(try simp only[wab,wac,wad]);go_simp;try with_reducible rfl);try simp only[Act.put,waf,wae,wag,wab,wac,wad]
  refine wpAnyH_take (i:=6) (v:=?_) rfl Zk Zk Zk (λ_ _ _ h=>h) (Or.inl ⟨by rfl,?_⟩) Za ?_;rotate_left;(·intro u h;(try dsimp only at h);(try simp only[wab,wac,wad]);go_simp;try with_reducible rfl);try simp only[Act.put,waf,wae,wag,wab,wac,wad]
  refine wpAnyH_take (i:=8) (v:=?_) rfl Zk Zk Zk (λ_ _ _ h=>h) (Or.inl ⟨by rfl,?_⟩) Za ?_;rotate_left;(·intro u h;(try dsimp only at h);(try simp only[wab,wac,wad]);go_simp;try with_reducible rfl);try simp only[Act.put,waf,wae,wag,wab,wac,wad]
  refine wpAnyH_take (i:=9) (v:=?_) rfl Zk Zk Zk (λ_ _ _ h=>h) (Or.inl ⟨by rfl,?_⟩) Za ?_;rotate_left;(·intro u h;(try dsimp only at h);(try simp only[wab,wac,wad]);go_simp;try with_reducible rfl);try simp only[Act.put,waf,wae,wag,wab,wac,wad]
  refine wpAnyH_take (i:=12) (v:=?_) rfl Zk Zk Zk (λ_ _ _ h=>h) (Or.inl ⟨by rfl,?_⟩) Za ?_;rotate_left;(·intro u h;(try dsimp only at h);(try simp only[wab,wac,wad]);go_simp;try with_reducible rfl);try simp only[Act.put,waf,wae,wag,wab,wac,wad]
  refine wpAnyH_take (i:=13) (v:=?_) rfl Zk Zk Zk (λ_ _ _ h=>h) (Or.inl ⟨by rfl,?_⟩) Za ?_;rotate_left;(·intro u h;(try dsimp only at h);(try simp only[wab,wac,wad]);go_simp;try with_reducible rfl);try simp only[Act.put,waf,wae,wag,wab,wac,wad]
  refine wpAnyH_take (i:=14) (v:=?_) rfl Zk Zk Zk (λ_ _ _ h=>h) (Or.inl ⟨by rfl,?_⟩) Za ?_;rotate_left;(·intro u h;(try dsimp only at h);(try simp only[wab,wac,wad]);go_simp;try with_reducible rfl);try simp only[Act.put,waf,wae,wag,wab,wac,wad]
  refine wpAnyH_take (i:=15) (v:=?_) rfl Zk Zk Zk (λ_ _ _ h=>h) (Or.inl ⟨by rfl,?_⟩) Za ?_;rotate_left;(·intro u h;(try dsimp only at h);(try simp only[wab,wac,wad]);go_simp;try with_reducible rfl);try simp only[Act.put,waf,wae,wag,wab,wac,wad]
  refine wpAnyH_ready (rs:=[7]) Zk Zs ?_;refine AllReadyH.cons rfl (λK hK=>?_) AllReadyH.nil
  (try simp only[wab,wac,wad])
  go_simp
  refine hld.out.mono ?_;intro e V9 hpost;rcases hpost.done (AP.tame hww.out) with ⟨m,i5,l5,s5,x5,F5,ho5,rfl,rfl,hI5,hg5,hu5⟩|⟨bl,l5,s5,F5,ho5,rfl,hO5,hg5,hu5⟩
  rotate_left
  ·exact⟨rfl,qal (hA8d.out.off hO5 hg5 hu5) (by rw[hob6.out,AP.bind_stop ho5])⟩
  have hw7:=waa (AP.tame_next (t:=qar E.n E.nl E.who ws ST) (f:=begC A E ws more (an:Int) blk ta) hww.out ho5);have hob7:=waa (hob6.out.trans (AP.bind_done ho5));have hm64:=qfa ho5 hI5.lt64 hA8d.out.a.a.ok;have hu5':Upd F4 V8 V9:=(((Upd.refl (λ_=>False) V8).drew).mono (λ_ e=>e.elim)).trans hu5;have hL9:=waa (hu5'.block2 hL8.out hF4);have hr9:=waa (qa5 hr8.out hu5' (λk hk=>hun4.out k hk));have hF5:=hg5.no (show w.heap.size<V8.drew.heap.size by show w.heap.size<V8.heap.size;omega) hF4;have q1:=(hu5'.cell (p:=⟨V5.heap.size,1,none⟩) hPl8 hFP).trans p1;have hub8:∀k,u.ownBlock=some k->k<V8.heap.size:=λk hk=>(hr8.out.lt k hk).2
  have hun5:=waa (λ(k:Nat) (hk:u.ownBlock=some k)=>hg5.no (hub8 k hk) (hun4.out k hk));have hA9:=waa (hA8d.out.step hI5 hg5 hu5);have hs9:=wak hs8 hu5'.size;have hwt:=waa (qx2 m S1 V9 hm64 Zo Zo);clear hpost hI5 hg5 hu5 hu5' ho5 hA8d hL8 hr8 hww hob6 hld p1 hub8 hun4;go_wp2_with fail;refine hK.out _ _ (q1) (λhHeld2=>?_);clear hK K hHeld;have hHeld:=hHeld2;clear hHeld2;try simp only[Act.put,waf,wae,wag,wab,wac,wad]
  refine wpAnyH_ready (rs:=[10]) Zk Zs ?_;refine AllReadyH.cons rfl (λK hK=>?_) AllReadyH.nil
  (try simp only[wab,wac,wad])
  go_simp
  refine hwt.out.mono ?_;rintro e V10 ⟨rfl,rfl⟩;go_wp2_with fail;refine hK.out _ _ (q1) (λhHeld2=>?_);clear hK K hHeld;have hHeld:=hHeld2;clear hHeld2;try simp only[Act.put,waf,wae,wag,wab,wac,wad]
  refine wpAnyH_take (i:=11) (v:=?_) rfl Zk Zk Zk (λ_ _ _ h=>h) (Or.inl ⟨by rfl,?_⟩) Za ?_;rotate_left;(·intro u h;(try dsimp only at h);(try simp only[wab,wac,wad]);go_simp;try with_reducible rfl);try simp only[Act.put,waf,wae,wag,wab,wac,wad]
  refine wpAnyH_ready (rs:=[16]) Zk Zs ?_;refine AllReadyH.cons rfl (λK hK=>?_) AllReadyH.nil
  (try simp only[wab,wac,wad])
  go_simp
  try rw[hcv]
  have hBs:=(wai V9.heap.size V9).alloc (wah _) (.cells #[.int .i64 (an:Int),.int .u64 (fw:Int),.int .i64 ST,.int .u64 ((qcz m S1:Nat):Int),.int .i64 ta,.int .u64 (an:Int)] 169);have hrow:(V9.alloc (.cells #[.int .i64 (an:Int),.int .u64 (fw:Int),.int .i64 ST,.int .u64 ((qcz m S1:Nat):Int),.int .i64 ta,.int .u64 (an:Int)] 169)).heap[V9.heap.size]? =some (.cells (eV [((an:Int),fw),(ST,qcz m S1),(ta,an)]).toArray 169 (0,0)):=heap_alloc_new V9 _;have hA10:=hA9.out.below hBs;have hL10:=(hBs.block _ Zo).trans hL9.out;have hr10:=qa5 hr9.out (Upd.of_below hBs (wah _):Upd (λ_=>False) _ _) (λ_ _ e=>e);have z1:=(hBs.cell (p:=⟨V5.heap.size,1,none⟩) (wal V9 _ q1)).trans q1;obtain⟨W10,hW10⟩:∃W10,V9.alloc (.cells #[.int .i64 (an:Int),.int .u64 (fw:Int),.int .i64 ST,.int .u64 ((qcz m S1:Nat):Int),.int .i64 ta,.int .u64 (an:Int)] 169)=W10:=⟨_,rfl⟩
  rw[hW10] at hBs hrow hA10 hL10 hr10 z1;have hwl:=qwx m hm64 S1;have hcm:=waa (qgd (es:=[((an:Int),fw),(ST,qcz m S1),(ta,an)]) hA10.a ⟨V9.heap.size,0,none⟩ 3 3 rfl (λj y hy=>by
    have e0:(⟨V9.heap.size,0,none⟩:Addr).add j=⟨V9.heap.size,j,none⟩:=by unfold Addr.add;split<;>simp_all
    rw[e0,qab hrow];simpa using hy) (λe he=>by
    simp only[wa1,wci,or_false] at he;rcases he with rfl|rfl|rfl
    ·exact⟨⟨by dsimp only;omega,by dsimp only;omega⟩,hbwl⟩
    ·exact⟨⟨by dsimp only;omega,by dsimp only;omega⟩,hwl⟩
    ·exact⟨⟨by dsimp only;omega,by dsimp only;omega⟩,by dsimp only;omega⟩) Zo)
  try rw[hW10]
  replace hA10:=waa hA10;replace hL10:=waa hL10;replace hr10:=waa hr10;clear hBs hrow hA9 hL9 hr9 hwt;refine hK.out _ _ (z1) (λhHeld2=>?_);clear hK K hHeld;have hHeld:=hHeld2;clear hHeld2;try simp only[Act.put,waf,wae,wag,wab,wac,wad]
  refine wpAnyH_ready (rs:=[17]) Zk Zs ?_;refine AllReadyH.cons rfl (λK hK=>?_) AllReadyH.nil
  (try simp only[wab,wac,wad])
  go_simp
  refine hcm.out.mono ?_;rintro e V11 ⟨rfl,v2,hI11,hu11,hv2⟩;have hA11:=hA10.out.next (F2:=F5) hI11 (Grows.refl _ _) (hu11.mono (λk hk=> .inr (hk.imp id (λe=>e.imp id (λe=>e.elim))))) hv2;have hsW:w.heap.size<W10.heap.size:=(waj.1 hL10.out).1;have hL11:=(hu11.block2 hL10.out (by
   rintro(e|e|e)
   ·omega
   ·exact hR0 e
   ·exact e))
  have hr11:=qa5 hr10.out hu11 (λk hk=>by
   rintro(e|e|e)
   ·exact(hun.out k hk).2.1 e
   ·exact(hun.out k hk).2.2 e
   ·exact e)
  have hR2:v2.ownBlock≠some w.heap.size:=λe=>(hv2 _ e).elim hR0 (λe=>by omega)
  have hsV:=wak hsW hu11.size;have y1:=(hu11.cell (p:=⟨V5.heap.size,1,none⟩) (wal W10 _ z1) (by
   rintro(e|e|e)
   ·dsimp only at e;omega
   ·have:V5.heap.size<w.heap.size:=hvb _ e
    omega
   ·exact e)).trans z1
  have hcm2:=waa (qli (es:=more) hA11.a hr11 hmo.out Zx);replace hA11:=waa hA11;replace hL11:=waa hL11;clear hI11 hu11 hA10 hL10 hr10 hcm hr11;go_wp2_with fail;refine hK.out _ _ (y1) (λhHeld2=>?_);clear hK K hHeld;have hHeld:=hHeld2;clear hHeld2;try simp only[Act.put,waf,wae,wag,wab,wac,wad]
  refine wpAnyH_done Zk ?_ _;go_wp2_with fail;refine hcm2.out.mono ?_;rintro e V12 ⟨rfl,v3,hI12,hu12,hv3⟩;have hA12:=hA11.out.next (F2:=F5) hI12 (Grows.refl _ _) (hu12.mono (λk hk=> .inr (hk.imp id (λe=>e.imp id (λe=>e.elim))))) hv3;have hL12:=waa (hu12.block2 hL11.out (by
   rintro(e|e|e)
   ·omega
   ·exact hR2 e
   ·exact e))
  have hR3:v3.ownBlock≠some w.heap.size:=λe=>(hv3 _ e).elim hR2 (λe=>by omega)
  have hs12:=wak hsV hu12.size;have hwp:((pubA A E (ws++[((an:Int),fw),(ST,qcz m S1),(ta,an)]++more)).bind λ_=>AP.ret (((0,(an:Int),0):ANS),ws++[((an:Int),fw),(ST,qcz m S1),(ta,an)]++more)) E.sp i5 l5 s5≠ .wild:=by
   have:=hw7.out
   unfold begC at this;rw[hbeg] at this;exact this
  have hob8:beginA A E ws more (an:Int) blk E.sp i l s=((pubA A E (ws++[((an:Int),fw),(ST,qcz m S1),(ta,an)]++more)).bind λ_=>AP.ret (((0,(an:Int),0):ANS),ws++[((an:Int),fw),(ST,qcz m S1),(ta,an)]++more)) E.sp i5 l5 s5:=by
   have:=hob7.out
   unfold begC at this;rw[hbeg] at this;exact this
  have hpb:=waa (qgv hA12.a Zx (AP.tame hwp));replace hA12:=waa hA12;replace hwp:=waa hwp;replace hob8:=waa hob8;clear hI12 hu12 hA11 hL11 hcm2 hw7 hob7 hbeg;go_wp2_with fail;refine hpb.out.mono ?_;intro e V13 hpost;rcases DP.Post.done (t:=pubA A E (ws++[((an:Int),fw),(ST,qcz m S1),(ta,an)]++more)) hpost (AP.tame hwp.out) with ⟨u6,i6,l6,s6,x6,F6,ho6,rfl,rfl,hI6,hg6,hu6⟩|⟨bl,l6,s6,F6,ho6,rfl,hO6,hg6,hu6⟩
  rotate_left
  ·exact⟨rfl,qal (hA12.out.off hO6 hg6 hu6) (by rw[hob8.out,AP.bind_stop ho6])⟩
  have hob9:=hob8.out.trans (AP.bind_done ho6);have hL13:=hu6.block2 hL12.out hF5;have hF6:=hg6.no hs12 hF5;have hA13:=hA12.out.step hI6 hg6 hu6;obtain⟨⟨p0,p1,p2⟩,pf⟩:=qaf hL13;have hfin:=waa (AtH.done (t:=beginA A E ws more (an:Int) blk) (R:=λa x _=>x=anX a) (a:=(0,(an:Int),0)) (x:=anX (0,(an:Int),0)) (hA13.own (B:=w.heap.size) (wah _) hF6 hR3 (qam (.int .i64 0) (.int .i64 (an:Int)) (.int .u64 ((0:Nat):Int))) hlt hab) hob9 rfl);replace hL13:=waa hL13;clear hpost hI6 hg6 hu6 ho6 hob8 hob9 hwp hpb hA12 hL12 hA13;go_wp2_with fail;refine qak rfl rfl rfl (qai (qan hL13.out _ _ _)) ?_;exact hfin.out
end
end Go.Proofs.YtgjhkafggagniaaGreat
