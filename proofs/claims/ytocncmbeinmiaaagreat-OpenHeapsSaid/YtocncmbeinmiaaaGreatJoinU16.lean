/- Parts. No condition. -/
import Derived.Test.YtocncmbeinmiaaaGreatJoinU14
set_option linter.unusedVariables false
set_option maxRecDepth 100000
set_option maxHeartbeats 8000000
namespace Go.Proofs.YtocncmbeinmiaaaGreat
open Go Go.RowKit
def IHeadsE(B:Nat)(o:Option (List (Int×Int×Int)))(e:Ending)(w':World):Prop:=match o with
 |none=>e= .returned (.tuple #[.slice none 0 0,.int .i64 11])
 |some L=>∃v,e= .returned (.tuple #[v,.int .i64 0])/\w'.ownsRow B 82 3 v L.length (hV L)
theorem IHeadsE.no{o:Option (List (Int×Int×Int))}(h:o=none)(B:Nat)(w':World):IHeadsE B o (.returned (.tuple #[.slice none 0 0,.int .i64 11])) w':=by rw[h];exact rfl
theorem IHeadsE.yes{o:Option (List (Int×Int×Int))}{L:List (Int×Int×Int)}{B:Nat}{w':World}{v:Value}(h:o=some L)(hr:w'.ownsRow B 82 3 v L.length (hV L)):IHeadsE B o (.returned (.tuple #[v,.int .i64 0])) w':=by rw[h];exact⟨v,rfl,hr⟩
theorem qfh(s l r:Int)(A:Option Addr)(cap:Nat)(ws:List Nat)(w:World)(hr:Rd w A ws.length (u64V ws))(hn:ws.length<=9223372036854775807)(hlt:∀x∈ws,x<18446744073709551616):
  Calls Tryz.prog 54 #[.agg #[.int .i64 s,.int .i64 l,.int .i64 r],.slice A ws.length cap] w λe w'=>IHeadsE w.heap.size (qa3 s l r ws) e w'/\Below w.heap.size w w':=by
 obtain⟨i0,ii,iz0,iz1,iz2⟩:=info_parts qga;have hg0:=Gi.new w s l r;have hB0:=qa7 w s l r;have hft:=λV=>qo9 s l r A ws.length cap V hn
 cases hf:fitB s l r ws.length with
 |false=>
  rw[hf] at hft;have hft':=waa hft;have ho:=waa (show qa3 s l r ws=none from if_neg (by rw[hf];decide));clear hf hft hr;go_enter Tryz.func54,Tryz.ntmps54;go_wp2_with fail;generalize (w.alloc (.cells #[.int .i64 s,.int .i64 l,.int .i64 r] 23))=W1 at hg0 hB0 ⊢;obtain⟨c0,c1,c2,f⟩:=hg0.cells;go_wp2_with fail;refine(hft'.out _).mono ?_;rintro e w1 ⟨rfl,hB⟩;have hB1:=hB0.trans (hB.mono hB0.size);go_wp2_with fail;go_ret2;exact⟨IHeadsE.no ho.out _ _,hB1⟩
 |true=>
  rw[hf] at hft;have hft':=waa hft;have ho:=waa (show hdsF (λi=>ws.getD (hdAt l i) 0) s.toNat=qa3 s l r ws from(if_pos hf).symm);have hb:=qaw hf;have hmk:=waa (λV=>qlq s l r 0 A ws.length cap V);have hask:=waa (λ(j:Nat) (hj:(j:Int)<s) (bw bg bp:Nat) (V:World) (hV:Below w.heap.size w V) (hc:OhB V bw bg bp s l r (.slice A ws.length cap) ((0:Nat):Int))=>qke s l r j 0 A cap ws bw bg bp V hc (hr.below hV) hf hj Zo);have hxl:=waa (λ(i:Nat)=>show ws.getD i 0<18446744073709551616 from by
   rw[wax];cases hi:ws[i]? with
   |none=>simp
   |some x=>exact hlt x (waq hi))
  generalize qa3 s l r ws=o at ho ⊢;clear hf hft hr hlt;go_enter Tryz.func54,Tryz.ntmps54;go_wp2_with fail;generalize (w.alloc (.cells #[.int .i64 s,.int .i64 l,.int .i64 r] 23))=W1 at hg0 hB0 ⊢;obtain⟨c0,c1,c2,f⟩:=hg0.cells;go_wp2_with fail;refine(hft'.out _).mono ?_;rintro e w1 ⟨rfl,hB⟩;have hg1:=hg0.below hB hg0.lt;have hB1:=hB0.trans (hB.mono hB0.size);obtain⟨c3,c4,c5,f1⟩:=hg1.cells;clear hg0 hB0 hB c0 c1 c2 f;go_wp2_with fail;refine(hmk.out _).mono ?_;rintro e w2 ⟨rfl,hoh,hB⟩;have hg2:=hg1.below hB hg1.lt;have hB2:=hB1.trans (hB.mono hB1.size);obtain⟨c0,c1,c2,f⟩:=hg2.cells;clear hg1 hB1 hB c3 c4 c5 f1;generalize w1.heap.size+1+1=bp at hoh ⊢;generalize w1.heap.size+1=bw at hoh ⊢;generalize w1.heap.size=bg at hoh ⊢;go_wp2_with fail;go_loopw [7,20] (λv q wr=>∃(W:World) (j:Nat) (L:List (Int×Int×Int)),W=wr/\W.ownsRow w.heap.size 82 3 v L.length (hV L)/\q= .int .i64 (j:Int)/\(j:Int)<=s/\L.length=j/\Hid (hdsF (λi=>ws.getD (hdAt l i) 0) j=some L)/\OhB W bw bg bp s l r (.slice A ws.length cap) ((0:Nat):Int)/\Below w.heap.size w W) (λ_ q _=>s.toNat - (intOf q).toNat)
  case atStart=>exact⟨_,0,[],rfl,wa9 _ _ _ _,rfl,Zo,rfl,waa rfl,hoh,hB2⟩
  case round=>
   clear hg2 hB2 hoh c0 c1 c2 f;obtain⟨W,j,L,rfl,hrow,rfl,hj,hLl,hL,hoh,hB⟩:=hrel;by_cases hlt2:(j:Int)<s
   ·have hq:=waa (hask.out j hlt2 bw bg bp _ hB hoh)
    obtain⟨x,hx⟩:∃x,ws.getD (hdAt l j) 0=x:=⟨_,rfl⟩
    rw[wdf,hx] at hq;have hx64:x<18446744073709551616:=by rw[<-hx];exact hxl.out _
    have hrd:=λV=>qqs x V hx64
    cases hd:hdO x with
    |none=>
     have hrd2:=waa (λ(V:World)=>(hrd V).mono λe w' ⟨h1,h2⟩=>(⟨h1.untold hd,h2⟩:e=Ending.returned (.tuple #[.agg #[.int .i64 0,.int .i64 0,.int .i64 0],.int .i64 11])/\Below V.heap.size V w'));have hon:=waa (show o=none from by rw[<-ho.out];exact qwm (n:=j+1) (qwl (f:=λi=>ws.getD (hdAt l i) 0) (n:=j) (show hdO (ws.getD (hdAt l j) 0)=none by rw[hx];exact hd)) Zo);clear hrd hd hx;go_wp2_with fail;refine hq.out.mono ?_;rintro e w2 ⟨rfl,hC⟩;have hB2:=hB.trans (hC.mono hB.size);go_wp2_with fail;refine(hrd2.out _).mono ?_;rintro e w3 ⟨rfl,hD⟩;have hB3:=(hB2.trans (hD.mono hB2.size)).alloc (hB2.trans (hD.mono hB2.size)).size (.cells #[.int .i64 0,.int .i64 0,.int .i64 0] 82);go_wp2_with fail;try rw[wa0]
     go_ret2;exact⟨IHeadsE.no hon.out _ _,hB3⟩
    |some hdx=>
     obtain⟨k,c,m⟩:=hdx;have hrd2:=waa (λ(V:World)=>(hrd V).mono λe w' ⟨h1,h2⟩=>(⟨h1.told hd,h2⟩:e=Ending.returned (.tuple #[.agg #[.int .i64 k,.int .i64 c,.int .i64 m],.int .i64 0])/\Below V.heap.size V w'));have hL2:=waa (qip hL.out (show hdO (ws.getD (hdAt l j) 0)=some (k,c,m) by rw[hx];exact hd));clear hrd hd hx hL;go_wp2_with fail;refine hq.out.mono ?_;rintro e w2 ⟨rfl,hC⟩;have ho2:=hoh.below hC;have hB2:=hB.trans (hC.mono hB.size);have hr2:=qaf hrow hC;clear hoh hB hC hrow;go_wp2_with fail;refine(hrd2.out _).mono ?_;rintro e w3 ⟨rfl,hD⟩;have hDa:=hD.alloc hD.size (.cells #[.int .i64 k,.int .i64 c,.int .i64 m] 82);have ho3:=ho2.below hDa;have hB3:=hB2.trans (hDa.mono hB2.size);have hr3:=qaf hr2 hDa;have hhb:=Hd.new w3 k c m;clear ho2 hB2 hr2 hD hDa;have hs3:w.heap.size<=w3.heap.size+1:=by have:=hB3.size;simp at this;omega
     go_wp2_with (at_builtin;go_loud (refine wpList_append_own _ rfl _ _ 75 rfl w.heap.size 82 i0 (.agg #[.int .i64 0,.int .i64 0,.int .i64 0]) 3 24 wde ii iz0 iz1 iz2 rfl Zd _ _ _ rfl (hr3.alloc _) ⟨w3.heap.size+1,0,none⟩ 1 1 [.int .i64 k,.int .i64 c,.int .i64 m] rfl rfl (qb3 Zs _ rfl _) (by simp[Value.oneCell']) (by simp only[maxLen];omega) Zo Zx ?_);intro v' w4 hown' hgrow _;have hB4:=(hB3.alloc hB3.size (.cells #[.int .i64 k,.int .i64 c,.int .i64 m] 82)).grown hgrow Zx (qa0 hr3);have ho5:OhB w4 bw bg bp s l r (.slice A ws.length cap) ((0:Nat):Int):=⟨qb1 ho3.1 Zd hr3 hgrow,qb1 ho3.2.1 Zd hr3 hgrow,qb1 ho3.2.2 Zd hr3 hgrow⟩)
     go_roundw
     case rel=>exact⟨_,j+1,L++[(k,c,m)],rfl,by rw[qwa,was];exact hown',by go_num,Zo,by simp[hLl],hL2,ho5,hB4⟩
     case measure=>simp[intOf];omega
   ·obtain rfl:s=(j:Int):=Zo
    have hon:=waa (show o=some L from by rw[<-ho.out,wam];exact hL.out);go_wp2_with fail;go_ret2;exact⟨IHeadsE.yes hon.out hrow,hB⟩
theorem qkr{s l r:Int}{ws:List Nat}(h:fitB s l r ws.length=true):qcq s l r ws=(List.range s.toNat).map λi=>ws.getD (hdAt l i+1) 0:=if_pos h
theorem q8h{s l r:Int}{ws:List Nat}(h:fitB s l r ws.length=false):qcq s l r ws=[]:=if_neg (by rw[h];decide)
theorem qoz(s l r:Int)(A:Option Addr)(cap:Nat)(ws:List Nat)(w:World)(hr:Rd w A ws.length (u64V ws))(hn:ws.length<=9223372036854775807)(hlt:∀x∈ws,x<18446744073709551616):
  Calls Tryz.prog 55 #[.agg #[.int .i64 s,.int .i64 l,.int .i64 r],.slice A ws.length cap] w λe w'=>∃v,e= .returned v/\w'.ownsRow w.heap.size 27 1 v (qcq s l r ws).length (u64V (qcq s l r ws))/\Below w.heap.size w w':=by
 obtain⟨i0,ii,iz0,iz1,iz2⟩:=info_parts qcg;have hg0:=Gi.new w s l r;have hB0:=qa7 w s l r;have hft:=λV=>qo9 s l r A ws.length cap V hn
 cases hf:fitB s l r ws.length with
 |false=>
  rw[hf] at hft;have hft':=waa hft;rw[q8h hf];clear hf hft hr;go_enter Tryz.func55,Tryz.ntmps55;go_wp2_with fail;generalize (w.alloc (.cells #[.int .i64 s,.int .i64 l,.int .i64 r] 23))=W1 at hg0 hB0 ⊢;obtain⟨c0,c1,c2,f⟩:=hg0.cells;go_wp2_with fail;refine(hft'.out _).mono ?_;rintro e w1 ⟨rfl,hB⟩;have hB1:=hB0.trans (hB.mono hB0.size);go_wp2_with fail;go_ret;exact⟨_,rfl,wa9 _ _ _ _,hB1⟩
 |true=>
  rw[hf] at hft;have hft':=waa hft;have hb:=qaw hf;have hmk:=waa (λV=>qlq s l r 1 A ws.length cap V);have hask:=waa (λ(j:Nat) (hj:(j:Int)<s) (bw bg bp:Nat) (V:World) (hV:Below w.heap.size w V) (hc:OhB V bw bg bp s l r (.slice A ws.length cap) ((1:Nat):Int))=>qke s l r j 1 A cap ws bw bg bp V hc (hr.below hV) hf hj Zo);obtain⟨F,hF⟩:∃F:Nat->Nat,F=λi=>ws.getD (hdAt l i+1) 0:=⟨_,rfl⟩
  rw[qkr hf,<-hF];have hF':=waa hF;clear hf hft hr hlt hF;go_enter Tryz.func55,Tryz.ntmps55;go_wp2_with fail;generalize (w.alloc (.cells #[.int .i64 s,.int .i64 l,.int .i64 r] 23))=W1 at hg0 hB0 ⊢;obtain⟨c0,c1,c2,f⟩:=hg0.cells;go_wp2_with fail;refine(hft'.out _).mono ?_;rintro e w1 ⟨rfl,hB⟩;have hg1:=hg0.below hB hg0.lt;have hB1:=hB0.trans (hB.mono hB0.size);obtain⟨c3,c4,c5,f1⟩:=hg1.cells;clear hg0 hB0 hB c0 c1 c2 f;go_wp2_with fail;refine(hmk.out _).mono ?_;rintro e w2 ⟨rfl,hoh,hB⟩;have hg2:=hg1.below hB hg1.lt;have hB2:=hB1.trans (hB.mono hB1.size);obtain⟨c0,c1,c2,f⟩:=hg2.cells;clear hg1 hB1 hB c3 c4 c5 f1;generalize w1.heap.size+1+1=bp at hoh ⊢;generalize w1.heap.size+1=bw at hoh ⊢;generalize w1.heap.size=bg at hoh ⊢;go_wp2_with fail;go_loopw [6,17] (λv q wr=>∃(W:World) (j:Nat),W=wr/\W.ownsRow w.heap.size 27 1 v j (u64V ((List.range j).map F))/\q= .int .i64 (j:Int)/\(j:Int)<=s/\OhB W bw bg bp s l r (.slice A ws.length cap) ((1:Nat):Int)/\Below w.heap.size w W) (λ_ q _=>s.toNat - (intOf q).toNat)
  case atStart=>exact⟨_,0,rfl,wa9 _ _ _ _,rfl,Zo,hoh,hB2⟩
  case round=>
   clear hg2 hB2 hoh c0 c1 c2 f;obtain⟨W,j,rfl,hrow,rfl,hj,hoh,hB⟩:=hrel;by_cases hlt2:(j:Int)<s
   ·have hq:=hask.out j hlt2 bw bg bp _ hB hoh
    rw[show ws.getD (hdAt l j+1) 0=F j by rw[hF'.out]] at hq;have hst:=waa (show u64V ((List.range j).map F)++[.int .u64 (F j:Int)]=u64V ((List.range (j+1)).map F) by rw[wcd,wcr,wdq,qd8]);generalize F j=x at hq hst;have hq':=waa hq;clear hq;go_wp2_with fail;refine hq'.out.mono ?_;rintro e w2 ⟨rfl,hC⟩;have ho2:=hoh.below hC;have hB2:=hB.trans (hC.mono hB.size);have hr2:=qaf hrow hC;clear hoh hB hC hrow;have hs2:=hB2.size;go_wp2_with (at_builtin;go_loud (refine wpList_append_own _ rfl _ _ 40 rfl w.heap.size 27 i0 (.int .u64 0) 1 8 wbi ii iz0 iz1 iz2 rfl Zd _ _ _ rfl (hr2.alloc _) ⟨w2.heap.size,0,none⟩ 1 1 [.int .u64 (x:Int)] rfl rfl (qd3 Zs _ _) (by simp[Value.oneCell']) (by simp only[maxLen];omega) Zo Zx ?_);intro v' w4 hown' hgrow _;have hB4:=(hB2.alloc hB2.size (.cells #[.int .u64 (x:Int)] 27)).grown hgrow Zx (qa0 hr2);have ho5:OhB w4 bw bg bp s l r (.slice A ws.length cap) ((1:Nat):Int):=⟨qb1 ho2.1 Zd hr2 hgrow,qb1 ho2.2.1 Zd hr2 hgrow,qb1 ho2.2.2 Zd hr2 hgrow⟩)
    go_roundw
    case rel=>exact⟨_,j+1,rfl,by rw[<-hst.out];exact hown',by go_num,Zo,ho5,hB4⟩
    case measure=>simp[intOf];omega
   ·obtain rfl:s=(j:Int):=Zo
    go_wp2_with fail;go_ret;exact⟨_,rfl,by simpa using hrow,hB⟩
def Ob(V:World)(b:Nat)(k c n:Int):Prop:=V.heap[b]? =some (.cells #[.int .i64 k,.int .i64 c,.int .i64 n] 162 (0,0))
theorem Ob.below{V V':World}{b B:Nat}{k c n:Int}(h:Ob V b k c n)(hb:Below B V V')(hB:b<B):Ob V' b k c n:=(hb.block b hB).trans h
theorem Ob.lt{V:World}{b:Nat}{k c n:Int}(h:Ob V b k c n):b<V.heap.size:=(wal.1 h).1
theorem Ob.cells{V:World}{b:Nat}{k c n:Int}(h:Ob V b k c n):V.cell? ⟨b,0,none⟩=some (.int .i64 k)/\V.cell? ⟨b,1,none⟩=some (.int .i64 c)/\V.cell? ⟨b,2,none⟩=some (.int .i64 n)/\(∀o,V.frozen? ⟨b,o,none⟩=false):=
 ⟨by rw[qaa h];rfl,by rw[qaa h];rfl,by rw[qaa h];rfl,λo=>qaj h o⟩
theorem Ob.new(W:World)(k c n:Int):Ob (W.alloc (.cells #[.int .i64 k,.int .i64 c,.int .i64 n] 162)) W.heap.size k c n:=World.alloc_heap_new W _
theorem Ob.more{V:World}{b:Nat}{k c n:Int}(h:Ob V b k c n)(o:Obj):Ob (V.alloc o) b k c n:=h.below ((wac V.heap.size V).alloc (wab _) o) h.lt
theorem Ob.drew{V:World}{b:Nat}{k c n:Int}(h:Ob V b k c n):Ob V.drew b k c n:=h
theorem Ob.set{V:World}{b:Nat}{k c n k' c' n':Int}(h:Ob V b k c n):Ob (((V.setCell ⟨b,0,none⟩ (.int .i64 k')).setCell ⟨b,1,none⟩ (.int .i64 c')).setCell ⟨b,2,none⟩ (.int .i64 n')) b k' c' n':=by
 have h1:=qah h 0 (.int .i64 k');have h2:=qah h1 1 (.int .i64 c');exact qah h2 2 (.int .i64 n')
theorem Ob.set0{V:World}{b:Nat}{k c n:Int}(h:Ob V b k c n)(k':Int):Ob (V.setCell ⟨b,0,none⟩ (.int .i64 k')) b k' c n:=qah h 0 (.int .i64 k')
theorem Ob.other0{V:World}{b b':Nat}{k c n:Int}{o:Nat}{v:Value}(h:Ob V b k c n)(hne:b≠b'):Ob (V.setCell ⟨b',o,none⟩ v) b k c n:=(wat _ _ _ _ hne).trans h
theorem Ob.below_set{W V:World}{b:Nat}{k' c' n':Int}{B:Nat}(h:Below B W V)(hB:B<=b):Below B W (((V.setCell ⟨b,0,none⟩ (.int .i64 k')).setCell ⟨b,1,none⟩ (.int .i64 c')).setCell ⟨b,2,none⟩ (.int .i64 n')):=
 ((h.setCell (p:=⟨b,0,none⟩) hB _).setCell (p:=⟨b,1,none⟩) hB _).setCell (p:=⟨b,2,none⟩) hB _
theorem qcf(w:World)(k c n:Int):Below w.heap.size w (w.alloc (.cells #[.int .i64 k,.int .i64 c,.int .i64 n] 162)):=(wac _ w).alloc (wab _) _
theorem qhy(w:World):Calls Tryz.prog 349 #[] w λe w'=>e= .returned (.slice (some ⟨w.heap.size,0,none⟩) 3 3)/\w.alloc (.cells #[.int .i64 16,.int .i64 8,.int .i64 8] 3)=w':=by
 go_enter Tryz.func349,Tryz.ntmps349;go_wp2
 go_ret;exact⟨rfl,rfl⟩
theorem qe1(n l m:Int)(w:World):Calls Tryz.prog 376 #[.int .i64 n,.int .i64 l,.int .i64 m] w λe w'=>e= .returned (.bool (decide (l<=n/\n<=m)))/\w=w':=by
 by_cases h1:l<=n<;>by_cases h2:n<=m
 all_goals
  go_enter Tryz.func376,Tryz.ntmps376;go_wp2
  go_ret;exact⟨qab (by symm;first|(apply decide_eq_true;omega)|(apply decide_eq_false;omega)|(simp;omega)),rfl⟩
theorem qpx(r s n:Int)(w:World):Calls Tryz.prog 347 #[.agg #[.int .i64 r,.int .i64 s,.int .i64 n]] w λe w'=>e= .returned (.bool (qdt r s n))/\Below w.heap.size w w':=by
 have hB:=qcf w r s n;by_cases h:r=0/\s=0/\n=0
 ·obtain⟨rfl,rfl,rfl⟩:=h
  have hz:=waa (show qdt 0 0 0=true by decide);go_enter wf1,wf2;go_wp2
  go_ret;exact⟨qab (by rw[hz.out]),hB⟩
 ·have hz:=waa (show qdt r s n=false by rw[<-wby,bzero_iff];exact h)
  by_cases h0:r=0
  ·subst h0
   by_cases h1:s=0
   ·subst h1
    have h2:¬n=0:=λe=>h ⟨rfl,rfl,e⟩
    have h3:¬0=n:=λe=>h2 e.symm
    clear h;go_enter wf1,wf2;go_wp2
    go_ret;exact⟨qab (by rw[hz.out]),hB⟩
   ·have h3:¬0=s:=λe=>h1 e.symm
    clear h;go_enter wf1,wf2;go_wp2
    go_ret;exact⟨qab (by rw[hz.out]),hB⟩
  ·have h3:¬0=r:=λe=>h0 e.symm
   clear h;go_enter wf1,wf2;go_wp2
   go_ret;exact⟨qab (by rw[hz.out]),hB⟩
theorem qzp(r s n:Int):qbs r s n=(decide (1<=n/\n<=255)&&(decide (0<=s/\s<=n)&&decide (0<=r/\r<=65535))):=by
 rw[wb8,bmay_iff];simp;omega
theorem qtr(r s n:Int)(w:World):Calls Tryz.prog 348 #[.agg #[.int .i64 r,.int .i64 s,.int .i64 n]] w λe w'=>e= .returned (.bool (qbs r s n))/\Below w.heap.size w w':=by
 have hB:=qcf w r s n;have c1:=λV=>qe1 n 1 255 V
 have c2:=λV=>qe1 s 0 n V
 have c3:=λV=>qe1 r 0 65535 V
 rw[qzp];generalize decide (1<=n/\n<=255)=a at c1 ⊢;generalize decide (0<=s/\s<=n)=b at c2 ⊢;generalize decide (0<=r/\r<=65535)=c at c3 ⊢;have d1:=waa c1;have d2:=waa c2;have d3:=waa c3;clear c1 c2 c3;cases a with
 |false=>
  go_enter Tryz.func348,Tryz.ntmps348;go_wp2_with fail;refine(d1.out _).mono ?_;rintro e w' ⟨rfl,rfl⟩;go_wp2_with fail;go_ret;exact⟨rfl,hB⟩
 |true=>
  cases b with
  |false=>
   go_enter Tryz.func348,Tryz.ntmps348;go_wp2_with fail;refine(d1.out _).mono ?_;rintro e w' ⟨rfl,rfl⟩;go_wp2_with fail;refine(d2.out _).mono ?_;rintro e w' ⟨rfl,rfl⟩;go_wp2_with fail;go_ret;exact⟨rfl,hB⟩
  |true=>
   go_enter Tryz.func348,Tryz.ntmps348;go_wp2_with fail;refine(d1.out _).mono ?_;rintro e w' ⟨rfl,rfl⟩;go_wp2_with fail;refine(d2.out _).mono ?_;rintro e w' ⟨rfl,rfl⟩;go_wp2_with fail;refine(d3.out _).mono ?_;rintro e w' ⟨rfl,rfl⟩;go_wp2_with fail;go_ret;exact⟨rfl,hB⟩
theorem qz6(r s n:Int)(w:World):Calls Tryz.prog 324 #[.agg #[.int .i64 r,.int .i64 s,.int .i64 n]] w λe w'=>e= .returned (.int .i64 (slN s n))/\Below w.heap.size w w':=by
 have hB:=qcf w r s n;by_cases h1:n<s<;>by_cases h2:0<s<;>by_cases h3:0<n
 all_goals first|(exfalso;omega)|skip
 all_goals
  first
   |(have hs:=waa (show slN s n=n by unfold slN;omega))
   |(have hs:=waa (show slN s n=s by unfold slN;omega))
   |(have hs:=waa (show slN s n=0 by unfold slN;omega))
  go_enter Tryz.func324,Tryz.ntmps324;go_wp2
  go_ret;exact⟨qbz (by rw[hs.out]),hB⟩
theorem qy7(r s n:Nat)(w:World)(h:qbs (r:Int) (s:Int) (n:Int)=true):Calls Tryz.prog 284 #[.agg #[.int .i64 (r:Int),.int .i64 (s:Int),.int .i64 (n:Int)]] w λe w'=>e= .returned (.tuple #[.int .u64 ((bW (r:Int) (s:Int) (n:Int):Nat):Int),.bool true])/\Below w.heap.size w w':=by
 have hb:=bmay_iff.1 h;have hW:bW (r:Int) (s:Int) (n:Int)=r+65536*s+16777216*n:=by have:=qh4 h;omega
 have hj:=qyx (a:=r) (b:=s) (c:=n) Zo Zo Zo;rw[<-hW] at hj;clear hW;have hjn:∀(A0 A1:Option Addr) (V:World),Rd V A0 3 (i64V [16,8,8])->Rd V A1 3 (u64V [r,s,n])->Calls Tryz.prog 178 #[.slice A0 3 3,.slice A1 3 3] V λe w'=>e= .returned (.tuple #[.int .u64 ((bW (r:Int) (s:Int) (n:Int):Nat):Int),.bool true])/\Below V.heap.size V w':=λA0 A1 V h0 h1=>by
  have h:=qiq A0 A1 3 3 [16,8,8] [r,s,n] V h0 h1 Zd Zs Zd (by intro x hx;simp at hx;omega);rw[hj] at h;exact h
 have hjn':=waa hjn;clear hj hjn;have hm:=λV=>qpx (r:Int) (s:Int) (n:Int) V
 rw[q53 h] at hm;have hm':=waa hm;have hy:=λV=>qtr (r:Int) (s:Int) (n:Int) V
 rw[h] at hy;have hy':=waa hy;have k0:IntKind.u64.wrap (r:Int)=(r:Int):=by rw[wa5];omega
 have k1:IntKind.u64.wrap (s:Int)=(s:Int):=by rw[wa5];omega
 have k2:IntKind.u64.wrap (n:Int)=(n:Int):=by rw[wa5];omega
 generalize ((bW (r:Int) (s:Int) (n:Int):Nat):Int)=v at hjn' ⊢;clear hm hy h hb;have hB0:=qcf w (r:Int) (s:Int) (n:Int);have hg:=Ob.new w (r:Int) (s:Int) (n:Int);go_enter Tryz.func284,Tryz.ntmps284;go_wp2_with fail;refine(hm'.out _).mono ?_;rintro e w1 ⟨rfl,hB⟩;have hg1:=hg.below hB hg.lt;have hB1:=hB0.trans (hB.mono hB0.size);obtain⟨c0,c1,c2,f⟩:=hg1.cells;clear hg hB0 hB hm';go_wp2_with fail;refine(hy'.out _).mono ?_;rintro e w2 ⟨rfl,hB⟩;have hg2:=hg1.below hB hg1.lt;have hB2:=hB1.trans (hB.mono hB1.size);obtain⟨d0,d1,d2,d3⟩:=hg2.cells;obtain⟨x0,x1,x2,x3⟩:=hg2.drew.cells;have hl2:=hg2.lt;clear hg1 hB1 hB hy' c0 c1 c2 f;go_wp2_with fail;go_region_held3 (λV=>V.cell? ⟨w.heap.size,0,none⟩=some (.int .i64 (r:Int))/\V.cell? ⟨w.heap.size,1,none⟩=some (.int .i64 (s:Int))/\V.cell? ⟨w.heap.size,2,none⟩=some (.int .i64 (n:Int)))
  (first|with_reducible exact⟨x0,x1,x2⟩|go_keep|with_reducible exact⟨y0,y1,y2⟩)
  (first
   |(go_at_call 349;refine(qhy _).mono ?_;rintro e w' ⟨rfl,rfl⟩)
   |(go_at_call 178
     first
      |refine(hjn'.out _ _ _ (qch (qd0 (qbv Zr Zr Zs) _)) (qch (qbv Zr Zr Zs))).mono ?_
      |refine(hjn'.out _ _ _ (qch (qbv Zr Zr Zs)) (qch (qd0 (qbv Zr Zr Zs) _))).mono ?_
     rintro e w3 ⟨rfl,hC⟩;have hBx:=(((wac w2.heap.size w2).alloc Zs _).alloc Zs _).drew.trans (hC.mono (by simp<;>omega));have hg3:=hg2.below hBx hl2;obtain⟨y0,y1,y2,y3⟩:=hg3.cells;have hB3:=hB2.trans (hBx.mono hB2.size)))
 all_goals
  go_wp2_with fail;go_ret2;exact⟨rfl,hB3⟩
theorem q3e(r s n:Int)(w:World)(h:qbs r s n=true):Calls Tryz.prog 284 #[.agg #[.int .i64 r,.int .i64 s,.int .i64 n]] w λe w'=>e= .returned (.tuple #[.int .u64 ((bW r s n:Nat):Int),.bool true])/\Below w.heap.size w w':=by
 have hb:=bmay_iff.1 h;obtain⟨r',rfl⟩:=waz (a:=r) Zo;obtain⟨s',rfl⟩:=waz (a:=s) Zo;obtain⟨n',rfl⟩:=waz (a:=n) Zo;exact qy7 r' s' n' w h
theorem q6v{w:World}{A:Option Addr}{a b c:Nat}(h:Rd w A 3 (u64V [a,b,c])):∃p:Addr,A=some p/\w.cell? p=some (.int .u64 (a:Int))/\w.cell? ⟨p.block,p.off+1,none⟩=some (.int .u64 (b:Int))/\w.cell? ⟨p.block,p.off+2,none⟩=some (.int .u64 (c:Int)):=by
 obtain⟨p,rfl,hc⟩:=h.2 Zo;exact⟨p,rfl,hc 0 _ rfl,hc 1 _ rfl,hc 2 _ rfl⟩
theorem q33(x:Nat)(cls:Int)(w:World)(hx:x<18446744073709551616)(hb:¬x<4294967296):Calls Tryz.prog 321 #[.int .u64 (x:Int),.int .i64 cls] w λe w'=>BlockE x cls e/\Below w.heap.size w w':=by
 have hspl:=qn6 hb;have hsp:∀(A:Option Addr) (V:World),Rd V A 3 (i64V [16,8,8])->Calls Tryz.prog 169 #[.slice A 3 3,.int .u64 (x:Int)] V λe w'=>e= .returned (.tuple #[.slice none 0 0,.bool false])/\Below V.heap.size V w':=λA V h0=>
  (qhq A 3 [16,8,8] x V h0 Zd Zd hx).mono λe w' ⟨h1,h2⟩=>⟨h1.isn hspl,h2⟩
 have hE:BlockE x cls (.returned (.tuple #[.agg #[.int .i64 0,.int .i64 0,.int .i64 0],.int .i64 11])):= .inr ⟨BHit.big hb,rfl⟩;have hEK:=keep hE;have hsp':=waa hsp;clear hsp hspl hE hb hx;have hg0:=Ob.new w 0 0 0;have hB0:=qcf w 0 0 0;have hs0:=waa (show(w.alloc (.cells #[.int .i64 0,.int .i64 0,.int .i64 0] 162)).heap.size=w.heap.size+1 by simp);go_enter Tryz.func321,Tryz.ntmps321;go_wp2_with fail;refine(qhy _).mono ?_;rintro e w' ⟨rfl,rfl⟩;go_wp2_with fail;generalize (w.alloc (.cells #[.int .i64 0,.int .i64 0,.int .i64 0] 162))=W0 at hg0 hB0 hs0 ⊢;refine(hsp'.out _ _ (qbv rfl Zr hs0.out)).mono ?_;rintro e w1 ⟨rfl,hB⟩;have hb1:=((wac W0.heap.size W0).alloc (wab _) (.cells #[.int .i64 16,.int .i64 8,.int .i64 8] 3)).trans (hB.mono Zs);have hB1:=hB0.trans (hb1.mono hB0.size);have hg1:=hg0.below hb1 hg0.lt;obtain⟨c0,c1,c2,f⟩:=hg1.cells;clear hB hb1 hB0 hg0 hsp' hs0;go_wp2_with fail;exact bodyPost_ret (v:= .tuple #[.agg #[.int .i64 0,.int .i64 0,.int .i64 0],.int .i64 11]) (by simp[results,Tryz.results321,go_sem,c0,c1,c2]) rfl ⟨hEK.out,Ob.below_set hB1 (wab _)⟩
theorem q8a(x a b c:Nat)(cls q:Int)(z m:Bool)(R:Ending->Prop)(w:World)(ha:a<65536)(hb:b<256)(hc:c<256)(hsp:Hid (∀(A:Option Addr) (V:World),Rd V A 3 (i64V [16,8,8])->Calls Tryz.prog 169 #[.slice A 3 3,.int .u64 (x:Int)] V λe w'=>(∃B d,e= .returned (.tuple #[.slice B 3 d,.bool true])/\Rd w' B 3 (u64V [a,b,c]))/\Below V.heap.size V w'))(hz:Hid (∀V,Calls Tryz.prog 347 #[.agg #[.int .i64 (a:Int),.int .i64 (b:Int),.int .i64 (c:Int)]] V λe w'=>e= .returned (.bool z)/\Below V.heap.size V w'))(hm:Hid (∀V,Calls Tryz.prog 348 #[.agg #[.int .i64 (a:Int),.int .i64 (b:Int),.int .i64 (c:Int)]] V λe w'=>e= .returned (.bool m)/\Below V.heap.size V w'))(hq:Hid (∀V,Calls Tryz.prog 180 #[.int .i64 (c:Int)] V λe w'=>e= .returned (.int .i64 q)/\V=w'))(yes:z=true\/(m=true/\q=cls)->Keep (R (.returned (.tuple #[.agg #[.int .i64 (a:Int),.int .i64 (b:Int),.int .i64 (c:Int)],.int .i64 0]))))(no:z=false->(m=false\/q≠cls)->Keep (R (.returned (.tuple #[.agg #[.int .i64 0,.int .i64 0,.int .i64 0],.int .i64 11])))):
  Calls Tryz.prog 321 #[.int .u64 (x:Int),.int .i64 cls] w λe w'=>R e/\Below w.heap.size w w':=by
 have yes':=keep yes;have no':=keep no;clear yes no;have ka:IntKind.i64.wrap (a:Int)=(a:Int):=wao _ Zo;have kb:IntKind.i64.wrap (b:Int)=(b:Int):=wao _ Zo;have kc:IntKind.i64.wrap (c:Int)=(c:Int):=wao _ Zo;have hg0:=Ob.new w 0 0 0;have hB0:=qcf w 0 0 0;have hs0:=waa (show(w.alloc (.cells #[.int .i64 0,.int .i64 0,.int .i64 0] 162)).heap.size=w.heap.size+1 by simp);go_enter Tryz.func321,Tryz.ntmps321;go_wp2_with fail;refine(qhy _).mono ?_;rintro e w' ⟨rfl,rfl⟩;go_wp2_with fail;generalize (w.alloc (.cells #[.int .i64 0,.int .i64 0,.int .i64 0] 162))=W0 at hg0 hB0 hs0 ⊢;refine(hsp.out _ _ (qbv rfl Zr hs0.out)).mono ?_;rintro e w1 ⟨⟨B,d,rfl,hrd⟩,hB⟩;obtain⟨p,rfl,r0,r1,r2⟩:=q6v hrd;have hb1:=((wac W0.heap.size W0).alloc (wab _) (.cells #[.int .i64 16,.int .i64 8,.int .i64 8] 3)).trans (hB.mono Zs);have hB1:=hB0.trans (hb1.mono hB0.size);have hg1:=hg0.below hb1 hg0.lt;clear hB hb1 hB0 hg0 hsp hrd hs0;go_wp2_with fail;have hl1:p.block<w1.heap.size:=wak w1 _ r0;have hn1:¬p.block=w1.heap.size:=Zo
 obtain⟨d0,d1,d2⟩:w1.drew.cell? p=some (.int .u64 (a:Int))/\w1.drew.cell? ⟨p.block,p.off+1,none⟩=some (.int .u64 (b:Int))/\w1.drew.cell? ⟨p.block,p.off+2,none⟩=some (.int .u64 (c:Int)):=⟨r0,r1,r2⟩
 go_region_held3 (λV=>V.cell? p=some (.int .u64 (a:Int))/\V.cell? ⟨p.block,p.off+1,none⟩=some (.int .u64 (b:Int))/\V.cell? ⟨p.block,p.off+2,none⟩=some (.int .u64 (c:Int)))
  (first|with_reducible exact⟨d0,d1,d2⟩|go_keep)
  (fail)
 rename_i hHeld
 have hg2:Ob (w1.alloc (.cells #[.int .i64 (a:Int),.int .i64 (b:Int),.int .i64 (c:Int)] 162)).drew w.heap.size 0 0 0:=hg1.more _;have hh2:Ob (w1.alloc (.cells #[.int .i64 (a:Int),.int .i64 (b:Int),.int .i64 (c:Int)] 162)).drew w1.heap.size (a:Int) (b:Int) (c:Int):=Ob.new w1 _ _ _;have hB2:Below w.heap.size w (w1.alloc (.cells #[.int .i64 (a:Int),.int .i64 (b:Int),.int .i64 (c:Int)] 162)).drew:=(hB1.alloc hB1.size _).drew;clear hHeld d0 d1 d2 r0 r1 r2 hn1 hl1 hg1 hB1;generalize (w1.alloc (.cells #[.int .i64 (a:Int),.int .i64 (b:Int),.int .i64 (c:Int)] 162)).drew=W2 at hg2 hh2 hB2 ⊢;obtain⟨x0,x1,x2,x3⟩:=hh2.cells;go_wp2_with fail;refine(hz.out _).mono ?_;rintro e w3 ⟨rfl,hC⟩;have hg3:=hg2.below hC hg2.lt;have hh3:=hh2.below hC hh2.lt;have hB3:=hB2.trans (hC.mono hB2.size);obtain⟨c0,c1,c2,f⟩:=hg3.cells;obtain⟨y0,y1,y2,y3⟩:=hh3.cells;clear hg2 hh2 hB2 hC x0 x1 x2 x3 hz;cases z with
 |true=>
  have hE:=yes'.out (.inl rfl);clear yes' no';go_wp2_with fail;exact bodyPost_ret (v:= .tuple #[.agg #[.int .i64 (a:Int),.int .i64 (b:Int),.int .i64 (c:Int)],.int .i64 0]) (by simp[results,Tryz.results321,go_sem,c0,c1,c2]) rfl ⟨hE.out,Ob.below_set hB3 (wab _)⟩
 |false=>
  have noX:=keep (no'.out rfl);have yesX:=keep (λ(h1:m=true) (h2:q=cls)=>yes'.out (.inr ⟨h1,h2⟩));clear yes' no';go_wp2_with fail;refine(hm.out _).mono ?_;rintro e w4 ⟨rfl,hC⟩;have hg4:=hg3.below hC hg3.lt;have hh4:=hh3.below hC hh3.lt;have hB4:=hB3.trans (hC.mono hB3.size);clear c0 c1 c2 f y0 y1 y2 y3 hg3 hh3 hB3 hC hm;obtain⟨c0,c1,c2,f⟩:=hg4.cells;obtain⟨y0,y1,y2,y3⟩:=hh4.cells;cases m with
  |false=>
   have hE:=noX.out (.inl rfl);clear yesX noX;go_wp2_with fail;exact bodyPost_ret (v:= .tuple #[.agg #[.int .i64 0,.int .i64 0,.int .i64 0],.int .i64 11]) (by simp[results,Tryz.results321,go_sem,c0,c1,c2]) rfl ⟨hE.out,Ob.below_set hB4 (wab _)⟩
  |true=>
   by_cases hqc:q=cls
   ·have hE:=yesX.out rfl hqc
    have hne:(q !=cls)=false:=by rw[hqc];simp
    clear yesX noX hqc;go_wp2_with fail;refine(hq.out _).mono ?_;rintro e w5 ⟨rfl,rfl⟩;go_wp2_with fail;exact bodyPost_ret (v:= .tuple #[.agg #[.int .i64 (a:Int),.int .i64 (b:Int),.int .i64 (c:Int)],.int .i64 0]) (by simp[results,Tryz.results321,go_sem,c0,c1,c2]) rfl ⟨hE.out,Ob.below_set hB4 (wab _)⟩
   ·have hE:=noX.out (.inr hqc)
    have hne:(q !=cls)=true:=bne_iff_ne.2 hqc;clear yesX noX hqc;go_wp2_with fail;refine(hq.out _).mono ?_;rintro e w5 ⟨rfl,rfl⟩;go_wp2_with fail;exact bodyPost_ret (v:= .tuple #[.agg #[.int .i64 0,.int .i64 0,.int .i64 0],.int .i64 11]) (by simp[results,Tryz.results321,go_sem,c0,c1,c2]) rfl ⟨hE.out,Ob.below_set hB4 (wab _)⟩
theorem qpp(x:Nat)(cls:Int)(w:World)(hx:x<18446744073709551616):Calls Tryz.prog 321 #[.int .u64 (x:Int),.int .i64 cls] w λe w'=>BlockE x cls e/\Below w.heap.size w w':=by
 by_cases hb:x<4294967296
 ·have hspl:=qv1 hb
  have hf:=BHit.fields (c:=cls) hb;have hno:=BHit.no (x:=x) (c:=cls);have hfz:=qv0 hb;have hyes:∀(z m:Bool) (q:Int),qdt ((x%65536:Nat):Int) ((x/65536%256:Nat):Int) ((x/16777216%256:Nat):Int)=z->qbs ((x%65536:Nat):Int) ((x/65536%256:Nat):Int) ((x/16777216%256:Nat):Int)=m->clN ((x/16777216%256:Nat):Int)=q->z=true\/(m=true/\q=cls)->BlockE x cls (.returned (.tuple #[.agg #[.int .i64 ((x%65536:Nat):Int),.int .i64 ((x/65536%256:Nat):Int),.int .i64 ((x/16777216%256:Nat):Int)],.int .i64 0])):=by
   intro z m q h1 h2 h3 h;refine .inl ⟨_,_,_,?_,rfl⟩;rcases h with h|⟨h,h'⟩
   ·exact .inl ⟨hfz (h1.trans h),h1.trans h⟩
   ·exact hf (h2.trans h) (h3.trans h')
  have hnot:∀(z m:Bool) (q:Int),qdt ((x%65536:Nat):Int) ((x/65536%256:Nat):Int) ((x/16777216%256:Nat):Int)=z->qbs ((x%65536:Nat):Int) ((x/65536%256:Nat):Int) ((x/16777216%256:Nat):Int)=m->clN ((x/16777216%256:Nat):Int)=q->z=false->(m=false\/q≠cls)->BlockE x cls (.returned (.tuple #[.agg #[.int .i64 0,.int .i64 0,.int .i64 0],.int .i64 11])):=by
   intro z m q h1 h2 h3 h h';refine .inr ⟨hno (BHit.nofields (h1.trans h) ?_),rfl⟩;rw[h2,h3];exact h'
  have ha:x%65536<65536:=wcn _ Zo;have hb2:x/65536%256<256:=wcn _ Zo;have hc:x/16777216%256<256:=wcn _ Zo;exact q8a x (x%65536) (x/65536%256) (x/16777216%256) cls _ _ _ (BlockE x cls) w ha hb2 hc
   (waa λA V h0=>(qhq A 3 [16,8,8] x V h0 Zd Zd hx).mono λe w' ⟨h1,h2⟩=>by
    obtain⟨B,d,e1,e2⟩:=h1.is hspl;exact⟨⟨B,d,e1,e2⟩,h2⟩)
   (waa λV=>qpx _ _ _ V) (waa λV=>qtr _ _ _ V) (waa λV=>(qow _ V).mono λe w' h=>h)
   (λh=>keep (hyes _ _ _ rfl rfl rfl h)) (λh h'=>keep (hnot _ _ _ rfl rfl rfl h h'))
 ·exact q33 x cls w hx hb
def wdN(at_ i f t:Int):Int:=if 0<=i/\i<t - f then at_+1+f+i else -1
theorem q77(at_ i f t:Int)(w:World)(h0:0<=f/\f<=255)(h1:0<=t/\t<=255)(h2:-4611686018427387904<=at_/\at_<=4611686018427387904):
  Calls Tryz.prog 323 #[.int .i64 at_,.int .i64 i,.int .i64 f,.int .i64 t] w λe w'=>e= .returned (.int .i64 (wdN at_ i f t))/\w=w':=by
 obtain⟨f0,f1⟩:=h0;obtain⟨t0,t1⟩:=h1;obtain⟨a0,a1⟩:=h2;by_cases hi:0<=i
 ·by_cases ht:i<t - f
  ·have hw:=waa (show wdN at_ i f t=at_+1+f+i from if_pos ⟨hi,ht⟩)
   generalize wdN at_ i f t=v at hw ⊢;go_enter Tryz.func323,Tryz.ntmps323;go_wp2
   go_ret;exact⟨qbz (by rw[hw.out];omega),rfl⟩
  ·have hw:=waa (show wdN at_ i f t= -1 from if_neg Zo)
   generalize wdN at_ i f t=v at hw ⊢;go_enter Tryz.func323,Tryz.ntmps323;go_wp2
   go_ret;exact⟨qbz (by rw[hw.out]),rfl⟩
 ·have hw:=waa (show wdN at_ i f t= -1 from if_neg Zo)
  generalize wdN at_ i f t=v at hw ⊢;go_enter Tryz.func323,Tryz.ntmps323;go_wp2
  go_ret;exact⟨qbz (by rw[hw.out]),rfl⟩
theorem qx4(r s n:Int)(w:World)(h:qbs r s n=true):Calls Tryz.prog 324 #[.agg #[.int .i64 r,.int .i64 s,.int .i64 n]] w λe w'=>e= .returned (.int .i64 s)/\Below w.heap.size w w':=by
 have:=qz6 r s n w
 rwa [qabn h] at this
theorem q73(r s n at_ i:Int)(w:World)(h:qbs r s n=true)(h2:-4611686018427387904<=at_/\at_<=4611686018427387904):
  Calls Tryz.prog 256 #[.agg #[.int .i64 r,.int .i64 s,.int .i64 n],.int .i64 at_,.int .i64 i] w λe w'=>e= .returned (.int .i64 (wdN at_ i 0 s))/\Below w.heap.size w w':=by
 have hb:=bmay_iff.1 h;have hs:=waa (λV=>qx4 r s n V h);have hd:=waa (λV=>q77 at_ i 0 s V Zo Zo h2);have hB:=qcf w r s n;clear h hb h2;go_enter Tryz.func256,Tryz.ntmps256;go_wp2_with fail;refine(hs.out _).mono ?_;rintro e w1 ⟨rfl,hC⟩;go_wp2_with fail;refine(hd.out _).mono ?_;rintro e w2 ⟨rfl,rfl⟩;go_wp2_with fail;go_ret;exact⟨rfl,hB.trans (hC.mono Zs)⟩
theorem q1b(w:World)(r s n:Int):Ob ((w.alloc (.cells #[.int .i64 r,.int .i64 s,.int .i64 n] 162)).alloc (.cells #[.int .i64 0,.int .i64 0,.int .i64 0] 162)) w.heap.size r s n/\
  Ob ((w.alloc (.cells #[.int .i64 r,.int .i64 s,.int .i64 n] 162)).alloc (.cells #[.int .i64 0,.int .i64 0,.int .i64 0] 162)) (w.heap.size+1) 0 0 0/\
  Below w.heap.size w ((w.alloc (.cells #[.int .i64 r,.int .i64 s,.int .i64 n] 162)).alloc (.cells #[.int .i64 0,.int .i64 0,.int .i64 0] 162)):=by
 refine⟨(Ob.new w r s n).more _,?_,(qcf w r s n).alloc Zs _⟩;have:=Ob.new (w.alloc (.cells #[.int .i64 r,.int .i64 s,.int .i64 n] 162)) 0 0 0
 simpa using this
theorem qr2(r s n m:Int)(w:World)(hr:0<=r/\r<=65535)(hm:-1152921504606846976<=m/\m<=1152921504606846976)(h:0<=r+m/\r+m<=65535):
  Calls Tryz.prog 332 #[.agg #[.int .i64 r,.int .i64 s,.int .i64 n],.int .i64 m] w λe w'=>e= .returned (.tuple #[.agg #[.int .i64 (r+m),.int .i64 s,.int .i64 n],.bool true])/\Below w.heap.size w w':=by
 obtain⟨hg,hq,hB⟩:=q1b w r s n;obtain⟨r0,r1⟩:=hr;obtain⟨m0,m1⟩:=hm;have hi:=λV=>qe1 (r+m) 0 65535 V
 rw[decide_eq_true h] at hi;have hi':=waa hi;obtain⟨h0,h1⟩:=h;clear hi;have hk:decide (r<r+m)=decide (0<m):=by
  rw[decide_eq_decide];omega
 obtain⟨x0,x1,x2,x3⟩:=hg.cells;obtain⟨y0,y1,y2,y3⟩:=hq.cells;go_enter Tryz.func332,Tryz.ntmps332;go_wp2_with fail;generalize ((w.alloc (.cells #[.int .i64 r,.int .i64 s,.int .i64 n] 162)).alloc (.cells #[.int .i64 0,.int .i64 0,.int .i64 0] 162))=W at hg hq hB x0 x1 x2 x3 y0 y1 y2 y3 ⊢;refine(hi'.out _).mono ?_;rintro e w1 ⟨rfl,rfl⟩;have hg1:=hg.set0 (r+m);have hq1:=hq.other0 (b':=w.heap.size) (o:=0) (v:= .int .i64 (r+m)) Zo;have hB1:Below w.heap.size w (W.setCell ⟨w.heap.size,0,none⟩ (.int .i64 (r+m))):=hB.setCell (p:=⟨w.heap.size,0,none⟩) (wab _) _;obtain⟨u0,u1,u2,u3⟩:=hg1.cells;obtain⟨z0,z1,z2,z3⟩:=hq1.cells;go_wp2_with fail;exact bodyPost_ret (v:= .tuple #[.agg #[.int .i64 (r+m),.int .i64 s,.int .i64 n],.bool true]) (by simp[results,Tryz.results332,go_sem,z0,z1,z2]) rfl ⟨rfl,Ob.below_set hB1 Zo⟩
theorem q9y(r s n m:Int)(w:World)(hr:0<=r/\r<=65535)(hm:-1152921504606846976<=m/\m<=1152921504606846976)(h:¬(0<=r+m/\r+m<=65535)):
  Calls Tryz.prog 332 #[.agg #[.int .i64 r,.int .i64 s,.int .i64 n],.int .i64 m] w λe w'=>e= .returned (.tuple #[.agg #[.int .i64 r,.int .i64 s,.int .i64 n],.bool false])/\Below w.heap.size w w':=by
 obtain⟨hg,hq,hB⟩:=q1b w r s n;obtain⟨r0,r1⟩:=hr;obtain⟨m0,m1⟩:=hm;have hi:=λV=>qe1 (r+m) 0 65535 V
 rw[decide_eq_false h] at hi;have hi':=waa hi;clear hi h;have hk:decide (r<r+m)=decide (0<m):=by
  rw[decide_eq_decide];omega
 obtain⟨x0,x1,x2,x3⟩:=hg.cells;obtain⟨y0,y1,y2,y3⟩:=hq.cells;go_enter Tryz.func332,Tryz.ntmps332;go_wp2_with fail;generalize ((w.alloc (.cells #[.int .i64 r,.int .i64 s,.int .i64 n] 162)).alloc (.cells #[.int .i64 0,.int .i64 0,.int .i64 0] 162))=W at hg hq hB x0 x1 x2 x3 y0 y1 y2 y3 ⊢;refine(hi'.out _).mono ?_;rintro e w1 ⟨rfl,rfl⟩;go_wp2_with fail;exact bodyPost_ret (v:= .tuple #[.agg #[.int .i64 r,.int .i64 s,.int .i64 n],.bool false]) (by simp[results,Tryz.results332,go_sem,y0,y1,y2]) rfl ⟨rfl,Ob.below_set hB Zo⟩
end Go.Proofs.YtocncmbeinmiaaaGreat
