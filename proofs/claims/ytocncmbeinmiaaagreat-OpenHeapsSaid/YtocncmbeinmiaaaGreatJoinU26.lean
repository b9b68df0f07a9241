/- Parts. No condition. -/
import Derived.Lib.SmallJoins
import Derived.Deep.Slices
import Derived.Deep.Fields
import Derived.ChangeSame
import Derived.Laws.AppendOwnNone
import Derived.Test.YtocncmbeinmiaaaGreatJoinU25
set_option linter.unusedVariables false
set_option maxRecDepth 100000
set_option maxHeartbeats 8000000
namespace Go.Proofs.YtocncmbeinmiaaaGreat
open Go Go.RowKit
theorem HdsRd.keepG{g n:Nat}{W V:World}{A:Option Addr}{hs:List HD}(h:HdsRd W A n hs)(hA:∀p,A=some p->p.block≠g)(k:KpG g W V):HdsRd V A n hs:=by
 obtain⟨h1,h2⟩:=h;refine⟨h1,λhn=>?_⟩;obtain⟨q,e,hq⟩:=h2 hn;refine⟨q,e,λj a ha=>?_⟩;obtain⟨c0,c1,c2⟩:=hq j a ha;have hb:(q.add (j*3)).block≠g:=by rw[qgy];exact hA q e
 exact⟨k _ _ hb c0,k ⟨_,_,none⟩ _ hb c1,k ⟨_,_,none⟩ _ hb c2⟩
theorem qpz{l:Int}{K:List HD}{M ws:List Nat}{j x:Nat}{a b c:Int}(hK:K[j]? =some (a,b,c))(hM:M[j]? =some x):putH l K M ws (j+1)=((putH l K M ws j).set (hdAt l j) (qce a b c)).set (hdAt l j+1) x:=by rw[putH,hK,hM];rfl
theorem q0m(s l r:Int)(A:Option Addr)(cap:Nat)(ws:List Nat)(hs:List HD)(L:List LV)(w:World)(hr:Rd w A ws.length (u64V ws))(hcap:ws.length<=cap)(hlt:∀y∈ws,y<18446744073709551616)(hh:Hit ws s l r)(hto:ToldL s l r ws hs L):
  Calls Tryz.prog 212 #[.slice A ws.length cap] w λe w'=>(∃v,e= .returned (.tuple #[v,.int .i64 0])/\w'.ownsRow w.heap.size 27 1 v ws.length (u64V (qck s l ws hs L)))/\Below w.heap.size w w':=by
 obtain⟨hf,hhl,hd,hnd,hob⟩:=hto.facts;have hbd:=qaw hf;have hmay:=hh.1;obtain⟨p,rfl,-⟩:=qa6 hr (show ws[0]? =some _ from waj Zo);obtain⟨n,hn⟩:∃n,ws.length=n:=⟨_,rfl⟩
 have hLl:=qp9 hto.2.1;have hin:=qmh hto.2.1;have hge:=waa (λV (hV:Below w.heap.size w V)=>(qec (some p) cap ws V (hr.below hV) hcap Zo hlt).mono λe w' ⟨h1,h2⟩=>(⟨h1.is hh,h2⟩:e=Ending.returned (.tuple #[.agg #[.int .i64 s,.int .i64 l,.int .i64 r],.int .i64 0])/\Below V.heap.size V w'));have hre:=waa (λV (hV:Below w.heap.size w V)=>quu s l r (some p) cap ws V (hr.below hV) Zo hlt hto);have hit:=waa (λV (hV:Below w.heap.size w V)=>q40 p n cap ws V (by have:=hr.below hV;rwa [hn] at this) hn Zo Zo Zo);have hhd:=waa (λ(V:World) (hV:Below w.heap.size w V)=>show Calls Tryz.prog 54 #[.agg #[.int .i64 s,.int .i64 l,.int .i64 r],.slice (some p) ws.length cap] V λe w'=>(∃HA hcap,e= .returned (.tuple #[.slice HA hs.length hcap,.int .i64 0])/\HdsRd w' HA hs.length hs)/\Below V.heap.size V w' from by
  refine(qfh s l r (some p) cap ws _ (hr.below hV) Zo hlt).mono λe w' ⟨h1,h2⟩=>⟨?_,h2⟩
  rw[hto.1] at h1;obtain⟨v,rfl,ho⟩:=h1;obtain⟨HA,hc,rfl,hH⟩:=HdsRd.of_own ho;exact⟨HA,hc,rfl,hH⟩)
 have hmp:=waa (λ(LA:Option Addr) (lc:Nat) (V:World) (hL:LsRd V LA L.length L)=>show Calls Tryz.prog 282 #[.agg #[.int .i64 s,.int .i64 l,.int .i64 r],.slice LA L.length lc] V λe w'=>(∃KA kc,e= .returned (.slice KA (mapF s L).length kc)/\Rd w' KA (mapF s L).length (u64V (mapF s L))/\∀q,KA=some q->V.heap.size<=q.block)/\Below V.heap.size V w' from by
  refine(q31 s l r LA lc L V hmay hL Zo hin).mono λe w' ⟨v,g1,g2,g3⟩=>⟨?_,g3⟩
  obtain⟨KA,kc,rfl,g4⟩:=Rd.of_own g2;exact⟨KA,kc,g1,g4,λq hq=>by subst hq;exact qd5 g2⟩)
 have hkp:=waa (λ(HA:Option Addr) (hcap:Nat) (LA:Option Addr) (lc:Nat) (V:World) (hH:HdsRd V HA hs.length hs) (hL:LsRd V LA L.length L)=>show Calls Tryz.prog 283 #[.agg #[.int .i64 s,.int .i64 l,.int .i64 r],.slice HA hs.length hcap,.slice LA L.length lc] V λe w'=>(∃KA kc,e= .returned (.slice KA hs.length kc)/\HdsRd w' KA hs.length (qbt hs L hs.length)/\∀q,KA=some q->V.heap.size<=q.block)/\Below V.heap.size V w' from by
  refine(qzy s l r HA hcap hs LA lc L V hmay hH hhl hL hLl (λo ho=>⟨(hin o ho).1,(hin o ho).2.1⟩)).mono λe w' ⟨v,g1,g2,g3⟩=>⟨?_,g3⟩
  rw[qdu] at g2;obtain⟨KA,kc,rfl,g4⟩:=HdsRd.of_own g2;exact⟨KA,kc,g1,g4,λq hq=>by subst hq;exact qd5 g2⟩)
 have hhdw:=waa (λ(j:Nat) (hj:(j:Int)<s) (V:World)=>show Calls Tryz.prog 133 #[.agg #[.int .i64 s,.int .i64 l,.int .i64 r],.int .i64 (j:Int)] V λe w'=>e= .returned (.int .i64 ((hdAt l j:Nat):Int))/\Below V.heap.size V w' from by
  have:=qse s l r (j:Int) V
  rw[show headN s l r (j:Int)=((hdAt l j:Nat):Int) from(if_pos ⟨hmay,Zo,hj⟩).trans (by unfold hdAt;omega)] at this;exact this)
 have hwd:=waa (show ∀j:Nat,(j:Int)<s->hdAt l j+1<n/\hdAt l j<=2000 from λj hj=>by unfold hdAt;omega);have hkm:=waa (show ∀(j:Nat) (a b c:Int),(qbt hs L hs.length)[j]? =some (a,b,c)->j<hs.length->qav a b c=true from λj a b c hj hl=>by
  have:=qjm (L:=L) hd hl
  rw[hj,wa8] at this;exact this)
 have hob2:=waa (show ∀o∈L,o.a=(o.ad:Int)/\o.ad<n/\qbs o.r o.s o.n=true from λo ho=>by
  have h1:=hob o ho;have h2:=hto.may o ho;exact⟨h1.1,Zo,h2⟩)
 have hml:(mapF s L).length=hs.length:=by rw[qe4,hhl]
 have hmx:=waa (qk2 s L);have hkl:=qdu hs L hs.length;unfold qck;rw[<-hhl];generalize qbt hs L hs.length=K at hkp hkm hkl ⊢;rw[hml] at hmp;generalize mapF s L=M at hmp hml hmx ⊢;obtain⟨N,hN⟩:∃N,hs.length=N:=⟨_,rfl⟩
 rw[hN] at hhd hmp hkp hkm hkl hml ⊢;rw[hn] at hge hre hhd ⊢;have hNs:=waa (show(N:Int)=s by omega);have hn2:0<n/\n<=2000:=Zo
 have hNl:N<=16:=Zo
 clear hr hcap hlt hh hto hf hhl hd hnd hob hbd hmay hin hN hn;go_enter Tryz.func212,Tryz.ntmps212;go_wp2_with (first
  |(go_at_call 53;go_loud (refine(hge.out _ (wac _ _)).mono ?_;rintro e w1 ⟨rfl,hB1⟩;have hg1:=Gm.new w1 s l r;have hB2:=waa (hB1.alloc hB1.size (.cells #[.int .i64 s,.int .i64 l,.int .i64 r] 23));obtain⟨k0,k1,k2,k3⟩:=hg1.cells;have hgl1:=hg1.lt;have hg1:=waa hg1;clear hB1))
  |(go_at_call 280;go_loud (refine(hre.out _ hB2.out).mono ?_;rintro e w3 ⟨⟨LA,lc,rfl,hL⟩,hB3⟩;obtain⟨m0,m1,m2,m3⟩:=(hg1.out.below hB3 hgl1).cells;have hg3:=waa (hg1.out.below hB3 hgl1);have hg3l:=hg3.out.lt;have hL:=waa hL;have hB4:=waa (hB2.out.trans (hB3.mono hB2.out.size));clear hB3))
  |(go_at_call 281;go_loud (refine(hit.out _ hB4.out).mono ?_;rintro e w5 ⟨⟨g,c,bt,rfl,hown,hbt,hbg⟩,hB5⟩;obtain⟨n0,n1,n2,n3⟩:=(hg3.out.below hB5 hg3l).cells;have hg5:=waa (hg3.out.below hB5 hg3l);have hg5l:=hg5.out.lt;have hL5:=waa (hL.out.below hB5);have hB6:=waa (hB4.out.trans (hB5.mono hB4.out.size));have hT5:=waa hB5;have hglt:=(hown.lt g rfl).2;have hgge:=(hown.lt g rfl).1;have hown:=waa hown;have hbt:=waa hbt;clear hB5))
  |(go_at_call 54;go_loud (refine(hhd.out _ hB6.out).mono ?_;rintro e w7 ⟨⟨HA,hcap,rfl,hH⟩,hB7⟩;obtain⟨o0,o1,o2,o3⟩:=(hg5.out.below hB7 hg5l).cells;have hg7:=waa (hg5.out.below hB7 hg5l);have hg7l:=hg7.out.lt;have hL7:=waa (hL5.out.below hB7);have hT7:=waa (hT5.out.trans (hB7.mono hT5.out.size));have hown7:=waa (qaf hown.out hB7);have hbt7:=waa (KpG.refl bt w5|>.below hB7);have hH:=waa hH;have hg7lt:g<w7.heap.size:=(by have:=hB7.size;omega);have hcb7:=waa ((hB7.cell (wak w5 _ hbt.out)).trans hbt.out);clear hB7 hbt7))
  |(go_at_call 282;go_loud (refine(hmp.out _ _ _ hL7.out).mono ?_;rintro e w9 ⟨⟨MA,mc,rfl,hM,hMb⟩,hB9⟩;obtain⟨q0,q1,q2,q3⟩:=(hg7.out.below hB9 hg7l).cells;have hg9:=waa (hg7.out.below hB9 hg7l);have hg9l:=hg9.out.lt;have hL9:=waa (hL7.out.below hB9);have hT9:=waa (hT7.out.trans (hB9.mono hT7.out.size));have hown9:=waa (qaf hown7.out hB9);have hH9:=waa (hH.out.below hB9);have hM:=waa hM;have hMb:=waa (show ∀q,MA=some q->q.block≠g from λq hq=>(by have:=hMb q hq;omega));have hg9lt:g<w9.heap.size:=(by have:=hB9.size;omega);have hcb9:=waa ((hB9.cell (wak w7 _ hcb7.out)).trans hcb7.out);clear hB9))
  |(go_at_call 283;go_loud (refine(hkp.out _ _ _ _ _ hH9.out hL9.out).mono ?_;rintro e wb ⟨⟨KA,kc,rfl,hK,hKb⟩,hBb⟩;have hLb:=waa (hL9.out.below hBb);have hTb:=waa (hT9.out.trans (hBb.mono hT9.out.size));have hownb:=waa (qaf hown9.out hBb);have hMr:=waa (hM.out.below hBb);have hK:=waa hK;have hKb:=waa (show ∀q,KA=some q->q.block≠g from λq hq=>(by have:=hKb q hq;omega));have hcbb:=waa ((hBb.cell (wak w9 _ hcb9.out)).trans hcb9.out);clear hBb)))
 have hgb:w1.heap.size≠g:=by have:=hgl1;have:=hg3l;omega
 clear hge hre hit hhd hmp hkp hg1 hg5 hg7 hg9 hL5 hL7 hL9 hH hH9 hM hown hown7 hown9 hT5 hT7 hT9 hB2 hB6 hbt hcb7 hcb9 k0 k1 k2 k3 m0 m1 m2 m3 n0 n1 n2 n3 o0 o1 o2 o3 q0 q1 q2 q3 hLb;generalize w1.heap.size=bg at hg3 hg3l hgb ⊢;go_loopg [56] N (λk s56 wr=>∃j:Nat,s56= .int .i64 (j:Int)/\N - j<=k/\j<=N/\Hid (wr.ownsRow w3.heap.size 27 1 (.slice (some ⟨g,0,none⟩) n c) n (u64V (putH l K M ws j)))/\Hid (KpG g wb wr)/\Hid (Below w3.heap.size w3 wr))
 case atStart=>exact⟨0,rfl,Zo,Zo,hownb,waa (KpG.refl _ _),hTb⟩
 case round=>
  obtain⟨j,rfl,hkj,hj,hoj,hkg,hT⟩:=hrel;by_cases hjl:j<N
  ·obtain⟨pk,a,b,d,rfl,hh,c0,c1,c2⟩:=qku (hK.out.keepG hKb.out hkg.out) hjl
   obtain⟨x,hx⟩:∃x,M[j]? =some x:=⟨_,waj Zo⟩
   obtain⟨pm,rfl,cx⟩:=qa6 (hMr.out.keepG hMb.out hkg.out) hx;have hpmb:=hMb.out pm rfl;have hstep:=waa (qpz (l:=l) (ws:=ws) hh hx);have hwo:=waa (λV=>qio a b d V (hkm.out j a b d hh hjl));obtain⟨hd1,hd2⟩:=hwd.out j (by have:=hNs.out;omega);have hhj:=waa (λV=>hhdw.out j (by have:=hNs.out;omega) V);obtain⟨hd,hdE⟩:∃hd,hdAt l j=hd:=⟨_,rfl⟩
   rw[hdE] at hstep hhj hd1 hd2;obtain⟨hv,hvE⟩:∃hv,hd+1=hv:=⟨_,rfl⟩
   rw[hvE] at hstep hd1;have e1:IntKind.i64.wrap ((hd:Int)+1)=((hv:Nat):Int):=(wao _ Zo).trans Zo;have hdn:hd<n:=Zo
   obtain⟨t0,t1,t2,t3⟩:=(hg3.out.below hT.out hg3l).cells;have hgr:=waa (hg3.out.below hT.out hg3l);have hgrl:=hgr.out.lt;have hcbt:=waa (hkg.out _ _ hbg hcbb.out);have hj0:(0:Int)<=(j:Int):=Zo
   have hj1:(j:Int)<(N:Int):=Zo
   have hB0:=waa ((wac wr.heap.size wr).alloc (wab _) (.cells #[.int .i64 a,.int .i64 b,.int .i64 d] 82));have hlm:=wak wr _ cx;clear hh hx hdE hvE;go_wp2_with (first
    |(go_at_call 99;go_loud (refine(hwo.out _).mono ?_;rintro e wA ⟨rfl,hBA⟩;have hBA:=waa (hB0.out.trans (hBA.mono hB0.out.size));obtain⟨u0,u1,u2,u3⟩:=(hgr.out.below hBA.out hgrl).cells;have hgA:=waa (hgr.out.below hBA.out hgrl);have hgAl:=hgA.out.lt;have hoA:=waa (qaf hoj.out hBA.out);have hcA:=waa ((hBA.out.cell (wak wr _ hcbt.out)).trans hcbt.out);have cxA:=waa ((hBA.out.cell hlm).trans cx);have hTA:=waa (hT.out.trans (hBA.out.mono hT.out.size));have hkA:=waa (hkg.out.below hBA.out)))
    |(go_at_call 133;go_loud (refine(hhj.out _).mono ?_;rintro e wB ⟨rfl,hBB⟩;have hgB:=waa (hgA.out.below hBB hgAl);have hgBl:=hgB.out.lt;have hoB:=waa (qaf hoA.out hBB);have hcB:=waa ((hBB.cell (wak wA _ hcA.out)).trans hcA.out);have cxB:=waa ((hBB.cell (wak wA _ cxA.out)).trans cxA.out);have hTB:=waa (hTA.out.trans (hBB.mono hTA.out.size));have hkB:=waa (hkA.out.below hBB);clear hBB))
    |(go_at_call 344;go_loud (refine(qi6 bt g n c hd (qce a b d) w3.heap.size _ _ hoB.out hcB.out hdn).mono ?_;rintro e wC ⟨rfl,hoC,hkC,hBC⟩;obtain⟨gb0,gb1,gb2,gb3⟩:=hgB.out.cells;have x0:=hkC _ _ hgb gb0;have x1:=hkC ⟨bg,1,none⟩ _ hgb gb1;have x2:=hkC ⟨bg,2,none⟩ _ hgb gb2;have x3:=hkC _ _ (by rw[qgy];exact hpmb) cxB.out;have x4:=waa (hkC _ _ hbg hcB.out);have hoC:=waa hoC;have hTC:=waa (hTB.out.trans hBC);have hkC:=waa (hkB.out.trans hkC);clear hBC gb0 gb1 gb2 gb3)))
   clear u0 u1 u2 u3 hgA hoA hcA cxA hTA hkA hgB hoB hcB cxB hTB hkB hBA hoj hkg hT c0 c1 c2 cx t0 t1 t2 t3 hgr;have y0:wC.drew.cell? ⟨bg,0,none⟩=some (.int .i64 s):=x0;have y1:wC.drew.cell? ⟨bg,1,none⟩=some (.int .i64 l):=x1;have y2:wC.drew.cell? ⟨bg,2,none⟩=some (.int .i64 r):=x2;have y3:wC.drew.cell? (pm.add j)=some (.int .u64 (x:Int)):=x3;have hl0:=wak wC _ x0;have hl3:=wak wC _ x3;have hl4:=wak wC _ x4.out;go_region_held3 (λU=>U.cell? ⟨bg,0,none⟩=some (.int .i64 s)/\U.cell? ⟨bg,1,none⟩=some (.int .i64 l)/\U.cell? ⟨bg,2,none⟩=some (.int .i64 r)/\U.cell? (pm.add j)=some (.int .u64 (x:Int)))
    (first|with_reducible exact⟨y0,y1,y2,y3⟩|with_reducible exact⟨z0,z1,z2,z3⟩|with_reducible exact⟨v0,v1,v2,v3⟩)
    (first
     |(go_at_call 133;refine(hhj.out _).mono ?_;rintro e wD ⟨rfl,hBD⟩;have hBWD:=(wac wC.heap.size wC).drew.trans (hBD.mono (wab _));have z0:=(hBWD.cell hl0).trans x0;have z1:=(hBWD.cell (p:=⟨bg,1,none⟩) hl0).trans x1;have z2:=(hBWD.cell (p:=⟨bg,2,none⟩) hl0).trans x2;have z3:=(hBWD.cell hl3).trans x3;have z4:=waa ((hBWD.cell hl4).trans x4.out);have hoD:=waa (qaf hoC.out hBWD))
     |(go_at_call 344;refine(qi6 bt g n c hv x w3.heap.size _ _ hoD.out z4.out hd1).mono ?_;rintro e wE ⟨rfl,hoE,hkE,hBE⟩;have v0:=hkE _ _ hgb z0;have v1:=hkE ⟨bg,1,none⟩ _ hgb z1;have v2:=hkE ⟨bg,2,none⟩ _ hgb z2;have v3:=hkE _ _ (by rw[qgy];exact hpmb) z3))
   all_goals
    go_wp2_with fail;go_roundg (N - (j+1))
    case measure=>omega
    case rel=>exact⟨j+1,by go_num,wab _,Zo,waa (by rw[hstep.out];exact hoE),waa ((hkC.out.below hBWD).trans hkE),waa ((hTC.out.trans (hBWD.mono hTC.out.size)).trans hBE)⟩
  ·obtain rfl:j=N:=Zo
   clear hwd hkm hhdw hmx hownb hTb;go_wp2_with fail;go_loopg [85] L.length (λk s85 wr=>∃i:Nat,s85= .int .i64 (i:Int)/\L.length - i<=k/\i<=L.length/\Hid (wr.ownsRow w3.heap.size 27 1 (.slice (some ⟨g,0,none⟩) n c) n (u64V (putO (putH l K M ws j) (L.take i))))/\Hid (KpG g wb wr)/\Hid (Below w3.heap.size w3 wr))
   case atStart=>exact⟨0,rfl,Zo,Zo,by rw[wdx];exact hoj,hkg,hT⟩
   case round=>
    clear hoj hkg hT;obtain⟨i,rfl,hki,hi,hoj,hkg,hT⟩:=hrel;by_cases hil:i<L.length
    ·obtain⟨q,o,rfl,ho,o0,o1,o2,o3,o4,o5,o6⟩:=(hL.out.below hT.out).at_ hil
     obtain⟨e1,e2,e3⟩:=hob2.out o (waq ho);have hstep:=waa (show putO (putH l K M ws j) (L.take (i+1))=(putO (putH l K M ws j) (L.take i)).set o.ad (obW o) from by rw[qfd ho,qpk]);obtain⟨ad,hadE⟩:∃ad,o.ad=ad:=⟨_,rfl⟩
     have hbw:=waa (show obW o=bW o.r o.s o.n from rfl);rw[hadE] at hstep e1 e2;obtain⟨oa,orr,os,on,osp,oix,owd⟩:=o;simp only at o0 o1 o2 o3 o4 o5 o6 e1 e3 hbw;have hwo:=waa (λV=>q3e orr os on V e3);subst e1;have hcbt:=waa (hkg.out _ _ hbg hcbb.out);have hi0:(0:Int)<=(i:Int):=Zo
     have hi1:(i:Int)<(L.length:Int):=Zo
     have hB0:=waa ((wac wr.heap.size wr).alloc (wab _) (.cells #[.int .i64 (ad:Int),.int .i64 orr,.int .i64 os,.int .i64 on,.int .i64 osp,.int .i64 oix,.int .i64 owd] 166));clear ho hadE e3;go_wp2_with (first
      |(go_at_call 284;go_loud (refine(hwo.out _).mono ?_;rintro e wA ⟨rfl,hBA⟩;have u0:wA.cell? ⟨wr.heap.size,0,none⟩=some (.int .i64 (ad:Int)):=(hBA.cell (p:=⟨wr.heap.size,0,none⟩) Zs).trans Zs;have hBA:=waa (hB0.out.trans (hBA.mono hB0.out.size));have hoA:=waa (qaf hoj.out hBA.out);have hcA:=waa ((hBA.out.cell (wak wr _ hcbt.out)).trans hcbt.out);have hTA:=waa (hT.out.trans (hBA.out.mono hT.out.size));have hkA:=waa (hkg.out.below hBA.out)))
      |(go_at_call 344;go_loud (refine(qi6 bt g n c ad (bW orr os on) w3.heap.size _ _ hoA.out hcA.out e2).mono ?_;rintro e wC ⟨rfl,hoC,hkC,hBC⟩;have hoC:=waa hoC;have hTC:=waa (hTA.out.trans hBC);have hkC:=waa (hkA.out.trans hkC);clear hBC)))
     go_roundg (L.length - (i+1))
     case measure=>omega
     case rel=>exact⟨i+1,by go_num,wab _,Zo,waa (by rw[hstep.out,hbw.out];exact hoC.out),hkC,hTC⟩
    ·obtain rfl:i=L.length:=Zo
     have hfin:=waa (show wr.ownsRow w.heap.size 27 1 (.slice (some ⟨g,0,none⟩) n c) n (u64V (putO (putH l K M ws j) L)) from by
      have:=qax hoj.out hB4.out.size
      rwa [wbz] at this)
     go_wp2_with fail;go_ret2;exact⟨⟨_,rfl,hfin.out⟩,hB4.out.trans (hT.out.mono hB4.out.size)⟩
end Go.Proofs.YtocncmbeinmiaaaGreat
namespace Go.Proofs.YtocncmbeinmiaaaGreat
open Go Go.RowKit Go.ChangeShapes Go.WideShapes Go.Deep
theorem qvi:Tryz.prog.cellsOf 27=1:=by kernel_rfl
section
variable {H:Type} {enc:TypeId×Value->H} {W:World} {held:Bool}
theorem qi4{r:Reach}{b0:Nat}{v:Value}{d:DataW H}{p:List MemPlace}(hv:Value.okWide Tryz.prog W r b0 40 v)(h:DataW.Trod enc Tryz.prog W 0 (λ_=>true) held 40 v d p):
  ∃(A:Option Addr) (n c:Nat) (l:List Nat),v= .slice A n c/\l.length=n/\n<=maxLen/\n<=c/\((A=none/\n=0/\c=0)\/∃q,A=some q)/\Rd W A n (u64V l)/\∀x∈l,x<18446744073709551616:=by
 obtain⟨fuel,hf⟩:=h;obtain⟨A,len,cap,rfl⟩:=okWide_slice wbi hv;rcases open_ints wbi wc6 qvi hf with ⟨hcs,_⟩|⟨a,l,c,zs,hcs,_,hl,hm,hz,_,hcell,hw⟩
 ·injection hcs with hcs
  injection hcs with h1 h2 h3;subst h1 h2 h3;exact⟨none,0,0,[],rfl,rfl,wau _,wab _,.inl ⟨rfl,rfl,rfl⟩,Rd.nil_ _ _,by simp⟩
 ·injection hcs with hcs
  injection hcs with h1 h2 h3;subst h1 h2 h3;obtain⟨l,hll,hlm,hr,hlw⟩:=qj1 (k:= .u64) (w:=W) (a:=some a) (len:=len) (cap:=cap) (zs:=zs) (.inr ⟨a,rfl,hl,hm,by simpa using hz,hcell,hw⟩);obtain⟨v,hvl,hvr,hvb⟩:=qvz hr hlw;exact⟨_,_,_,v,rfl,Zo,hlm,hl,.inr ⟨_,rfl⟩,hvr,hvb⟩
end
end Go.Proofs.YtocncmbeinmiaaaGreat
namespace Go.Proofs.YtocncmbeinmiaaaGreat
open Go Go.RowKit
theorem qqx(s l r:Int)(A:Option Addr)(cap:Nat)(ws:List Nat)(w:World)(hr:Rd w A ws.length (u64V ws))(hn:ws.length<=9223372036854775807)(hlt:∀y∈ws,y<18446744073709551616)(h:¬∃hs L,ToldL s l r ws hs L):
  Calls Tryz.prog 280 #[.agg #[.int .i64 s,.int .i64 l,.int .i64 r],.slice A ws.length cap] w λe w'=>e= .returned (.tuple #[.slice none 0 0,.int .i64 11])/\Below w.heap.size w w':=by
 cases hho:qa3 s l r ws with
 |none=>exact qvl s l r A cap ws w hr hn hlt hho
 |some hs=>
  refine(qlo s l r A cap ws hs w hr hn hlt hho).mono λe w' ⟨hE,hb⟩=>⟨?_,hb⟩
  rcases hE with ⟨L',v,g1,g2,-,-⟩|⟨-,g⟩
  ·exact absurd ⟨hs,L',hho,g1,g2⟩ h
  ·exact g
theorem q71{s:Nat}{ws:List Nat}{L:List (Int×Nat)}(h:qbh s ws=some L)(hw:∀b∈ws,b<18446744073709551616):∀e∈L,e.2<18446744073709551616:=by
 unfold qbh at h;split at h
 ·injection h with h;subst h;intro e he;cases he
 ·split at h
  ·injection h with h;subst h;exact qlv (λb hb=>hw b (wb0 hb))
  ·cases h
theorem q86{ws:List Nat}(hw:∀b∈ws,b<18446744073709551616)(t:Nat):∀e∈qak ws t,e.2<18446744073709551616:=by
 intro e he;unfold qak at he;cases hro:qbh (ws.getD (16+40*t) 0) ((ws.drop (24+40*t)).take 32) with
 |none=>rw[hro] at he;cases he
 |some L=>rw[hro] at he;exact q71 hro (λb hb=>hw b (wdo (wb0 hb))) e he
theorem q0s{o:List Nat}{i x:Nat}(ho:∀b∈o,b<18446744073709551616)(hx:x<18446744073709551616):∀b∈o.set i x,b<18446744073709551616:=λb hb=>by
 rcases wey hb with h|h
 ·exact ho b h
 ·rw[h];exact hx
theorem qaao{o:List Nat}{es:List (Int×Nat)}(ho:∀b∈o,b<18446744073709551616)(he:∀e∈es,e.2<18446744073709551616):∀b∈putE o es,b<18446744073709551616:=by
 induction es generalizing o with
 |nil=>exact ho
 |cons e r ih=>exact ih (o:=o.set e.1.toNat e.2) (q0s ho (he e (wfe ..))) (λx hx=>he x (wes _ hx))
theorem qg2{s l r:Int}{ws:List Nat}(hw:∀b∈ws,b<18446744073709551616):∀{t:Nat} {o:List Nat},repF s l r ws t=some o->∀b∈o,b<18446744073709551616
 |0,o,h=>by
  rw[repF] at h;injection h with h;subst h;exact hw
 |t+1,o,h=>by
  cases h1:repF s l r ws t with
  |none=>rw[repF,h1] at h;cases h
  |some o1=>
   cases h2:(qak ws t).all (λe=>qbj s l r e.1) with
   |false=>rw[qgz h2] at h;cases h
   |true=>
    rw[qdw h1 h2] at h;injection h with h;subst h;exact q0s (qaao (qg2 hw h1) (q86 hw t)) Zo
theorem StandR.facts{ws v:List Nat}(h:StandR ws v)(hlt:∀x∈ws,x<18446744073709551616):v.length=ws.length/\128<=ws.length/\ws.length<=1328/\∀x∈v,x<18446744073709551616:=by
 obtain⟨s,l,r,hs,L,hh,ht,rfl⟩:=h;have hb:=qaw ht.facts.1;exact⟨qs7 ..,Zo,Zo,qaa8 ht hlt⟩
theorem qg1{s l r:Int}{ws rr:List Nat}(hh:Hit ws s l r)(h:repF s l r ws l.toNat=some rr):rr.length=ws.length:=by
 have hf:fitB s l r ws.length=true:=fitB_iff.2 ⟨hh.1,hh.2.1⟩;have hb:=qaw hf;exact(qfv hf Zo h).1
section
variable (A:Option Addr) (cap:Nat) (ws:List Nat) (w:World) (hr:Rd w A ws.length (u64V ws)) (hlt:∀y∈ws,y<18446744073709551616)
include hr hlt
theorem qu7(v:List Nat)(hcap:ws.length<=cap)(h:StandR ws v):
  Calls Tryz.prog 212 #[.slice A ws.length cap] w λe w'=>(∃B d,e= .returned (.tuple #[.slice B ws.length d,.int .i64 0])/\ws.length<=d/\Rd w' B ws.length (u64V v))/\Below w.heap.size w w':=by
 obtain⟨s,l,r,hs,L,hh,ht,rfl⟩:=h;refine(q0m s l r A cap ws hs L w hr hcap hlt hh ht).mono λe w' ⟨⟨u,h1,h2⟩,hb⟩=>⟨?_,hb⟩
 obtain⟨B,d,rfl,h3,h4⟩:=qcz h2;exact⟨B,d,h1,h3,h4⟩
theorem q3i(hcap:ws.length<=cap)(hl:ws.length<=2000)(h:¬∃v,StandR ws v):
  Calls Tryz.prog 212 #[.slice A ws.length cap] w λe w'=>e= .returned (.tuple #[.slice none 0 0,.int .i64 11])/\Below w.heap.size w w':=by
 by_cases hh:∃s l r,Hit ws s l r
 ·obtain⟨s,l,r,hh⟩:=hh
  have hge:=waa (λV (hV:Below w.heap.size w V)=>(qec A cap ws V (hr.below hV) hcap Zo hlt).mono λe w' ⟨h1,h2⟩=>(⟨h1.is hh,h2⟩:e=Ending.returned (.tuple #[.agg #[.int .i64 s,.int .i64 l,.int .i64 r],.int .i64 0])/\Below V.heap.size V w'));have hre:=waa (λV (hV:Below w.heap.size w V)=>qqx s l r A cap ws V (hr.below hV) Zo hlt (λ⟨hs,L,ht⟩=>h ⟨_,s,l,r,hs,L,hh,ht,rfl⟩));clear hr hh h;go_enter Tryz.func212,Tryz.ntmps212;go_wp2_with (first
   |(go_at_call 53;go_loud (refine(hge.out _ (wac _ _)).mono ?_;rintro e w1 ⟨rfl,hB1⟩;have hg1:=Gm.new w1 s l r;have hB2:=waa (hB1.alloc hB1.size (.cells #[.int .i64 s,.int .i64 l,.int .i64 r] 23));obtain⟨k0,k1,k2,k3⟩:=hg1.cells;clear hB1))
   |(go_at_call 280;go_loud (refine(hre.out _ hB2.out).mono ?_;rintro e w3 ⟨rfl,hB3⟩;have hB4:=waa (hB2.out.trans (hB3.mono hB2.out.size));clear hB3)))
  go_ret2;exact⟨rfl,hB4.out⟩
 ·have hge:=waa (λV (hV:Below w.heap.size w V)=>(qec A cap ws V (hr.below hV) hcap Zo hlt).mono λe w' ⟨h1,h2⟩=>(⟨h1.no (λs l r k=>hh ⟨s,l,r,k⟩),h2⟩:e=Ending.returned (.tuple #[.agg #[.int .i64 0,.int .i64 0,.int .i64 0],.int .i64 11])/\Below V.heap.size V w'))
  clear hr hh h;go_enter Tryz.func212,Tryz.ntmps212;go_wp2_with (go_at_call 53;go_loud (refine(hge.out _ (wac _ _)).mono ?_;rintro e w1 ⟨rfl,hB1⟩;have hB2:=waa (hB1.alloc hB1.size (.cells #[.int .i64 0,.int .i64 0,.int .i64 0] 23));clear hB1))
  go_ret2;exact⟨rfl,hB2.out⟩
theorem qkl{s l r:Int}{rr:List Nat}(hcap:ws.length<=cap)(hh:Hit ws s l r)(hp:repF s l r ws l.toNat=some rr):
  Calls Tryz.prog 160 #[.slice A ws.length cap] w λe w'=>(∃B d,e= .returned (.tuple #[.slice B rr.length d,.int .i64 0])/\rr.length<=d/\Rd w' B rr.length (u64V rr))/\Below w.heap.size w w':=by
 refine(qjo s l r A cap ws w hr hcap hlt hh).mono λe w' ⟨h,hb⟩=>⟨?_,hb⟩
 rw[hp] at h;obtain⟨u,h1,h2⟩:=h;obtain⟨B,d,rfl,h3,h4⟩:=qcz h2;exact⟨B,d,h1,h3,h4⟩
theorem qsz(hcap:ws.length<=cap)(hl:ws.length<=2000)(h:¬∃s l r rr,Hit ws s l r/\repF s l r ws l.toNat=some rr):
  Calls Tryz.prog 160 #[.slice A ws.length cap] w λe w'=>e= .returned (.tuple #[.slice none 0 0,.int .i64 11])/\Below w.heap.size w w':=by
 refine(qql A cap ws w hr hcap Zo hlt).mono λe w' ⟨hE,hb⟩=>⟨?_,hb⟩
 rcases hE with ⟨s,l,r,hh,hE⟩|⟨-,hE⟩
 ·cases hp:repF s l r ws l.toNat with
  |none=>rw[hp] at hE;exact hE
  |some rr=>exact absurd ⟨s,l,r,rr,hh,hp⟩ h
 ·exact hE
end
end Go.Proofs.YtocncmbeinmiaaaGreat
namespace Go.Proofs.YtocncmbeinmiaaaGreat
open Go Go.RowKit Go.Shelf
attribute [local go_sem] wcy
theorem qs8{W w1:World}{B B':Nat}{C:Array Value}{t e:TypeId}{fr:Nat×Nat}(h:W.heap[B]? =some (.cells C t fr))(hte:t≠e){base size k:Nat}{v v':Value}{xs:List Value}{tmp:Obj}(hr:W.ownsRow base e size v k xs)(hgrow:(W.alloc tmp).grownBy w1 v.ownBlock)(hne:B≠B'):(w1.setCell ⟨B',0,none⟩ v').heap[B]? =some (.cells C t fr):=
 (wat _ _ _ _ hne).trans (qb1 h hte hr hgrow)
attribute [local go_sem] wcy
theorem q8z(A:Option Addr)(cap N:Nat)(ws v:List Nat)(w:World)(hr:Rd w A N (u64V ws))(hwl:ws.length=N)(hlt:∀y∈ws,y<18446744073709551616)(hcap:N<=cap)(h:StandR ws v):
  Calls Tryz.prog 161 #[.slice A N cap] w λe w'=>(∃u,e= .returned (.tuple #[u,.int .i64 0])/\w'.ownsRow w.heap.size 152 2 u (qba ws v N).length (eV (qba ws v N)))/\Below w.heap.size w w':=by
 obtain⟨f1,f2,f3,f4⟩:=h.facts hlt;obtain⟨i0,hi,hz0,hz1,hz2⟩:=info_parts qi5;have hsd:=qu7 A cap ws w (by rw[hwl];exact hr) hlt v Zo h;rw[hwl] at hsd f1 f3;have hsd:=waa hsd;have hrK:=waa (λ(V:World) (hV:Below w.heap.size w V)=>hr.below hV);clear h hlt hr;refine(callsIn_wide (n:=5)).1 ?_;refine callsIn_of_wp_marks Tryz.func161 rfl trivial ?_ rfl;simp only[Tryz.ntmps161,wbj,way,wbq,Nat.reduceAdd,Nat.reduceSub,wci,wcj,wck,wcl,wba,wcb];gi_wp2_with fail
 refine⟨trivial,(callsIn_wide.2 hsd.out).mono ?_⟩;rintro e w1 ⟨⟨B,d,rfl,hd,hT⟩,hB1⟩;have hF:=hrK.out _ hB1;have hT:=waa hT;have hF:=waa hF;have hx:Boxed (w1.alloc (.cells #[.slice none 0 0] 138)) w1.heap.size 138 (.slice none 0 0):=qan rfl _ _;have hB2:Below w1.heap.size w1 (w1.alloc (.cells #[.slice none 0 0] 138)):=(wac _ w1).alloc (wab _) _;have hs2:=waa (show(w1.alloc (.cells #[.slice none 0 0] 138)).heap.size=w1.heap.size+1 by simp);have hx:=waa hx;have hB2:=waa hB2;have hB1:=waa hB1;clear hsd hrK;gi_wp2_with fail
 generalize (w1.alloc (.cells #[.slice none 0 0] 138))=W2 at hx hB2 hs2 ⊢;refine⟨trivial,(callsIn_wide.2 (q10 A B N cap d W2)).mono ?_⟩;rintro e w3 ⟨rfl,hcp,hC,hs3⟩;have hx3:Boxed w3 w1.heap.size 138 (.slice none 0 0):=qao hx.out hC hx.out.lt;have hB3:Below w1.heap.size w1 w3:=hB2.out.trans (hC.mono hB2.out.size);have hs3':w3.heap.size=w1.heap.size+3:=by have:=hs2.out;omega
 have hs3:=waa hs3';have hs1:w1.heap.size<=w3.heap.size:=Zo
 clear hs3' hC;gi_wp2_with fail
 refine wpIn_rangeFunc_ownH rfl Zo (gf:=285) (lb:=#[.pointer (some ⟨W2.heap.size+1,0,none⟩),.pointer (some ⟨W2.heap.size,0,none⟩)]) rfl trivial (enters_of Tryz.func285 Zk rfl)
  (qup _ Zo (W2.heap.size+1) W2.heap.size B A d cap N ws v w1 w3 hF.out hT.out hwl f1 Zo hcp hB3) qabb (qabv hs1) (wac _ _) (λ_=>rfl)
  (λpre W=>(∃u,Boxed W w1.heap.size 138 u/\W.ownsRow w1.heap.size 152 2 u pre.length (eV pre)/\True)/\Below w1.heap.size w1 W)
  (λ_ _ _=>False)
  (OwnFrom.and (Own.from (holdsRow_own w1.heap.size w1.heap.size 138 152 2 (λpre=>pre.length) (λpre=>eV pre) (λpre v=>True)) _) (ownFrom_below (wab _) hs1))
  (λ_ _ _ _ _ hs _ _=>hs)
  ⟨⟨_,hx3,wa9 _ _ _ _,trivial⟩,hB3⟩
  (λx a' W=>∃Bx,En W Bx x.1 x.2/\a'={tmps:=#[.slice A N cap,undef,.slice none 0 0,.int .i64 0,.slice B N d,.int .i64 0,.pointer (some ⟨w1.heap.size,0,none⟩),.pointer (some ⟨Bx,0,none⟩),.tuple #[.slice B N d,.int .i64 0],.slice A N cap,.tuple #[.slice B N d,.int .i64 0],.slice B N d,.int .i64 0,.int .i64 0,.bool false,undef,.slice A N cap,.slice B N d,.func (.func 285) #[] #[.pointer (some ⟨W2.heap.size+1,0,none⟩),.pointer (some ⟨W2.heap.size,0,none⟩)],.agg #[.int .i64 x.1,.int .u64 (x.2:Int)],undef,undef,undef,undef,undef],defers:=[]})
  (λx a' _ X Y row hs hg hr=>by obtain⟨Bx,h2,h3⟩:=hs;exact⟨Bx,qe3 h2 hg (λr e=>(hr r e).2),h3⟩)
  ?assign ?body ?done ?stop
 case assign=>
  rintro l0 pre ⟨a,x⟩ W K ⟨⟨u,h1,h2,-⟩,h4⟩ hK;dsimp only[encE];gi_wp2_with fail
  exact hK _ _ ((KeepsOthers.alloc _ _).from _) (quo h4.size _) ⟨⟨u,qag h1 _,h2.alloc _,trivial⟩,h4.alloc h4.size _⟩ ⟨W.heap.size,En.new W a x,rfl⟩
 case body=>
  rintro l0 pre ⟨a,x⟩ a' W hl0 ⟨rr,hrr⟩ ⟨⟨u,hv,hrow,-⟩,hB⟩ ⟨Bx,hbx,rfl⟩ hlt;have hc:=hv.cell;obtain⟨x0,x1,xf⟩:=hbx.cells;dsimp only at x0 x1;gi_wp2_with (gi_at_builtin;refine wpListIn_append_own _ rfl _ _ 138 rfl w1.heap.size 152 i0 (.agg #[.int .i64 0,.int .u64 0]) 2 16 wgy hi hz0 hz1 hz2 rfl Zd _ _ _ rfl (hrow.alloc _) ⟨W.heap.size,0,none⟩ 1 1 [.int .i64 a,.int .u64 (x:Int)] rfl rfl (qb3 rfl _ rfl _) (by simp[Value.oneCell']) (by simp only[maxLen];omega) Zo (by have:=hB.size;simp;omega) ?_;intro v' w4 hown' hgrow _;obtain⟨g',cap',rfl⟩:=ownsRow_succ hown';obtain⟨hv1,hv2,hr2,hk2,hb2⟩:=hv.appended Zd hrow hB.size (wab _) hown' hgrow;have hc1:=hv1.cell;have hf1:=hv1.frozen)
  refine⟨hk2.from _,⟨λhx=>?_,hb2⟩,⟨_,hv2,by rw[qn8];simpa using hr2⟩,hB.trans hb2⟩;have hz:=hs2.out;exact⟨qs8 hx.1 Zd hrow hgrow Zo,qs8 hx.2 Zd hrow hgrow Zo⟩
 case done=>
  rintro D ys W hD rfl ⟨⟨u,hv,hrow,-⟩,hB⟩ hK;have hc:=hv.cell;have hrow2:=ownsRow_putObj hrow (.deferred none) hK rfl;obtain⟨B',d',rfl,-⟩:=EsRd.of_own hrow2;have hfin:=waa (hB1.out.trans ((hB.trans (belowK_b (w:=w1) (wab _) W D _ (.deferred none) Zo hK rfl rfl)).mono hB1.out.size));have hE:=waa (qax hrow2 hB1.out.size);gi_wp2_with fail
  refine⟨by simp,.inl ⟨_,_,rfl,run_takeDeferred hK,?_⟩⟩;exact⟨.tuple #[.slice B' (qba ws v N).length d',.int .i64 0],by simp[results,Tryz.f161,go_sem],⟨_,rfl,hE.out⟩,hfin.out⟩
 case stop=>
  rintro D c pre W _ _ h _;exact h.elim
end Go.Proofs.YtocncmbeinmiaaaGreat
