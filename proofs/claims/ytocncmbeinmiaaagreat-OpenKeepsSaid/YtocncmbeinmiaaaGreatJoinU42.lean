/- Parts. No condition. -/
import Derived.Test.YtocncmbeinmiaaaGreatJoinU41
set_option linter.unusedVariables false
set_option maxRecDepth 100000
set_option maxHeartbeats 8000000
namespace Go.Proofs.YtocncmbeinmiaaaGreat
open Go Go.RowKit
theorem qhp{W:World}{base g n cap a:Nat}{ws:List Nat}(h:W.ownsRow base 27 1 (.slice (some ⟨g,0,none⟩) n cap) n (u64V ws))(ha:a<n):(∃cx,W.cell? ⟨g,a,none⟩=some cx)/\W.frozen? ⟨g,a,none⟩=false:=by
 have h0:=h.1;rw[qai] at h0;have h1:=h.cellAt a Zo;rw[show(u64V ws)[a]? =some (.int .u64 ((ws[a]:Nat):Int)) from by simp[u64V,h0,ha]] at h1;exact⟨⟨_,h1⟩,h.frozenAt a⟩
theorem ql8{W:World}{base g n cap:Nat}{ws:List Nat}(h:W.ownsRow base 27 1 (.slice (some ⟨g,0,none⟩) n cap) n (u64V ws))(a x:Nat):(W.setCell ⟨g,a,none⟩ (.int .u64 (x:Int))).ownsRow base 27 1 (.slice (some ⟨g,0,none⟩) n cap) n (u64V (ws.set a x)):=by
 have h1:=(h.stored a (.int .u64 (x:Int))).1;rwa [qfw] at h1
theorem qvp(s l r:Int)(A:Option Addr)(cap:Nat)(ws:List Nat)(hs:List HD)(L:List LV)(w:World)(hr:Rd w A ws.length (u64V ws))(hlt:∀y∈ws,y<18446744073709551616)(hh:Hit ws s l r)(hto:ToldL s l r ws hs L):
  Calls Tryz.prog 42 #[.slice A ws.length cap] w λe w'=>(∃v,e= .returned (.tuple #[v,.bool true])/\w'.ownsRow w.heap.size 27 1 v ws.length (u64V (qck s l ws hs L)))/\Below w.heap.size w w':=by
 obtain⟨hf,hhl,hd,hnd,hob⟩:=hto.facts;have hbd:=qaw hf;have hmay:=hh.1;obtain⟨p,rfl,-⟩:=qa6 hr (show ws[0]? =some _ from waj Zo);obtain⟨n,hn⟩:∃n,ws.length=n:=⟨_,rfl⟩
 have hLl:=qp9 hto.2.1;have hin:=qmh hto.2.1;have hst:=qu0 hto.2.1;have hge:=waa ((qea (some p) cap ws w hr Zo).mono λe w' ⟨h1,h2⟩=>(⟨h1.is hh,h2⟩:e=Ending.returned (.tuple #[.agg #[.int .i64 s,.int .i64 l,.int .i64 r],.bool true])/\Below w.heap.size w w'));have hre:=waa (λV (hV:Below w.heap.size w V)=>qu3 s l r (some p) cap ws V (hr.below hV) Zo hlt hto);have hhd:=waa (λ(V:World) (hV:Below w.heap.size w V)=>show Calls Tryz.prog 57 #[.agg #[.int .i64 s,.int .i64 l,.int .i64 r],.slice (some p) ws.length cap] V λe w'=>(∃HA hcap,e= .returned (.tuple #[.slice HA hs.length hcap,.bool true])/\HdsRd w' HA hs.length hs)/\Below V.heap.size V w' from by
  refine(qe0 s l r (some p) cap ws _ (hr.below hV) Zo hlt).mono λe w' ⟨h1,h2⟩=>⟨?_,h2⟩
  rw[hto.1] at h1;obtain⟨v,rfl,ho⟩:=h1;obtain⟨HA,hc,rfl,hH⟩:=HdsRd.of_own ho;exact⟨HA,hc,rfl,hH⟩)
 have hmp:=waa (λ(LA:Option Addr) (lc:Nat) (V:World) (hL:LsRd V LA L.length L)=>show Calls Tryz.prog 80 #[.agg #[.int .i64 s,.int .i64 l,.int .i64 r],.slice LA L.length lc] V λe w'=>(∃KA kc,e= .returned (.slice KA (mapF s L).length kc)/\Rd w' KA (mapF s L).length (u64V (mapF s L))/\∀q,KA=some q->V.heap.size<=q.block)/\Below V.heap.size V w' from by
  refine(q24 s l r LA lc L V hmay hL Zo hin).mono λe w' ⟨v,g1,g2,g3⟩=>⟨?_,g3⟩
  obtain⟨KA,kc,rfl,g4⟩:=Rd.of_own g2;exact⟨KA,kc,g1,g4,λq hq=>by subst hq;exact qd5 g2⟩)
 have hkp:=waa (λ(HA:Option Addr) (hcap:Nat) (LA:Option Addr) (lc:Nat) (V:World) (hH:HdsRd V HA hs.length hs) (hL:LsRd V LA L.length L)=>show Calls Tryz.prog 79 #[.slice HA hs.length hcap,.slice LA L.length lc] V λe w'=>(∃KA kc,e= .returned (.slice KA hs.length kc)/\HdsRd w' KA hs.length (qbt hs L hs.length)/\∀q,KA=some q->V.heap.size<=q.block)/\Below V.heap.size V w' from by
  refine(qzm HA hcap hs LA lc L V hH Zo hL hLl (λo ho=>by
   obtain⟨q1,q2,q3,q4⟩:=hst o ho;exact⟨q1,q2,q3,λt ht=>by have:=q4 t ht;omega⟩)).mono λe w' ⟨v,g1,g2,g3⟩=>⟨?_,g3⟩
  rw[qdu] at g2;obtain⟨KA,kc,rfl,g4⟩:=HdsRd.of_own g2;exact⟨KA,kc,g1,g4,λq hq=>by subst hq;exact qd5 g2⟩)
 have hhdw:=waa (λ(j:Nat) (hj:(j:Int)<s) (V:World)=>show Calls Tryz.prog 82 #[.agg #[.int .i64 s,.int .i64 l,.int .i64 r],.int .i64 (j:Int)] V λe w'=>e= .returned (.int .i64 ((hdAt l j:Nat):Int))/\Below V.heap.size V w' from by
  have:=qki s l r (j:Int) V
  rw[show headN s l r (j:Int)=((hdAt l j:Nat):Int) from(if_pos ⟨hmay,Zo,hj⟩).trans (by unfold hdAt;omega)] at this;exact this)
 have hwd:=waa (show ∀j:Nat,(j:Int)<s->hdAt l j+1<n/\hdAt l j<=2000 from λj hj=>by unfold hdAt;omega);have hkm:=waa (show ∀(j:Nat) (a b c:Int),(qbt hs L hs.length)[j]? =some (a,b,c)->j<hs.length->qav a b c=true from λj a b c hj hl=>by
  have:=qjm (L:=L) hd hl
  rw[hj,wa8] at this;exact this)
 have hob2:=waa (show ∀o∈L,o.a=(o.ad:Int)/\o.ad<n/\qbs o.r o.s o.n=true from λo ho=>by
  have h1:=hob o ho;have h2:=hto.may o ho;exact⟨h1.1,Zo,h2⟩)
 have hml:(mapF s L).length=hs.length:=by rw[qe4,hhl]
 have hkl:=qdu hs L hs.length;unfold qck;rw[<-hhl];generalize qbt hs L hs.length=K at hkp hkm hkl ⊢;rw[hml] at hmp;generalize mapF s L=M at hmp hml ⊢;obtain⟨N,hN⟩:∃N,hs.length=N:=⟨_,rfl⟩
 rw[hN] at hhd hmp hkp hkm hkl hml ⊢;have hrK:=waa (λ(V:World) (hV:Below w.heap.size w V)=>hr.below hV);rw[hn] at hge hre hhd hrK ⊢;have hAk:=keep (show(some p=none/\n=0/\cap=0)\/∃q,some p=some q from .inr ⟨p,rfl⟩);have hrow:=waa (λ(W:World)=>wcq (base:=W.heap.size) (e:=27) (size:=1) W #[] 0 (wab _) Zd rfl);obtain⟨sn,rfl⟩:∃sn:Nat,s=(sn:Int):=waz Zo;obtain rfl:sn=N:=Zo
 have hn2:0<n/\n<=2000:=Zo
 have hNl:sn<=16:=Zo
 clear hr hlt hh hto hf hhl hd hnd hob hbd hmay hin hst hN;go_enter Tryz.func42,Tryz.ntmps42;go_wp2_with (first
  |(go_at_call 56;go_loud (refine hge.out.mono ?_;rintro e w1 ⟨rfl,hB1⟩;have hg1:=Gm.new w1 (sn:Int) l r;have hB2:=waa (hB1.alloc hB1.size (.cells #[.int .i64 (sn:Int),.int .i64 l,.int .i64 r] 23));obtain⟨k0,k1,k2,k3⟩:=hg1.cells;have hgl1:=hg1.lt;have hg1:=waa hg1;clear hB1))
  |(go_at_call 78;go_loud (refine(hre.out _ hB2.out).mono ?_;rintro e w3 ⟨⟨LA,lc,rfl,hL⟩,hB3⟩;have hg3:=waa (hg1.out.below hB3 hgl1);have hg3l:=hg3.out.lt;have hL:=waa hL;have hB4:=waa (hB2.out.trans (hB3.mono hB2.out.size));have hrd:=waa (hrK.out _ (hB4.out.alloc hB4.out.size (.cells #[] 27)));have hrr:=waa (hrow.out w3);clear hB3))
  |(at_builtin;go_loud (refine qjq rfl _ _ rfl w3.heap.size _ rfl hrr.out (some p) _ cap ws rfl hn hAk hrd.out Zo Zs ?_;intro v' w5 hown hC;obtain⟨g,c,rfl,hgb,hg2⟩:=hown.form Zo;have hT5:=waa ((qb8 w3 (.cells #[] 27)).trans hC);obtain⟨n0,n1,n2,n3⟩:=(hg3.out.below hT5.out hg3l).cells;have hg5:=waa (hg3.out.below hT5.out hg3l);have hg5l:=hg5.out.lt;have hL5:=waa (hL.out.below hT5.out);have hB6:=waa (hB4.out.trans (hT5.out.mono hB4.out.size));have hglt:=(hown.lt g rfl).2;have hgge:=(hown.lt g rfl).1;have hown:=waa hown;clear hC))
  |(go_at_call 57;go_loud (refine(hhd.out _ hB6.out).mono ?_;rintro e w7 ⟨⟨HA,hcap,rfl,hH⟩,hB7⟩;obtain⟨o0,o1,o2,o3⟩:=(hg5.out.below hB7 hg5l).cells;have hg7:=waa (hg5.out.below hB7 hg5l);have hg7l:=hg7.out.lt;have hL7:=waa (hL5.out.below hB7);have hT7:=waa (hT5.out.trans (hB7.mono hT5.out.size));have hown7:=waa (qaf hown.out hB7);have hH:=waa hH;have hg7lt:g<w7.heap.size:=(by have:=hB7.size;omega);clear hB7)))
 have hgb2:w1.heap.size≠g:=by have:=hgl1;have:=hg3l;omega
 clear hge hre hhd hg1 hg5 hL5 hown hT5 hB2 hB6 k0 k1 k2 k3 n0 n1 n2 n3 hrr hrd hrow hrK hAk;generalize w1.heap.size=bg at hg3 hg3l hgb2 hg7 hg7l o0 o1 o2 o3 ⊢;go_cut [11,12] from 39 to 44 (λs11 s12 wx=>∃KA kc MA mc,s11= .slice KA sn kc/\s12= .slice MA sn mc/\Hid (HdsRd wx KA sn K)/\Hid (∀q,KA=some q->q.block≠g)/\Hid (Rd wx MA sn (u64V M))/\Hid (∀q,MA=some q->q.block≠g)/\Hid (Below w7.heap.size w7 wx))
 case first=>
  have x0:w7.drew.cell? ⟨bg,0,none⟩=some (.int .i64 (sn:Int)):=o0;have x1:w7.drew.cell? ⟨bg,1,none⟩=some (.int .i64 l):=o1;have x2:w7.drew.cell? ⟨bg,2,none⟩=some (.int .i64 r):=o2;have hD7:=(wac w7.heap.size w7).drew;clear hown7 hT7 hB4 hg3;go_region_held3 (λV=>V.cell? ⟨bg,0,none⟩=some (.int .i64 (sn:Int))/\V.cell? ⟨bg,1,none⟩=some (.int .i64 l)/\V.cell? ⟨bg,2,none⟩=some (.int .i64 r))
   (first|with_reducible exact⟨x0,x1,x2⟩|with_reducible exact⟨y0,y1,y2⟩|with_reducible exact⟨z0,z1,z2⟩|go_keep)
   (first
    |(go_at_call 80;refine(hmp.out _ _ _ (by first|exact hL7.out|exact hLa.out)).mono ?_;rintro e wb ⟨⟨MA,mc,rfl,hMb,hMn⟩,hBb⟩;first
      |(have hBz:Below w7.heap.size w7 wb:=hBa.trans (hBb.mono hBa.size);have hKz:=waa (hKa.out.below hBb);have hMz:=waa hMb;have hMn:=waa (show ∀q,MA=some q->q.block≠g from λq hq=>(by have:=hMn q hq;have:=hBa.size;omega));obtain⟨z0,z1,z2,z3⟩:=(hg7.out.below hBz hg7l).cells)
      |(have hBm:Below w7.heap.size w7 wb:=hD7.trans (hBb.mono (wab _));have hMa:=waa hMb;have hMn:=waa (show ∀q,MA=some q->q.block≠g from λq hq=>(by have:=hMn q hq;have:w7.drew.heap.size=w7.heap.size:=rfl;omega));have hLm:=waa (hL7.out.below hBm);have hHm:=waa (hH.out.below hBm);obtain⟨y0,y1,y2,y3⟩:=(hg7.out.below hBm hg7l).cells))
    |(go_at_call 79;refine(hkp.out _ _ _ _ _ (by first|exact hHm.out|exact hH.out) (by first|exact hLm.out|exact hL7.out)).mono ?_;rintro e wa ⟨⟨KA,kc,rfl,hKb,hKn⟩,hBc⟩;first
      |(have hBz:Below w7.heap.size w7 wa:=hBm.trans (hBc.mono hBm.size);have hMz:=waa (hMa.out.below hBc);have hKz:=waa hKb;have hKn:=waa (show ∀q,KA=some q->q.block≠g from λq hq=>(by have:=hKn q hq;have:=hBm.size;omega));obtain⟨z0,z1,z2,z3⟩:=(hg7.out.below hBz hg7l).cells)
      |(have hBa:Below w7.heap.size w7 wa:=hD7.trans (hBc.mono (wab _));have hKa:=waa hKb;have hKn:=waa (show ∀q,KA=some q->q.block≠g from λq hq=>(by have:=hKn q hq;have:w7.drew.heap.size=w7.heap.size:=rfl;omega));have hLa:=waa (hL7.out.below hBa);obtain⟨y0,y1,y2,y3⟩:=(hg7.out.below hBa hg7l).cells)))
  all_goals
   go_wp2_with fail;go_meet
   case rel=>exact⟨_,_,_,_,rfl,rfl,hKz,hKn,hMz,hMn,waa hBz⟩
 case rest=>
  obtain⟨KA,kc,MA,mc,rfl,rfl,hK,hKb,hMr,hMb,hC⟩:=hcut;have hTb:=waa (hT7.out.trans (hC.out.mono hT7.out.size));have hownb:=waa (qaf hown7.out hC.out);clear hT7 hown7 hC hH hL7 hg7 hmp hkp o0 o1 o2 o3;generalize wc=wb at hK hMr hTb hownb ⊢;go_wp2_with fail;go_loopg [13] sn (λk s13 wr=>∃j:Nat,s13= .int .i64 (j:Int)/\sn - j<=k/\j<=sn/\Hid (wr.ownsRow w3.heap.size 27 1 (.slice (some ⟨g,0,none⟩) n c) n (u64V (putH l K M ws j)))/\Hid (KpG g wb wr)/\Hid (Below w3.heap.size w3 wr))
  case atStart=>exact⟨0,rfl,Zo,Zo,hownb,waa (KpG.refl _ _),hTb⟩
  case round=>
   obtain⟨j,rfl,hkj,hj,hoj,hkg,hT⟩:=hrel;obtain⟨t0,t1,t2,t3⟩:=(hg3.out.below hT.out hg3l).cells;by_cases hjl:j<sn
   ·obtain⟨pk,a,b,d,rfl,hh,c0,c1,c2⟩:=qku (hK.out.keepG hKb.out hkg.out) hjl
    obtain⟨x,hx⟩:∃x,M[j]? =some x:=⟨_,waj Zo⟩
    obtain⟨pm,rfl,cx⟩:=qa6 (hMr.out.keepG hMb.out hkg.out) hx;have hpmb:=hMb.out pm rfl;have hpkb:=hKb.out pk rfl;have hpm2:(pm.add j).block≠g:=by rw[qgy];exact hpmb
    have hpk2:(pk.add (j*3)).block≠g:=by rw[qgy];exact hpkb
    have hstep:=waa (qpz (l:=l) (ws:=ws) hh hx);have hwo:=waa (λV=>qm0 a b d V (hkm.out j a b d hh hjl));obtain⟨hd1,hd2⟩:=hwd.out j Zo;have hhj:=waa (λV=>hhdw.out j Zo V);obtain⟨hd,hdE⟩:∃hd,hdAt l j=hd:=⟨_,rfl⟩
    rw[hdE] at hstep hhj hd1 hd2;obtain⟨hv,hvE⟩:∃hv,hd+1=hv:=⟨_,rfl⟩
    rw[hvE] at hstep hd1;have e1:IntKind.i64.wrap ((hd:Int)+1)=((hv:Nat):Int):=(wao _ Zo).trans Zo;have hdn:hd<n:=Zo
    have hj0:(0:Int)<=(j:Int):=Zo
    have hj1:(j:Int)<(sn:Int):=Zo
    have q0:(0:Int)<=(hd:Int):=Zo
    have q1:(hd:Int)<(n:Int):=Zo
    have q2:(0:Int)<=(hv:Int):=Zo
    have q3:(hv:Int)<(n:Int):=Zo
    have hgr:=waa (hg3.out.below hT.out hg3l);have hgrl:=hgr.out.lt;have hlk:=wak wr _ c0;have hlm:=wak wr _ cx;have hD0:=(wac wr.heap.size wr).drew;have x0:wr.drew.cell? ⟨bg,0,none⟩=some (.int .i64 (sn:Int)):=t0;have x1:wr.drew.cell? ⟨bg,1,none⟩=some (.int .i64 l):=t1;have x2:wr.drew.cell? ⟨bg,2,none⟩=some (.int .i64 r):=t2;have x3:wr.drew.cell? (pk.add (j*3))=some (.int .i64 a):=c0;have x4:wr.drew.cell? ⟨(pk.add (j*3)).block,(pk.add (j*3)).off+1,none⟩=some (.int .i64 b):=c1;have x5:wr.drew.cell? ⟨(pk.add (j*3)).block,(pk.add (j*3)).off+2,none⟩=some (.int .i64 d):=c2;clear hh hx hdE hvE;go_wp2_with fail;go_region_held3 (λU=>U.cell? ⟨bg,0,none⟩=some (.int .i64 (sn:Int))/\U.cell? ⟨bg,1,none⟩=some (.int .i64 l)/\U.cell? ⟨bg,2,none⟩=some (.int .i64 r)/\U.cell? (pk.add (j*3))=some (.int .i64 a)/\U.cell? ⟨(pk.add (j*3)).block,(pk.add (j*3)).off+1,none⟩=some (.int .i64 b)/\U.cell? ⟨(pk.add (j*3)).block,(pk.add (j*3)).off+2,none⟩=some (.int .i64 d))
     (first|with_reducible exact⟨x0,x1,x2,x3,x4,x5⟩|with_reducible exact⟨y0,y1,y2,y3,y4,y5⟩|with_reducible exact⟨z0,z1,z2,z3,z4,z5⟩|with_reducible exact⟨qaq z0 hgb2,qaq z1 hgb2,qaq z2 hgb2,qaq z3 hpk2,qaq z4 hpk2,qaq z5 hpk2⟩)
     (first
      |(go_at_call 82;refine(hhj.out _).mono ?_;first
        |(rintro e wz ⟨rfl,hBf2⟩;have hBz:=hBf.trans (hBf2.mono hBf.size);obtain⟨z0,z1,z2,zf⟩:=(hgr.out.below hBz hgrl).cells;have z3:=(hBz.cell hlk).trans c0;have z4:=(hBz.cell (p:=⟨(pk.add (j*3)).block,(pk.add (j*3)).off+1,none⟩) hlk).trans c1;have z5:=(hBz.cell (p:=⟨(pk.add (j*3)).block,(pk.add (j*3)).off+2,none⟩) hlk).trans c2;have hoz:=waa (qaf hoj.out hBz);obtain⟨⟨ux,hux⟩,hfz⟩:=qhp hoz.out hdn)
        |(rintro e wf ⟨rfl,hBf⟩;have hBf:=hD0.trans (hBf.mono (wab _));obtain⟨y0,y1,y2,yf⟩:=(hgr.out.below hBf hgrl).cells;have y3:=(hBf.cell hlk).trans c0;have y4:=(hBf.cell (p:=⟨(pk.add (j*3)).block,(pk.add (j*3)).off+1,none⟩) hlk).trans c1;have y5:=(hBf.cell (p:=⟨(pk.add (j*3)).block,(pk.add (j*3)).off+2,none⟩) hlk).trans c2))
      |(go_at_call 81;refine(hwo.out _).mono ?_;first
        |(rintro e wz ⟨rfl,hBf2⟩;have hBz:=hBf.trans (hBf2.mono hBf.size);obtain⟨z0,z1,z2,zf⟩:=(hgr.out.below hBz hgrl).cells;have z3:=(hBz.cell hlk).trans c0;have z4:=(hBz.cell (p:=⟨(pk.add (j*3)).block,(pk.add (j*3)).off+1,none⟩) hlk).trans c1;have z5:=(hBz.cell (p:=⟨(pk.add (j*3)).block,(pk.add (j*3)).off+2,none⟩) hlk).trans c2;have hoz:=waa (qaf hoj.out hBz);obtain⟨⟨ux,hux⟩,hfz⟩:=qhp hoz.out hdn)
        |(rintro e wf ⟨rfl,hBf⟩;have hBf:=hD0.trans (hBf.mono (wab _));obtain⟨y0,y1,y2,yf⟩:=(hgr.out.below hBf hgrl).cells;have y3:=(hBf.cell hlk).trans c0;have y4:=(hBf.cell (p:=⟨(pk.add (j*3)).block,(pk.add (j*3)).off+1,none⟩) hlk).trans c1;have y5:=(hBf.cell (p:=⟨(pk.add (j*3)).block,(pk.add (j*3)).off+2,none⟩) hlk).trans c2)))
    all_goals
     have hoC:=waa (ql8 hoz.out hd (qce a b d));have hTC:=waa ((hT.out.trans (hBz.mono hT.out.size)).setCell (p:=⟨g,hd,none⟩) hgge (.int .u64 ((qce a b d:Nat):Int)));have hkC:=waa ((hkg.out.below hBz).set hd (.int .u64 ((qce a b d:Nat):Int)));have c3:=qaq (o:=hd) (u:= .int .u64 ((qce a b d:Nat):Int)) ((hBz.cell hlm).trans cx) hpm2;clear x0 x1 x2 x3 x4 x5 y0 y1 y2 y3 y4 y5 z0 z1 z2 z3 z4 z5 zf yf hux hfz hoz hoj hkg hT c0 c1 c2 cx t0 t1 t2 t3 hgr hgrl hBf hBz hBf2;generalize wz.setCell ⟨g,hd,none⟩ (.int .u64 ((qce a b d:Nat):Int))=wC at hoC hTC hkC c3 ⊢;obtain⟨t0,t1,t2,t3⟩:=(hg3.out.below hTC.out hg3l).cells;have hgr:=waa (hg3.out.below hTC.out hg3l);have hgrl:=hgr.out.lt;have hlm:=wak wC _ c3;have hD0:=(wac wC.heap.size wC).drew;have x0:wC.drew.cell? ⟨bg,0,none⟩=some (.int .i64 (sn:Int)):=t0;have x1:wC.drew.cell? ⟨bg,1,none⟩=some (.int .i64 l):=t1;have x2:wC.drew.cell? ⟨bg,2,none⟩=some (.int .i64 r):=t2;have x3:wC.drew.cell? (pm.add j)=some (.int .u64 (x:Int)):=c3;go_wp2_with fail;go_region_held3 (λU=>U.cell? ⟨bg,0,none⟩=some (.int .i64 (sn:Int))/\U.cell? ⟨bg,1,none⟩=some (.int .i64 l)/\U.cell? ⟨bg,2,none⟩=some (.int .i64 r)/\U.cell? (pm.add j)=some (.int .u64 (x:Int)))
      (first|with_reducible exact⟨x0,x1,x2,x3⟩|with_reducible exact⟨z0,z1,z2,z3⟩|with_reducible exact⟨qaq z0 hgb2,qaq z1 hgb2,qaq z2 hgb2,qaq z3 hpm2⟩)
      ((go_at_call 82;refine(hhj.out _).mono ?_;rintro e wz ⟨rfl,hBz⟩;have hBz:=hD0.trans (hBz.mono (wab _));obtain⟨z0,z1,z2,zf⟩:=(hgr.out.below hBz hgrl).cells;have z3:=(hBz.cell hlm).trans c3;have hoz:=waa (qaf hoC.out hBz);obtain⟨⟨ux,hux⟩,hfz⟩:=qhp hoz.out hd1))
     all_goals
      have hoE:=waa (ql8 hoz.out hv x);have hTE:=waa ((hTC.out.trans (hBz.mono hTC.out.size)).setCell (p:=⟨g,hv,none⟩) hgge (.int .u64 (x:Int)));have hkE:=waa ((hkC.out.below hBz).set hv (.int .u64 (x:Int)));go_wp2_with fail;go_roundg (sn - (j+1))
      case measure=>omega
      case rel=>exact⟨j+1,by go_num,wab _,Zo,waa (by rw[hstep.out];exact hoE.out),hkE,hTE⟩
   ·obtain rfl:j=sn:=Zo
    clear hwd hkm hhdw hownb hTb;go_wp2_with fail;go_loopg [14] L.length (λk s14 wr=>∃i:Nat,s14= .int .i64 (i:Int)/\L.length - i<=k/\i<=L.length/\Hid (wr.ownsRow w3.heap.size 27 1 (.slice (some ⟨g,0,none⟩) n c) n (u64V (putO (putH l K M ws j) (L.take i))))/\Hid (Below w3.heap.size w3 wr))
    case atStart=>exact⟨0,rfl,Zo,Zo,by rw[wdx];exact hoj,hT⟩
    case round=>
     clear hoj hkg hT t0 t1 t2 t3;obtain⟨i,rfl,hki,hi,hoj,hT⟩:=hrel;by_cases hil:i<L.length
     ·obtain⟨q,o,rfl,ho,o0,o1,o2,o3,o4,o5,o6⟩:=(hL.out.below hT.out).at_ hil
      have hqg:(q.add (i*7)).block≠g:=by
       obtain⟨q',o',hq',ho',o0',-⟩:=hL.out.at_ hil;obtain rfl:q=q':=by injection hq'
       have:=wak w3 _ o0'
       omega
      obtain⟨e1,e2,e3⟩:=hob2.out o (waq ho);have hstep:=waa (show putO (putH l K M ws j) (L.take (i+1))=(putO (putH l K M ws j) (L.take i)).set o.ad (obW o) from by rw[qfd ho,qpk]);obtain⟨ad,hadE⟩:∃ad,o.ad=ad:=⟨_,rfl⟩
      have hbw:=waa (show obW o=bW o.r o.s o.n from rfl);rw[hadE] at hstep e1 e2;obtain⟨oa,orr,os,on,osp,oix,owd⟩:=o;simp only at o0 o1 o2 o3 o4 o5 o6 e1 e3 hbw;have hwo:=waa (λV=>qmx orr os on V e3);subst e1;have hi0:(0:Int)<=(i:Int):=Zo
      have hi1:(i:Int)<(L.length:Int):=Zo
      have q0:(0:Int)<=(ad:Int):=Zo
      have q1:(ad:Int)<(n:Int):=Zo
      have hlq:=wak wr _ o0;have hD0:=(wac wr.heap.size wr).drew;have x0:wr.drew.cell? (q.add (i*7))=some (.int .i64 (ad:Int)):=o0;have x1:wr.drew.cell? ⟨(q.add (i*7)).block,(q.add (i*7)).off+1,none⟩=some (.int .i64 orr):=o1;have x2:wr.drew.cell? ⟨(q.add (i*7)).block,(q.add (i*7)).off+2,none⟩=some (.int .i64 os):=o2;have x3:wr.drew.cell? ⟨(q.add (i*7)).block,(q.add (i*7)).off+3,none⟩=some (.int .i64 on):=o3;clear ho hadE e3;go_wp2_with fail;go_region_held3 (λU=>U.cell? (q.add (i*7))=some (.int .i64 (ad:Int))/\U.cell? ⟨(q.add (i*7)).block,(q.add (i*7)).off+1,none⟩=some (.int .i64 orr)/\U.cell? ⟨(q.add (i*7)).block,(q.add (i*7)).off+2,none⟩=some (.int .i64 os)/\U.cell? ⟨(q.add (i*7)).block,(q.add (i*7)).off+3,none⟩=some (.int .i64 on))
       (first|with_reducible exact⟨x0,x1,x2,x3⟩|with_reducible exact⟨z0,z1,z2,z3⟩|with_reducible exact⟨qaq z0 hqg,qaq z1 hqg,qaq z2 hqg,qaq z3 hqg⟩)
       ((go_at_call 83;refine(hwo.out _).mono ?_;rintro e wz ⟨rfl,hBz⟩;have hBz:=hD0.trans (hBz.mono (wab _));have z0:=(hBz.cell hlq).trans o0;have z1:=(hBz.cell (p:=⟨(q.add (i*7)).block,(q.add (i*7)).off+1,none⟩) hlq).trans o1;have z2:=(hBz.cell (p:=⟨(q.add (i*7)).block,(q.add (i*7)).off+2,none⟩) hlq).trans o2;have z3:=(hBz.cell (p:=⟨(q.add (i*7)).block,(q.add (i*7)).off+3,none⟩) hlq).trans o3;have hoz:=waa (qaf hoj.out hBz);obtain⟨⟨ux,hux⟩,hfz⟩:=qhp hoz.out e2))
      all_goals
       have hoE:=waa (ql8 hoz.out ad (bW orr os on));have hTE:=waa ((hT.out.trans (hBz.mono hT.out.size)).setCell (p:=⟨g,ad,none⟩) hgge (.int .u64 ((bW orr os on:Nat):Int)));go_wp2_with fail;go_roundg (L.length - (i+1))
       case measure=>omega
       case rel=>exact⟨i+1,by go_num,wab _,Zo,waa (by rw[hstep.out,hbw.out];exact hoE.out),hTE⟩
     ·obtain rfl:i=L.length:=Zo
      have hfin:=waa (show wr.ownsRow w.heap.size 27 1 (.slice (some ⟨g,0,none⟩) n c) n (u64V (putO (putH l K M ws j) L)) from by
       have:=qax hoj.out hB4.out.size
       rwa [wbz] at this)
      go_wp2_with fail;go_ret2;exact⟨⟨_,rfl,hfin.out⟩,hB4.out.trans (hT.out.mono hB4.out.size)⟩
section
variable (A:Option Addr) (cap:Nat) (ws:List Nat) (w:World) (hr:Rd w A ws.length (u64V ws)) (hlt:∀y∈ws,y<18446744073709551616)
include hr hlt
theorem qrb(v:List Nat)(h:StandR ws v):
  Calls Tryz.prog 42 #[.slice A ws.length cap] w λe w'=>(∃B d,e= .returned (.tuple #[.slice B ws.length d,.bool true])/\Rd w' B ws.length (u64V v))/\Below w.heap.size w w':=by
 obtain⟨s,l,r,hs,L,hh,ht,rfl⟩:=h;refine(qvp s l r A cap ws hs L w hr hlt hh ht).mono λe w' ⟨⟨u,h1,h2⟩,hb⟩=>⟨?_,hb⟩
 obtain⟨B,d,rfl,h3,h4⟩:=qcz h2;exact⟨B,d,h1,h4⟩
theorem qxk(hl:ws.length<=2000)(h:¬∃v,StandR ws v):
  Calls Tryz.prog 42 #[.slice A ws.length cap] w λe w'=>e= .returned (.tuple #[.slice none 0 0,.bool false])/\Below w.heap.size w w':=by
 by_cases hh:∃s l r,Hit ws s l r
 ·obtain⟨s,l,r,hh⟩:=hh
  have hge:=waa ((qea A cap ws w hr Zo).mono λe w' ⟨h1,h2⟩=>(⟨h1.is hh,h2⟩:e=Ending.returned (.tuple #[.agg #[.int .i64 s,.int .i64 l,.int .i64 r],.bool true])/\Below w.heap.size w w'));have hre:=waa (λV (hV:Below w.heap.size w V)=>qqq s l r A cap ws V (hr.below hV) Zo hlt (λ⟨hs,L,ht⟩=>h ⟨_,s,l,r,hs,L,hh,ht,rfl⟩));clear hr hh h;go_enter Tryz.func42,Tryz.ntmps42;go_wp2_with (first
   |(go_at_call 56;go_loud (refine hge.out.mono ?_;rintro e w1 ⟨rfl,hB1⟩;have hg1:=Gm.new w1 s l r;have hB2:=waa (hB1.alloc hB1.size (.cells #[.int .i64 s,.int .i64 l,.int .i64 r] 23));obtain⟨k0,k1,k2,k3⟩:=hg1.cells;clear hB1))
   |(go_at_call 78;go_loud (refine(hre.out _ hB2.out).mono ?_;rintro e w3 ⟨rfl,hB3⟩;have hB4:=waa (hB2.out.trans (hB3.mono hB2.out.size));clear hB3)))
  go_ret2;exact⟨rfl,hB4.out⟩
 ·have hge:=waa ((qea A cap ws w hr Zo).mono λe w' ⟨h1,h2⟩=>(⟨h1.no (λs l r k=>hh ⟨s,l,r,k⟩),h2⟩:e=Ending.returned (.tuple #[.agg #[.int .i64 0,.int .i64 0,.int .i64 0],.bool false])/\Below w.heap.size w w'))
  clear hr hh h;go_enter Tryz.func42,Tryz.ntmps42;go_wp2_with (go_at_call 56;go_loud (refine hge.out.mono ?_;rintro e w1 ⟨rfl,hB1⟩;have hB2:=waa (hB1.alloc hB1.size (.cells #[.int .i64 0,.int .i64 0,.int .i64 0] 23));clear hB1))
  go_ret2;exact⟨rfl,hB2.out⟩
theorem qjz{s l r:Int}{rr:List Nat}(hcap:ws.length<=cap)(hh:Hit ws s l r)(hp:repF s l r ws l.toNat=some rr):
  Calls Tryz.prog 41 #[.slice A ws.length cap] w λe w'=>(∃B d,e= .returned (.tuple #[.slice B rr.length d,.bool true])/\rr.length<=d/\Rd w' B rr.length (u64V rr))/\Below w.heap.size w w':=by
 refine(qh6 s l r A cap ws w hr hcap hlt hh).mono λe w' ⟨h,hb⟩=>⟨?_,hb⟩
 rw[hp] at h;obtain⟨u,h1,h2⟩:=h;obtain⟨B,d,rfl,h3,h4⟩:=qcz h2;exact⟨B,d,h1,h3,h4⟩
theorem qs3(hcap:ws.length<=cap)(hl:ws.length<=2000)(h:¬∃s l r rr,Hit ws s l r/\repF s l r ws l.toNat=some rr):
  Calls Tryz.prog 41 #[.slice A ws.length cap] w λe w'=>e= .returned (.tuple #[.slice none 0 0,.bool false])/\Below w.heap.size w w':=by
 refine(qof A cap ws w hr hcap Zo hlt).mono λe w' ⟨hE,hb⟩=>⟨?_,hb⟩
 rcases hE with ⟨s,l,r,hh,hE⟩|⟨-,hE⟩
 ·cases hp:repF s l r ws l.toNat with
  |none=>rw[hp] at hE;exact hE
  |some rr=>exact absurd ⟨s,l,r,rr,hh,hp⟩ h
 ·exact hE
theorem qjv(v:List Nat)(hcap:ws.length<=cap)(h:MendR ws v):
  Calls Tryz.prog 15 #[.slice A ws.length cap] w λe w'=>(∃B d,e= .returned (.tuple #[.slice B ws.length d,.bool true])/\Rd w' B ws.length (u64V v))/\Below w.heap.size w w':=by
 obtain⟨s,l,r,rr,hh,hp,hst⟩:=h;have hl:=qg1 hh hp;have hrp:=qjz A cap ws w hr hlt hcap hh hp;have hsd:=λ(B:Option Addr) (d:Nat) (V:World) (hR:Rd V B rr.length (u64V rr))=>qrb B d rr V hR (qg2 hlt hp) v hst
 rw[hl] at hrp hsd;have hrp:=waa hrp;have hsd:=waa hsd;clear hr hh hp hst hl;go_enter Tryz.func15,Tryz.ntmps15;go_wp2_with (first
  |(go_at_call 41;go_loud (refine hrp.out.mono ?_;rintro e w1 ⟨⟨B,d,rfl,hd,hR⟩,hB1⟩;have hR:=waa hR;have hB1:=waa hB1))
  |(go_at_call 42;go_loud (refine(hsd.out _ _ _ hR.out).mono ?_;rintro e w3 ⟨⟨C,c,rfl,hS⟩,hB3⟩;have hS:=waa hS;have hB4:=waa (hB1.out.trans (hB3.mono hB1.out.size));clear hB3)))
 go_ret2;exact⟨⟨_,_,rfl,hS.out⟩,hB4.out⟩
theorem qss(hcap:ws.length<=cap)(hl:ws.length<=2000)(h:¬∃v,MendR ws v):
  Calls Tryz.prog 15 #[.slice A ws.length cap] w λe w'=>e= .returned (.tuple #[.slice none 0 0,.bool false])/\Below w.heap.size w w':=by
 by_cases hh:∃s l r rr,Hit ws s l r/\repF s l r ws l.toNat=some rr
 ·obtain⟨s,l,r,rr,hh,hp⟩:=hh
  have hrl:=qg1 hh hp;have hrp:=waa (qjz A cap ws w hr hlt hcap hh hp);have hsd:=waa (λ(B:Option Addr) (d:Nat) (V:World) (hR:Rd V B rr.length (u64V rr))=>qxk B d rr V hR (qg2 hlt hp) Zo (λ⟨v,hv⟩=>h ⟨v,s,l,r,rr,hh,hp,hv⟩));clear hr hh hp h hrl;go_enter Tryz.func15,Tryz.ntmps15;go_wp2_with (first
   |(go_at_call 41;go_loud (refine hrp.out.mono ?_;rintro e w1 ⟨⟨B,d,rfl,hd,hR⟩,hB1⟩;have hR:=waa hR;have hB1:=waa hB1))
   |(go_at_call 42;go_loud (refine(hsd.out _ _ _ hR.out).mono ?_;rintro e w3 ⟨rfl,hB3⟩;have hB4:=waa (hB1.out.trans (hB3.mono hB1.out.size));clear hB3)))
  go_ret2;exact⟨rfl,hB4.out⟩
 ·have hrp:=waa (qs3 A cap ws w hr hlt hcap hl hh)
  clear hr hh h;go_enter Tryz.func15,Tryz.ntmps15;go_wp2_with (go_at_call 41;go_loud (refine hrp.out.mono ?_;rintro e w1 ⟨rfl,hB1⟩;have hB1:=waa hB1))
  go_ret2;exact⟨rfl,hB1.out⟩
end
theorem q3c(t:Nat)(ht:t<=20000)(w:World):(Instr.makeSlice 40 (.int .i64 0) (.int .i64 (t:Int))).run Tryz.prog w= .ok (.slice (some ⟨w.heap.size,0,none⟩) 0 t) (w.alloc (.cells (u64V (List.replicate t 0)).toArray 27)):=by
 obtain⟨i,hi,hz,hs,hb⟩:=info_parts qcg;have h:=run_makeSlice (P:=Tryz.prog) w 40 27 i _ wbi hi hz .i64 .i64 0 (t:Int) Zo Zo (by rw[hs,wam];omega) (by rw[hb];omega) Zo;rw[hs,wam,wb7] at h;rw[h,<-qmk];rfl
theorem q9m{w:World}{t base:Nat}(hb:base<=w.heap.size)(ht:t<=20000):(w.alloc (.cells (u64V (List.replicate t 0)).toArray 27)).ownsRow base 27 1 (.slice (some ⟨w.heap.size,0,none⟩) 0 t) 0 []:=
 ⟨rfl,.inr ⟨w.heap.size,t,_,rfl,hb,World.alloc_heap_new w _,wau _,by unfold maxLen;omega,by simp[u64V],by simp⟩⟩
theorem q36{S:List Nat}{n i:Nat}(h:S.length=n*8)(hi:i<n):u64V (S.take (i*8))++u64V (qap S i)=u64V (S.take ((i+1)*8)):=by
 unfold u64V qap;rw[<-wcr];congr 1
 rw[show(i+1)*8=i*8+8 by omega,List.take_add]
theorem qrh{w:World}{base g n cap:Nat}{S:List Nat}(h:w.ownsRow base 101 8 (.slice (some ⟨g,0,none⟩) n cap) n (u64V S))(hn:n<=2048):
  Calls Tryz.prog 43 #[.slice (some ⟨g,0,none⟩) n cap] w λe w'=>∃v,e= .returned v/\w'.ownsRow w.heap.size 27 1 v (n*8) (u64V S)/\Below w.heap.size w w':=by
 obtain⟨i0,ii,iz0,iz1,iz2⟩:=info_parts qcg;have hSl:S.length=n*8:=by have:=h.1;rw[qai] at this;exact this
 obtain⟨T,hT⟩:∃T,n*8=T:=⟨_,rfl⟩
 have hmk:=q3c T Zo;have hr0:=waa (q9m (w:=w) (t:=T) (wab _) Zo);have hB0:=waa ((wac w.heap.size w).alloc (wab _) (.cells (u64V (List.replicate T 0)).toArray 27));have e8:IntKind.i64.wrap ((n:Int)*8)=(T:Int):=(wao _ Zo).trans Zo;have hT:=waa hT;have hK:=waa (λ(V:World) (hV:Below w.heap.size w V)=>qa5 (w':=V) h (hV.block g (qcs h).2));have hone:=waa (λ(l:List Nat)=>show ∀u∈u64V l,u.oneCell'=true by simp[u64V,Value.oneCell']);have hlK:=waa (λ(i:Nat) (hi:i<n)=>qhr hSl hi);have hst:=waa (λ(i:Nat) (hi:i<n)=>q36 hSl hi);have hSl:=waa hSl;clear h;go_enter Tryz.func43,Tryz.ntmps43;go_wp2_with fail;go_loopg [3,12] n (λk s3 s12 wr=>∃i:Nat,s12= .int .i64 (i:Int)/\n - i<=k/\i<=n/\Hid (wr.ownsRow w.heap.size 27 1 s3 (i*8) (u64V (S.take (i*8))))/\Hid (Below w.heap.size w wr))
 case atStart=>exact⟨0,rfl,Zo,Zo,waa (by simpa[u64V] using hr0.out),hB0⟩
 case round=>
  obtain⟨i,rfl,hki,hi,how,hB⟩:=hrel;obtain⟨AO,cO,rfl,-⟩:=Rd.of_own how.out;by_cases hil:i<n
  ·have hrow:=hK.out wr hB.out
   have hrange:=qjr hrow hil;have hll:=hlK.out i hil;have hstep:=hst.out i hil;generalize qap S i=l at hrange hll hstep;have hi0:(0:Int)<=(i:Int):=Zo
   have hi1:(i:Int)<(n:Int):=Zo
   have hbox:=waa (qdc (W:=wr) #[.int .u64 0,.int .u64 0,.int .u64 0,.int .u64 0,.int .u64 0,.int .u64 0,.int .u64 0,.int .u64 0] 101 (u64V l));have hrng:=waa (qdq (W:=wr) (C:=#[.int .u64 0,.int .u64 0,.int .u64 0,.int .u64 0,.int .u64 0,.int .u64 0,.int .u64 0,.int .u64 0]) (t:=101) (vs:=u64V l) (by rw[qai,hll];rfl));have hstep:=waa hstep;clear hrow;go_wp2_with (first
    |(refine qct rfl _ rfl g (i*8) rfl hrange hll ?_)
    |(refine qbu rfl _ _ rfl wr.heap.size 0 rfl rfl (qb0 rfl _ _) hll ?_;go_loud (have hB2:=waa (hB.out.trans (hbox.out.mono hB.out.size));have how2:=waa (qaf how.out hbox.out);have hsz:=hbox.out.size;generalize (wr.alloc (.cells #[.int .u64 0,.int .u64 0,.int .u64 0,.int .u64 0,.int .u64 0,.int .u64 0,.int .u64 0,.int .u64 0] 101)).setCells wr.heap.size 0 (u64V l)=W2 at hrng hB2 how2 hsz ⊢;have hcl:=waa (show ∀j u,(u64V l)[j]? =some u->W2.cell? ((⟨wr.heap.size,0,none⟩:Addr).add j)=some u from λj u hu=>by have h1:=hrng.out j u hu;rw[wa4] at h1;unfold Addr.add;split<;>simp_all);have hwl:=hB.out.size))
    |(at_builtin;go_loud (refine wpList_append_own _ rfl _ _ 40 rfl w.heap.size 27 i0 (.int .u64 0) 1 8 wbi ii iz0 iz1 iz2 rfl Zd _ _ _ rfl how2.out ⟨wr.heap.size,0,none⟩ 8 8 (u64V l) rfl (by rw[qai,hll]) hcl.out (hone.out l) (by simp only[maxLen];omega) Zo Zo ?_;intro v' w6 hown6 hgrow6 _;have hB6:=waa (hB2.out.grown hgrow6 Zo (qa0 how2.out));have hown6:=waa hown6;clear hgrow6)))
   go_roundg (n - (i+1))
   case measure=>omega
   case rel=>exact⟨i+1,by go_num,wab _,Zo,waa (by have:=hown6.out;rw[hstep.out] at this;rwa [show i*8+8=(i+1)*8 by omega] at this),hB6⟩
  ·obtain rfl:i=n:=Zo
   have hfin:=waa (show wr.ownsRow w.heap.size 27 1 (.slice AO (i*8) cO) (i*8) (u64V S) from by
    have:=how.out
    rwa [wa2 (by rw[hSl.out];omega)] at this)
   go_wp2_with fail;go_ret;exact⟨_,rfl,hfin.out,hB.out⟩
theorem qhd{w:World}{base p n c:Nat}{S K:List Nat}{f:Nat->Option (List Nat)}(h:Reg w base p n c S K f):
  Calls Tryz.prog 21 #[.pointer (some ⟨p,0,none⟩)] w λe w'=>(∃B d,e= .returned (.slice B (n*8) d)/\n*8<=d/\Rd w' B (n*8) (u64V K))/\Below w.heap.size w w':=by
 have hn:=h.lt.2.2.1;obtain⟨gs,cs,gk,ck,m,st,D,h⟩:=h;obtain⟨c0,c1,c2,c3,f3⟩:=h.cells;have hfl:=waa (qrh (h.2.2.2.2.2.2.2.2.2.1) hn);clear h;go_enter Tryz.func21,Tryz.ntmps21;go_wp2_with (go_at_call 43;go_loud (refine hfl.out.mono ?_;rintro e w1 ⟨v,rfl,hown,hB⟩;obtain⟨B,d,rfl,hd,hR⟩:=qcz hown;have hR:=waa hR;have hB:=waa hB;clear hown))
 go_ret;exact⟨⟨B,d,rfl,hd,hR.out⟩,hB.out⟩
end Go.Proofs.YtocncmbeinmiaaaGreat
