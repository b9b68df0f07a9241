/- Parts. No condition. -/
import Derived.Test.YtocncmbeinmiaaaGreatJoinU39
import Derived.Test.YtocncmbeinmiaaaGreatJoinU22
set_option linter.unusedVariables false
set_option maxRecDepth 100000
set_option maxHeartbeats 8000000
namespace Go.Proofs.YtocncmbeinmiaaaGreat
open Go Go.RowKit
theorem qaac(l:List Nat)(x:Nat):nV (l++[x])=nV l++[.int .i64 (x:Int)]:=by simp[nV]
theorem qabx(l:List Nat)(i x:Nat):(nV l).set i (.int .i64 (x:Int))=nV (l.set i x):=by simp[nV,List.map_set]
theorem qq8{l:List Nat}{j x:Nat}(h:l[j]? =some x):(nV l)[j]? =some (.int .i64 (x:Int)):=by simp[nV,h]
section
variable {w W W':World} {s l r:Int} {hs:List HD} {vH vF vT vC v':Value} {F:List LV} {T C:List Nat}
theorem qdb{tmp:Obj}{b e:TypeId}{sz n:Nat}{u:Value}{xs:List Value}{sz2 n2:Nat}{v:Value}{ys:List Value}(h:W.ownsRow w.heap.size e sz u n xs)(h2:W.ownsRow w.heap.size b sz2 v n2 ys)(hne:e≠b)(hg:(W.alloc tmp).grownBy W' v.ownBlock):W'.ownsRow w.heap.size e sz u n xs:=(h.alloc tmp).kept hg (qhm h h2 hne)
theorem ReSt.addF{tmp:Obj}{q:LV}(h:ReSt w W s l r hs vH vF vT vC F T C)(hown:W'.ownsRow w.heap.size 166 7 v' (F.length+1) (lsV F++lvV q))(hg:(W.alloc tmp).grownBy W' vF.ownBlock):ReSt w W' s l r hs vH v' vT vC (F++[q]) T C:=
 ⟨qdb h.own0 h.own1 Zd hg,by rw[was,qrs];exact hown,qdb h.own2 h.own1 Zd hg,qdb h.own3 h.own1 Zd hg,qb1 h.geo Zd h.own1 hg,
  (h.low.alloc h.low.size tmp).grown hg (by have:=h.low.size;simp;omega) (qa0 h.own1)⟩
theorem ReSt.addT{tmp:Obj}{x:Nat}(h:ReSt w W s l r hs vH vF vT vC F T C)(hown:W'.ownsRow w.heap.size 27 1 v' (T.length+1) (u64V T++[.int .u64 (x:Int)]))(hg:(W.alloc tmp).grownBy W' vT.ownBlock):ReSt w W' s l r hs vH vF v' vC F (T++[x]) C:=
 ⟨qdb h.own0 h.own2 Zd hg,qdb h.own1 h.own2 Zd hg,by rw[was,qd8];exact hown,qdb h.own3 h.own2 Zd hg,qb1 h.geo Zd h.own2 hg,
  (h.low.alloc h.low.size tmp).grown hg (by have:=h.low.size;simp;omega) (qa0 h.own2)⟩
theorem ReSt.addC{tmp:Obj}{x:Nat}(h:ReSt w W s l r hs vH vF vT vC F T C)(hown:W'.ownsRow w.heap.size 3 1 v' (C.length+1) (nV C++[.int .i64 (x:Int)]))(hg:(W.alloc tmp).grownBy W' vC.ownBlock):ReSt w W' s l r hs vH vF vT v' F T (C++[x]):=
 ⟨qdb h.own0 h.own3 Zd hg,qdb h.own1 h.own3 Zd hg,qdb h.own2 h.own3 Zd hg,by rw[was,qaac];exact hown,qb1 h.geo Zd h.own3 hg,
  (h.low.alloc h.low.size tmp).grown hg (by have:=h.low.size;simp;omega) (qa0 h.own3)⟩
theorem ReSt.setC{g n c j x:Nat}(h:ReSt w W s l r hs vH vF vT (.slice (some ⟨g,0,none⟩) n c) F T C)(hn:C.length=n):ReSt w (W.setCell ⟨g,j,none⟩ (.int .i64 (x:Int))) s l r hs vH vF vT (.slice (some ⟨g,0,none⟩) n c) F T (C.set j x):=by
 have h3:=h.own3;rw[hn] at h3;have hst:=(h3.stored j (.int .i64 (x:Int))).1;rw[qabx] at hst;have hgr:=qbb W ⟨g,j,none⟩ (.int .i64 (x:Int));have ap:∀{e:TypeId} {sz m:Nat} {u:Value} {xs:List Value},W.ownsRow w.heap.size e sz u m xs->e≠3->u.ownBlock=none\/u.ownBlock≠some g:=λhu hne=>qhm hu h3 hne
 exact⟨h.own0.kept hgr (ap h.own0 Zd),h.own1.kept hgr (ap h.own1 Zd),h.own2.kept hgr (ap h.own2 Zd),by rw[wb1,hn];exact hst,h.geo.other (λe=>qaz h.geo Zd h3 (by rw[e];rfl)),
  h.low.setCell (p:=⟨g,j,none⟩) (h3.lt g rfl).1 _⟩
end
theorem qok{W:World}{base n c:Nat}{A:Option Addr}{hs:List HD}(h:W.ownsRow base 82 3 (.slice A n c) n (hV hs)):HdsRd W A n hs:=by
 obtain⟨A',c',e,h'⟩:=HdsRd.of_own h;injection e with e1 _ e3;rw[e1];exact h'
theorem q6u:(Tryz.prog.info? 3).map (λi=>(i.zero,i.size,i.bytes))=some (some (.int .i64 0),1,8):=by kernel_rfl
theorem Lb.set_low{V w4:World}{q:LV}(hW:Below V.heap.size V w4):Below V.heap.size V (((((((w4.setCell ⟨V.heap.size,0,none⟩ (.int .i64 q.a)).setCell ⟨V.heap.size,1,none⟩ (.int .i64 q.r)).setCell ⟨V.heap.size,2,none⟩ (.int .i64 q.s)).setCell ⟨V.heap.size,3,none⟩ (.int .i64 q.n)).setCell ⟨V.heap.size,4,none⟩ (.int .i64 q.sp)).setCell ⟨V.heap.size,5,none⟩ (.int .i64 q.ix)).setCell ⟨V.heap.size,6,none⟩ (.int .i64 q.wd)):=Lb.below_set hW (wab _) q
theorem qb5{V:World}{b:Nat}{q:Addr}{v v0 v1 v2 v3 v4 v5 v6:Value}(h:V.cell? q=some v)(hne:¬q.block=b):(((((((V.setCell ⟨b,0,none⟩ v0).setCell ⟨b,1,none⟩ v1).setCell ⟨b,2,none⟩ v2).setCell ⟨b,3,none⟩ v3).setCell ⟨b,4,none⟩ v4).setCell ⟨b,5,none⟩ v5).setCell ⟨b,6,none⟩ v6).cell? q=some v:=qaq (qaq (qaq (qaq (qaq (qaq (qaq h hne) hne) hne) hne) hne) hne) hne
theorem qm1(s l r:Int)(A:Option Addr)(cap:Nat)(ws:List Nat)(hs:List HD)(w:World)(hr:Rd w A ws.length (u64V ws))(hlt:∀y∈ws,y<18446744073709551616)(hho:qa3 s l r ws=some hs)(hf:fitB s l r ws.length=true)(hhl:hs.length=s.toNat):
  Calls Tryz.prog 78 #[.agg #[.int .i64 s,.int .i64 l,.int .i64 r],.slice A ws.length cap] w λe w'=>qwj w.heap.size (rtL r ws) (kdO s l r hs ws) (obO s l r hs ws) e w'/\Below w.heap.size w w':=by
 obtain⟨s0,s1,l0,l1,r0,r1,hwl,hwm⟩:=qaw hf;have hmay:=(fitB_iff.1 hf).1;obtain⟨i0,ii,iz0,iz1,iz2⟩:=info_parts qcg;have hrK:=waa hr;have hfH:=waa (λV (hU:Below w.heap.size w V)=>show Calls Tryz.prog 57 #[.agg #[.int .i64 s,.int .i64 l,.int .i64 r],.slice A ws.length cap] V λe w'=>(∃v,e= .returned (.tuple #[v,.bool true])/\w'.ownsRow V.heap.size 82 3 v hs.length (hV hs))/\Below V.heap.size V w' from(qe0 s l r A cap ws V (hr.below hU) Zo hlt).mono λe w' ⟨h1,h2⟩=>⟨by rw[hho] at h1;exact h1,h2⟩);have hrt:=waa (λ(j:Nat) (hj:(j:Int)<r) (V:World)=>show Calls Tryz.prog 113 #[.agg #[.int .i64 s,.int .i64 l,.int .i64 r],.int .i64 (j:Int)] V λe w'=>e= .returned (.int .i64 ((8+j:Nat):Int))/\Below V.heap.size V w' from by
  have:=q2q s l r (j:Int) V
  rw[show qf6 s l r (j:Int)=((8+j:Nat):Int) from(if_pos ⟨hmay,Zo,hj⟩).trans Zo] at this;exact this)
 have hlen:=waa hwl;have hroots:=waa (show ∀j:Nat,(j:Int)<r->∃x,ws[8+j]? =some x/\(rtL r ws)[j]? =some x/\(rtL r ws).take (j+1)=(rtL r ws).take j++[x] from λj hj=>by
  have h8:8+j<ws.length:=Zo
  have hx:(rtL r ws)[j]? =some ws[8+j]:=by rw[rtL,wbf Zo,wbd,waj h8]
  exact⟨ws[8+j],waj h8,hx,qdj hx⟩)
 have hrl:(rtL r ws).length=r.toNat:=by rw[rtL,war,wbu];omega
 have hrt64:=waa (show ∀y∈rtL r ws,y<18446744073709551616 from λy hy=>hlt y (wdo (wb0 hy)));have hkd64:=waa (λ(o:LV)=>show ∀y∈slW ws o,y<18446744073709551616 from λy hy=>hlt y (wdo (wb0 hy)));have hhs1:hs.length<=16:=Zo
 have hobjF:=waa (λ(HA:Option Addr) (cH:Nat) (U:World) (x:Nat) (hx:x<18446744073709551616) (hU:Below w.heap.size w U) (hH:HdsRd U HA hs.length hs)=>qu1 s l r A cap ws HA cH hs x U (hr.below hU) hH hf hlt Zo);obtain⟨j0,jj,jz0,jz1,jz2⟩:=info_parts qo1;obtain⟨k0',kk,kz0,kz1,kz2⟩:=info_parts q6u;have hg0:=Gi.new w s l r;have hB0:=qa7 w s l r;have hhlK:=waa hhl;have hget:=waa (λ(j y:Nat) (p:Addr) (hA:A=some p) (hy:ws[j]? =some y) (U:World) (hU:Below w.heap.size w U)=>show U.cell? (p.add j)=some (.int .u64 (y:Int)) from by
  obtain⟨q,e,hq⟩:=qa6 (hr.below hU) hy;rw[hA] at e;injection e with e;rw[e];exact hq)
 clear hr hho hf hwl hmay hhl;obtain⟨rt,hrtE⟩:∃rt,rtL r ws=rt:=⟨_,rfl⟩
 rw[hrtE] at hroots hrl hrt64 ⊢;have hrtE':=waa hrtE;clear hrtE;go_enter Tryz.func78,Tryz.ntmps78;go_wp2_with fail;generalize (w.alloc (.cells #[.int .i64 s,.int .i64 l,.int .i64 r] 23))=W1 at hg0 hB0 ⊢;obtain⟨c0,c1,c2,f⟩:=hg0.cells;go_wp2_with fail;refine(hfH.out _ hB0).mono ?_;rintro e w1 ⟨⟨vH,rfl,hown⟩,hB⟩;obtain⟨HA,cH,rfl,-⟩:=HdsRd.of_own hown;have hg1:=hg0.below hB hg0.lt;have hB1:=hB0.trans (hB.mono hB0.size);have hoH:=qax hown hB0.size;clear hg0 hB0 hB c0 c1 c2 f hown;have hst0:ReSt w w1 s l r hs (.slice HA hs.length cH) (.slice none 0 0) (.slice none 0 0) (.slice none 0 0) [] [] []:=⟨hoH,wa9 _ _ _ _,wa9 _ _ _ _,wa9 _ _ _ _,hg1,hB1⟩
 clear hg1 hB1 hoH;go_wp2_with fail;go_loopw [9,10] (λvT q wr=>∃(W:World) (j:Nat),W=wr/\q= .int .i64 (j:Int)/\(j:Int)<=r/\ReSt w W s l r hs (.slice HA hs.length cH) (.slice none 0 0) vT (.slice none 0 0) [] (rt.take j) []) (λ_ q _=>r.toNat - (RowKit.intOf q).toNat)
 case atStart=>exact⟨_,0,rfl,rfl,Zo,hst0⟩
 case round=>
  clear hst0;obtain⟨W,j,rfl,rfl,hj,hst⟩:=hrel;obtain⟨c0,c1,c2,f⟩:=hst.geo.cells;by_cases hjl:(j:Int)<r
  ·obtain⟨x,hx1,hx2,hx3⟩:=hroots.out j hjl
   have hca:=waa (hrt.out j hjl);have h8:8+j<ws.length:=(wan.1 hx1).1;obtain⟨p,rfl,-⟩:=qa6 hrK.out hx1;have hcw:=waa (λ(U:World) (hU:Below w.heap.size w U)=>show U.cell? (p.add (8+j))=some (.int .u64 (x:Int)) from by
    obtain⟨q,e,hq⟩:=qa6 (hrK.out.below hU) hx1;injection e with e;subst e;exact hq)
   obtain⟨h,hh⟩:∃h:Nat,8+j=h:=⟨_,rfl⟩
   rw[hh] at hca hcw;have k0:(0:Int)<=(h:Int):=Zo
   have k1:(h:Int)<(ws.length:Int):=Zo
   clear hh hx1 hx2;go_wp2_with fail;refine(hca.out _).mono ?_;rintro e w2 ⟨rfl,hC⟩;have hst2:=hst.below hC;have x0:=hcw.out w2 hst2.low;clear hst hC c0 c1 c2 f;have hs2:=hst2.low.size;have hown2:=hst2.own2;have htl:(rt.take j).length<=8:=by rw[war];omega
   go_wp2_with (at_builtin;go_loud (refine wpList_append_own _ rfl _ _ 40 rfl w.heap.size 27 i0 (.int .u64 0) 1 8 wbi ii iz0 iz1 iz2 rfl Zd _ _ _ rfl (hown2.alloc _) ⟨w2.heap.size,0,none⟩ 1 1 [.int .u64 (x:Int)] rfl rfl (qd3 Zs _ _) (by simp[Value.oneCell']) (by simp only[maxLen];omega) Zo Zx ?_);intro v' w4 hown' hgrow _;have hst4:=hst2.addT hown' hgrow)
   go_roundw
   case rel=>exact⟨_,j+1,rfl,by go_num,Zo,by rw[hx3];exact hst4⟩
   case measure=>simp[RowKit.intOf];omega
  ·obtain rfl:r=(j:Int):=Zo
   rw[wa2 Zo] at hst;go_wp2_with fail;have hw0:=waa (qng (rt:=rt) (kd:=kdO s l (j:Int) hs ws) (ob:=obO s l (j:Int) hs ws));go_loopw [8,9,11,12] (λvF vT vC q wr=>∃(W:World) (F:List LV) (T C:List Nat) (i:Nat),W=wr/\q= .int .i64 (i:Int)/\ReSt w W s l (j:Int) hs (.slice HA hs.length cH) vF vT vC F T C/\Hid (Walk rt (kdO s l (j:Int) hs ws) (obO s l (j:Int) hs ws) F T C i)/\i<=T.length/\F.length<=512/\C.length=F.length/\T.length<=8+255*F.length/\Hid (∀y∈T,y<18446744073709551616)) (λvF vT _ q _=>(600 - sLen vF)*300+sLen vT - (RowKit.intOf q).toNat)
   case atStart=>exact⟨_,[],rt,[],0,rfl,rfl,hst,hw0,wau _,by simp,rfl,by simp;omega,hrt64⟩
   case round=>
    clear hst hw0;obtain⟨V,F,T,C,i,rfl,rfl,hst,hwk,hi,hF5,hCF,hTF,hT64⟩:=hrel;obtain⟨AF,cF,rfl,hRF⟩:=LsRd.of_own hst.own1;obtain⟨AT,cT,rfl,hRT⟩:=Rd.of_own hst.own2;obtain⟨AC,cC,rfl,hRC⟩:=Rd.of_own hst.own3;by_cases hil:i<T.length
    ·obtain⟨x,hx⟩:∃x,T[i]? =some x:=⟨_,waj hil⟩
     have hx64:=hT64.out x (waq hx);obtain⟨p2,rfl,htx⟩:=qa6 hRT hx;have g0:(0:Int)<=(i:Int):=Zo
     have g1:(i:Int)<(T.length:Int):=Zo
     by_cases hx0:x=0
     ·subst hx0
      have hwk2:=waa (hwk.out.zero hx (λo ho=>(hwk.out.each o ho).2.2.1));clear hx hwk;go_wp2_with fail;go_roundw
      case rel=>exact⟨_,F,T,C,i+1,rfl,by go_num,hst,hwk2,Zo,hF5,hCF,hTF,hT64⟩
      case measure=>simp[RowKit.intOf,sLen];omega
     ·have hx0':((x:Int)==0)=false:=beq_eq_false_iff_ne.2 Zo
      by_cases hbig:x<100000
      ·have hbd:decide ((x:Int)<100000)=true:=decide_eq_true Zo
       have hcv:IntKind.i64.wrap (x:Int)=(x:Int):=wao _ Zo;have hfd:=qlk AF cF F (x:Int) V hRF Zo;rcases qo2 F (x:Int) with ⟨jj',o,hfe,hFj,hoa⟩|⟨hfe,hFn⟩
       ·rw[hfe] at hfd
        have hfd':=waa hfd;have hoad:o.ad=x:=by unfold LV.ad;omega
        have hwk2:=waa (hwk.out.old hx hFj hoad);obtain⟨hCj,hcb⟩:=hwk.out.count hFj;rw[hCj,wa8] at hwk2;have hjl':jj'<F.length:=(wan.1 hFj).1;generalize (T.take i).count o.ad=cj at hCj hcb hwk2;clear hfd hfe hFj hoa hoad hwk hx;have hCl:0<C.length:=Zo
        obtain⟨gc,capc,hce,hgb,hgl⟩:=hst.own3.form hCl;injection hce with h1 h2 h3;subst h1 h3;have hjC:jj'<C.length:=Zo
        have hcell:=hst.own3.cellAt jj' Zo;rw[qq8 hCj] at hcell;have hfz:=hst.own3.frozenAt jj';have hst2:=hst.setC (j:=jj') (x:=cj+1) rfl;have hneg:decide ((jj':Int)<0)=false:=decide_eq_false Zo;have kw:IntKind.i64.wrap ((cj:Int)+1)=(cj:Int)+1:=wao _ Zo;have k0:(0:Int)<=(jj':Int):=Zo
        have k1:(jj':Int)<(C.length:Int):=Zo
        clear hCj;go_wp2_with fail;refine hfd'.out.mono ?_;rintro e V' ⟨rfl,rfl⟩;clear hfd';go_wp2_with fail;go_roundw
        case rel=>exact⟨_,F,T,C.set jj' (cj+1),i+1,rfl,by go_num,by rw[hCF,show((cj+1:Nat):Int)=(cj:Int)+1 from by omega] at hst2;exact hst2,hwk2,Zo,hF5,by rw[wb1];exact hCF,hTF,hT64⟩
        case measure=>simp[RowKit.intOf,sLen];omega
       ·rw[hfe] at hfd
        have hfd':=waa hfd;have hnot:x∉F.map LV.ad:=λhm=>by
         obtain⟨o,ho,e⟩:=wav.1 hm;have h1:=(hwk.out.each o ho).2.1;exact hFn o ho (by unfold LV.ad at e;omega)
        clear hfd hfe hFn;go_wp2_with fail;refine hfd'.out.mono ?_;rintro e V' ⟨rfl,rfl⟩;clear hfd';cases hq:obO s l (j:Int) hs ws x with
        |none=>
         have hobj:=waa (λU (hU:Below V.heap.size V U)=>(hobjF.out HA cH U x hx64 (hst.low.trans (hU.mono hst.low.size)) (qok (qaf hst.own0 hU))).mono λe w' ⟨h1,h2⟩=>(⟨by rw[hq] at h1;exact h1,h2⟩:e=Ending.returned (.tuple #[.agg #[.int .i64 0,.int .i64 0,.int .i64 0,.int .i64 0,.int .i64 0,.int .i64 0,.int .i64 0],.bool false])/\Below U.heap.size U w'));have hnores:=waa (show qh5 rt (kdO s l (j:Int) hs ws) (obO s l (j:Int) hs ws) from .inl ⟨x,hwk.out.reach x (waq hx) hx0,hq⟩);clear hwk hx hq;go_wp2_with fail;have hBa:Below V.heap.size V (V.alloc (.cells #[.int .i64 0,.int .i64 0,.int .i64 0,.int .i64 0,.int .i64 0,.int .i64 0,.int .i64 0] 166)).drew:=((wac _ V).alloc (wab _) _).drew;have hl0:=hst.geo.lt;have hl1:=wak V _ htx;have ne0:¬w.heap.size=V.heap.size:=Zo
         have ne1:¬(p2.add i).block=V.heap.size:=Zo
         obtain⟨q0,q1,q2,q3⟩:V.drew.cell? ⟨w.heap.size,0,none⟩=some (.int .i64 s)/\V.drew.cell? ⟨w.heap.size,1,none⟩=some (.int .i64 l)/\V.drew.cell? ⟨w.heap.size,2,none⟩=some (.int .i64 (j:Int))/\V.drew.cell? (p2.add i)=some (.int .u64 (x:Int)):=⟨hst.geo.cells.1,hst.geo.cells.2.1,hst.geo.cells.2.2.1,htx⟩
         obtain⟨r0',r1',r2',r3'⟩:(V.alloc (.cells #[.int .i64 0,.int .i64 0,.int .i64 0,.int .i64 0,.int .i64 0,.int .i64 0,.int .i64 0] 166)).drew.cell? ⟨w.heap.size,0,none⟩=some (.int .i64 s)/\(V.alloc (.cells #[.int .i64 0,.int .i64 0,.int .i64 0,.int .i64 0,.int .i64 0,.int .i64 0,.int .i64 0] 166)).drew.cell? ⟨w.heap.size,1,none⟩=some (.int .i64 l)/\(V.alloc (.cells #[.int .i64 0,.int .i64 0,.int .i64 0,.int .i64 0,.int .i64 0,.int .i64 0,.int .i64 0] 166)).drew.cell? ⟨w.heap.size,2,none⟩=some (.int .i64 (j:Int))/\(V.alloc (.cells #[.int .i64 0,.int .i64 0,.int .i64 0,.int .i64 0,.int .i64 0,.int .i64 0,.int .i64 0] 166)).drew.cell? (p2.add i)=some (.int .u64 (x:Int)):=
          ⟨(hBa.cell (p:=⟨w.heap.size,0,none⟩) hl0).trans hst.geo.cells.1,(hBa.cell (p:=⟨w.heap.size,1,none⟩) hl0).trans hst.geo.cells.2.1,(hBa.cell (p:=⟨w.heap.size,2,none⟩) hl0).trans hst.geo.cells.2.2.1,(hBa.cell hl1).trans htx⟩
         have hoa:=waa (show Lb (V.alloc (.cells #[.int .i64 0,.int .i64 0,.int .i64 0,.int .i64 0,.int .i64 0,.int .i64 0,.int .i64 0] 166)) V.heap.size lv0 from World.alloc_heap_new V _);have htx':=waa htx;clear htx;go_region_held3 (λU=>U.cell? ⟨w.heap.size,0,none⟩=some (.int .i64 s)/\U.cell? ⟨w.heap.size,1,none⟩=some (.int .i64 l)/\U.cell? ⟨w.heap.size,2,none⟩=some (.int .i64 (j:Int))/\U.cell? (p2.add i)=some (.int .u64 (x:Int)))
          (first|with_reducible exact⟨q0,q1,q2,q3⟩|with_reducible exact⟨r0',r1',r2',r3'⟩|with_reducible exact⟨t0,t1,t2,t3⟩|with_reducible exact⟨qb5 t0 ne0,qb5 t1 ne0,qb5 t2 ne0,qb5 t3 ne1⟩|go_keep)
          (first
           |(go_at_call 115
             refine(hobj.out _ (by first|exact(wac _ V).drew|exact hBa)).mono ?_;rintro e w4 ⟨rfl,hC⟩;have hW4:Below V.heap.size V w4:=by first|exact(wac _ V).drew.trans (hC.mono (wab _))|exact hBa.trans (hC.mono (wbb (qdh V _)))
             obtain⟨t0,t1,t2,tf⟩:=(hst.geo.below hW4 hl0).cells;have t3:=(hW4.cell hl1).trans htx'.out
             first|(have ho4:=waa (show Lb w4 V.heap.size lv0 from Lb.below (show Lb (V.alloc (.cells #[.int .i64 0,.int .i64 0,.int .i64 0,.int .i64 0,.int .i64 0,.int .i64 0,.int .i64 0] 166)).drew V.heap.size lv0 from hoa.out) hC (qdh V _));obtain⟨⟨n0,n1,n2,n3,n4,n5,n6⟩,nf⟩:=Lb.cells ho4.out)|skip))
         ·have hV5:=hW4.alloc hW4.size (.cells (lvV lv0).toArray 166)
          have hbx:=Lb.new w4 lv0;have hbl:V.heap.size<=w4.heap.size:=hW4.size;simp only[lvV,lv0] at hV5 hbx;generalize w4.alloc (.cells #[.int .i64 0,.int .i64 0,.int .i64 0,.int .i64 0,.int .i64 0,.int .i64 0,.int .i64 0] 166)=V5 at hV5 hbx ⊢;generalize w4.heap.size=bx at hbx hbl ⊢;rename_i hHeld;clear hHeld;clear q0 q1 q2 q3 r0' r1' r2' r3' t0 t1 t2 tf t3 hoa hC hW4 ne0 ne1 hBa hl0 hl1 htx'
          have hB5:=hst.low.trans (hV5.mono hst.low.size);clear hbx hbl hV5 hst;go_wp2_with fail;try rw[wa0]
          go_ret2;exact⟨.inr ⟨hnores.out,rfl⟩,hB5⟩
         ·have hV5:=Lb.set_low (q:=lv0) hW4
          have hbx:=Lb.set ho4.out lv0;have hbl:V.heap.size<=V.heap.size:=wab _;simp only[lv0] at hV5 hbx;generalize (((((((w4).setCell ⟨V.heap.size,0,none⟩ (.int .i64 0)).setCell ⟨V.heap.size,1,none⟩ (.int .i64 0)).setCell ⟨V.heap.size,2,none⟩ (.int .i64 0)).setCell ⟨V.heap.size,3,none⟩ (.int .i64 0)).setCell ⟨V.heap.size,4,none⟩ (.int .i64 0)).setCell ⟨V.heap.size,5,none⟩ (.int .i64 0)).setCell ⟨V.heap.size,6,none⟩ (.int .i64 0)=V5 at hV5 hbx ⊢;generalize hbxe:V.heap.size=bx at hbx ⊢;have hbl:V.heap.size<=bx:=Zo
          clear hbxe;clear n0 n1 n2 n3 n4 n5 n6 nf ho4;rename_i hHeld;clear hHeld;clear q0 q1 q2 q3 r0' r1' r2' r3' t0 t1 t2 tf t3 hoa hC hW4 ne0 ne1 hBa hl0 hl1 htx'
          have hB5:=hst.low.trans (hV5.mono hst.low.size);clear hbx hbl hV5 hst;go_wp2_with fail;try rw[wa0]
          go_ret2;exact⟨.inr ⟨hnores.out,rfl⟩,hB5⟩
        |some qq=>
         have hobj:=waa (λU (hU:Below V.heap.size V U)=>(hobjF.out HA cH U x hx64 (hst.low.trans (hU.mono hst.low.size)) (qok (qaf hst.own0 hU))).mono λe w' ⟨h1,h2⟩=>(⟨by rw[hq] at h1;exact h1,h2⟩:e=Ending.returned (.tuple #[.agg #[.int .i64 qq.a,.int .i64 qq.r,.int .i64 qq.s,.int .i64 qq.n,.int .i64 qq.sp,.int .i64 qq.ix,.int .i64 qq.wd],.bool true])/\Below U.heap.size U w'));rw[hCF] at hst;obtain⟨b1,b2,b3,b4,b5,b6,b7,b8,b9,b10,b11,b12,b13,b14,b15⟩:=qev hq;have hsw:=qw7 hq (by have:=hlen.out;omega);have hslot:=waa (show ∀k:Nat,(k:Int)<qq.s->∃y,ws[x+1+k]? =some y/\(slW ws qq).take (k+1)=(slW ws qq).take k++[y] from λk hk=>by
          have h1:=hsw.2 k Zo;have h2:=hlen.out;rw[b2] at h1;have h3:x+1+k<ws.length:=Zo
          rw[waj h3] at h1;exact⟨_,waj h3,qdj h1⟩)
         have hsl:=waa hsw.1;have hqw:=hwk.out.new hx hx0 hnot hq b2 Zo;rw[qml hq] at hqw;have hqF:(F++[qq]).length<=512:=by
          have h1:=hqw.few (B:=(qbd s l (j:Int) hs).map λb=>b.1.toNat) (λx q h=>qor h);have h2:=qfb s l (j:Int) hs;rw[wbr] at h1;omega
         have hqT:=waa (show ∀y∈T++slW ws qq,y<18446744073709551616 from λy hy=>(wa6.1 hy).elim (hT64.out y) (hkd64.out qq y));have hqL:(T++slW ws qq).length=T.length+qq.s.toNat:=by rw[was,hsw.1]
         have hqs:qq.s<=255:=Zo
         have hqwk:=waa hqw;have hqLh:=waa hqL;have hb1:=waa b1;have hbb:=waa (And.intro b4 (And.intro b5 (And.intro b6 (And.intro b9 (And.intro b10 b11)))));clear hqw hwk hx hsw hnot hq hqL b1 b2 b4 b5 b6 b7 b8 b9 b10 b11 b12 b13 b14 b15;go_wp2_with fail;have hBa:Below V.heap.size V (V.alloc (.cells #[.int .i64 0,.int .i64 0,.int .i64 0,.int .i64 0,.int .i64 0,.int .i64 0,.int .i64 0] 166)).drew:=((wac _ V).alloc (wab _) _).drew;have hl0:=hst.geo.lt;have hl1:=wak V _ htx;have ne0:¬w.heap.size=V.heap.size:=Zo
         have ne1:¬(p2.add i).block=V.heap.size:=Zo
         obtain⟨q0,q1,q2,q3⟩:V.drew.cell? ⟨w.heap.size,0,none⟩=some (.int .i64 s)/\V.drew.cell? ⟨w.heap.size,1,none⟩=some (.int .i64 l)/\V.drew.cell? ⟨w.heap.size,2,none⟩=some (.int .i64 (j:Int))/\V.drew.cell? (p2.add i)=some (.int .u64 (x:Int)):=⟨hst.geo.cells.1,hst.geo.cells.2.1,hst.geo.cells.2.2.1,htx⟩
         obtain⟨r0',r1',r2',r3'⟩:(V.alloc (.cells #[.int .i64 0,.int .i64 0,.int .i64 0,.int .i64 0,.int .i64 0,.int .i64 0,.int .i64 0] 166)).drew.cell? ⟨w.heap.size,0,none⟩=some (.int .i64 s)/\(V.alloc (.cells #[.int .i64 0,.int .i64 0,.int .i64 0,.int .i64 0,.int .i64 0,.int .i64 0,.int .i64 0] 166)).drew.cell? ⟨w.heap.size,1,none⟩=some (.int .i64 l)/\(V.alloc (.cells #[.int .i64 0,.int .i64 0,.int .i64 0,.int .i64 0,.int .i64 0,.int .i64 0,.int .i64 0] 166)).drew.cell? ⟨w.heap.size,2,none⟩=some (.int .i64 (j:Int))/\(V.alloc (.cells #[.int .i64 0,.int .i64 0,.int .i64 0,.int .i64 0,.int .i64 0,.int .i64 0,.int .i64 0] 166)).drew.cell? (p2.add i)=some (.int .u64 (x:Int)):=
          ⟨(hBa.cell (p:=⟨w.heap.size,0,none⟩) hl0).trans hst.geo.cells.1,(hBa.cell (p:=⟨w.heap.size,1,none⟩) hl0).trans hst.geo.cells.2.1,(hBa.cell (p:=⟨w.heap.size,2,none⟩) hl0).trans hst.geo.cells.2.2.1,(hBa.cell hl1).trans htx⟩
         have hoa:=waa (show Lb (V.alloc (.cells #[.int .i64 0,.int .i64 0,.int .i64 0,.int .i64 0,.int .i64 0,.int .i64 0,.int .i64 0] 166)) V.heap.size lv0 from World.alloc_heap_new V _);have htx':=waa htx;clear htx;go_region_held3 (λU=>U.cell? ⟨w.heap.size,0,none⟩=some (.int .i64 s)/\U.cell? ⟨w.heap.size,1,none⟩=some (.int .i64 l)/\U.cell? ⟨w.heap.size,2,none⟩=some (.int .i64 (j:Int))/\U.cell? (p2.add i)=some (.int .u64 (x:Int)))
          (first|with_reducible exact⟨q0,q1,q2,q3⟩|with_reducible exact⟨r0',r1',r2',r3'⟩|with_reducible exact⟨t0,t1,t2,t3⟩|with_reducible exact⟨qb5 t0 ne0,qb5 t1 ne0,qb5 t2 ne0,qb5 t3 ne1⟩|go_keep)
          (first
           |(go_at_call 115
             refine(hobj.out _ (by first|exact(wac _ V).drew|exact hBa)).mono ?_;rintro e w4 ⟨rfl,hC⟩;have hW4:Below V.heap.size V w4:=by first|exact(wac _ V).drew.trans (hC.mono (wab _))|exact hBa.trans (hC.mono (wbb (qdh V _)))
             obtain⟨t0,t1,t2,tf⟩:=(hst.geo.below hW4 hl0).cells;have t3:=(hW4.cell hl1).trans htx'.out
             first|(have ho4:=waa (show Lb w4 V.heap.size lv0 from Lb.below (show Lb (V.alloc (.cells #[.int .i64 0,.int .i64 0,.int .i64 0,.int .i64 0,.int .i64 0,.int .i64 0,.int .i64 0] 166)).drew V.heap.size lv0 from hoa.out) hC (qdh V _));obtain⟨⟨n0,n1,n2,n3,n4,n5,n6⟩,nf⟩:=Lb.cells ho4.out)|skip))
         ·have hV5:=hW4.alloc hW4.size (.cells (lvV qq).toArray 166)
          have hbx:=Lb.new w4 qq;have hbl:V.heap.size<=w4.heap.size:=hW4.size;simp only[lvV] at hV5 hbx;generalize w4.alloc (.cells #[.int .i64 qq.a,.int .i64 qq.r,.int .i64 qq.s,.int .i64 qq.n,.int .i64 qq.sp,.int .i64 qq.ix,.int .i64 qq.wd] 166)=V5 at hV5 hbx ⊢;generalize w4.heap.size=bx at hbx hbl ⊢;rename_i hHeld;clear hHeld;clear q0 q1 q2 q3 r0' r1' r2' r3' t0 t1 t2 tf t3 hoa hC hW4 ne0 ne1 hBa hl0 hl1 htx'
          have hst5:=hst.below hV5;have hbne:some bx≠(Value.slice AF F.length cF).ownBlock:=λe=>by have:=(hst.own1.lt bx e.symm).2;omega
          clear hV5 hst hbl;obtain⟨d0,d1,d2,d3,d4,d5,d6⟩:=hbx.seven;have hs5:=hst5.low.size;have hown5:=hst5.own1;have hbneh:=waa hbne;clear hbne;go_wp2_with (at_builtin;first
           |(have hgd:=hown5;clear hgd;go_loud (refine wpList_append_own _ rfl _ _ 154 rfl w.heap.size 166 j0 (.agg #[.int .i64 0,.int .i64 0,.int .i64 0,.int .i64 0,.int .i64 0,.int .i64 0,.int .i64 0]) 7 56 wf8 jj jz0 jz1 jz2 rfl Zd _ _ _ rfl (hown5.alloc _) ⟨V5.heap.size,0,none⟩ 1 1 (lvV qq) rfl rfl (qb3 rfl _ rfl _) (by simp[lvV,Value.oneCell']) (by simp only[maxLen];omega) Zo Zx ?_);intro vF' w6 hown6 hgrow6 _;have hst6:=hst5.addF hown6 hgrow6;have hbx6:Lb w6 bx qq:=((show(V5.alloc _).grownBy w6 (Value.slice AF F.length cF).ownBlock from hgrow6).block bx (by have:=hbx.lt;simp;omega) (by first|exact hbneh.out|exact hbneh.out.symm|simpa using hbneh.out)).trans (qag hbx _);have hs6:=hst6.low.size;have hown7:=hst6.own3;clear hst5 hown5 hs5 hown6 hgrow6 hbx hbneh d0 d1 d2 d3 d4 d5 d6)
           |(have hgd:=hown7;clear hgd;go_loud (refine wpList_append_own _ rfl _ _ 65 rfl w.heap.size 3 k0' (.int .i64 0) 1 8 wbs kk kz0 kz1 kz2 rfl Zd _ _ _ rfl (hown7.alloc _) ⟨w6.heap.size,0,none⟩ 1 1 [.int .i64 0] rfl rfl (qd3 Zs _ _) (by simp[Value.oneCell']) (by simp only[maxLen];omega) Zo Zx ?_);intro vC' w7 hown8 hgrow8 _;have hst7:=hst6.addC (x:=0) hown8 hgrow8;have hbx7:Lb w7 bx qq:=qb1 hbx6 Zd hown7 hgrow8;clear hst6 hown7 hs6 hown8 hgrow8 hbx6))
          go_loopw [9,16] (λvT q wr=>∃(W:World) (k:Nat),W=wr/\q= .int .i64 (k:Int)/\(k:Int)<=qq.s/\ReSt w W s l (j:Int) hs (.slice HA hs.length cH) vF' vT vC' (F++[qq]) (T++(slW ws qq).take k) (C++[0])/\Lb W bx qq) (λ_ q _=>qq.s.toNat - (RowKit.intOf q).toNat)
          case atStart=>exact⟨_,0,rfl,rfl,Zo,by simpa using hst7,hbx7⟩
          case round=>
           clear hst7 hbx7;obtain⟨V8,k,rfl,rfl,hk,hst8,hbx8⟩:=hrel;obtain⟨d0,d1,d2,d3,d4,d5,d6⟩:=hbx8.seven;obtain⟨b4,b5,b6,b9,b10,b11⟩:=hbb.out;by_cases hks:(k:Int)<qq.s
           ·obtain⟨y,hy1,hy2⟩:=hslot.out k hks
            have h8:x+1+k<ws.length:=(wan.1 hy1).1;obtain⟨p,rfl,-⟩:=qa6 hrK.out hy1;have hcw:=waa (λ(U:World) (hU:Below w.heap.size w U)=>show U.cell? (p.add (x+1+k))=some (.int .u64 (y:Int)) from hget.out _ y p rfl hy1 U hU);obtain⟨h,hh⟩:∃h:Nat,x+1+k=h:=⟨_,rfl⟩
            rw[hh] at hcw;have e1:IntKind.i64.wrap (qq.a+1)=qq.a+1:=wao _ (by have:=hb1.out;omega);have e2:IntKind.i64.wrap (qq.a+1+(k:Int))=(h:Int):=(wao _ (by have:=hb1.out;omega)).trans (by have:=hb1.out;omega);have k0:(0:Int)<=(h:Int):=Zo
            have k1:(h:Int)<(ws.length:Int):=Zo
            have x0:=hcw.out V8 hst8.low;have hs8:=hst8.low.size;have hown8:=hst8.own2;have htl:(T++(slW ws qq).take k).length<=T.length+255:=by rw[was,war];omega
            have htl2:=hF5;clear hh hcw hy1 b4 b5 b6 b9 b10 b11;go_wp2_with (at_builtin;go_loud (refine wpList_append_own _ rfl _ _ 40 rfl w.heap.size 27 i0 (.int .u64 0) 1 8 wbi ii iz0 iz1 iz2 rfl Zd _ _ _ rfl (hown8.alloc _) ⟨V8.heap.size,0,none⟩ 1 1 [.int .u64 (y:Int)] rfl rfl (qd3 Zs _ _) (by simp[Value.oneCell']) (by simp only[maxLen];omega) Zo Zx ?_);intro v' w9 hown9 hgrow9 _;have hst9:=hst8.addT hown9 hgrow9;have hbx9:Lb w9 bx qq:=qb1 hbx8 Zd hown8 hgrow9;clear hst8 hbx8 hown8 hown9 hgrow9 hs8)
            go_roundw
            case rel=>exact⟨_,k+1,rfl,by go_num,Zo,by rw[hy2,<-wbm];exact hst9,hbx9⟩
            case measure=>simp[RowKit.intOf];omega
           ·rw[show(slW ws qq).take k=slW ws qq from wa2 (by have:=hsl.out;omega)] at hst8
            obtain⟨AT',cT',rfl,hRT'⟩:=Rd.of_own hst8.own2;obtain⟨AF',cF',rfl,-⟩:=LsRd.of_own hst8.own1;have hCl:0<(C++[0]).length:=by simp
            obtain⟨gc,capc,hce,hgb,hgl⟩:=hst8.own3.form hCl;subst hce;have hjC:F.length<(C++[0]).length:=by rw[was,hCF];simp
            have hcell:=hst8.own3.cellAt F.length Zo;rw[show(nV (C++[0]))[F.length]? =some (.int .i64 ((0:Nat):Int)) from qq8 (by rw[<-hCF];simp)] at hcell;have hfz:=hst8.own3.frozenAt F.length;have hst9:=hst8.setC (j:=F.length) (x:=1) rfl;rw[show List.set (C++[0]) F.length 1=C++[1] from by rw[<-hCF];simp] at hst9;rw[show(C++[(0:Nat)]).length=F.length+1 from by rw[was,hCF];rfl] at hst9 ⊢;clear hjC hCl hRT' hst8 b4 b5 b6 b9 b10 b11;have k0:(0:Int)<=(F.length:Int):=Zo
            have k1:(F.length:Int)<((F.length+1:Nat):Int):=Zo
            go_wp2_with fail;go_roundw
            case rel=>exact⟨_,F++[qq],T++slW ws qq,C++[1],i+1,rfl,by go_num,hst9,hqwk,by have:=hqLh.out;omega,hqF,by simp[hCF],by have:=hqLh.out;rw[this,was];simp only[wca];omega,hqT⟩
            case measure=>have:=hqLh.out;simp only[sLen,RowKit.intOf,was,wca] at this ⊢;simp;omega
         ·have hV5:=Lb.set_low (q:=qq) hW4
          have hbx:=Lb.set ho4.out qq;have hbl:V.heap.size<=V.heap.size:=wab _;generalize (((((((w4).setCell ⟨V.heap.size,0,none⟩ (.int .i64 qq.a)).setCell ⟨V.heap.size,1,none⟩ (.int .i64 qq.r)).setCell ⟨V.heap.size,2,none⟩ (.int .i64 qq.s)).setCell ⟨V.heap.size,3,none⟩ (.int .i64 qq.n)).setCell ⟨V.heap.size,4,none⟩ (.int .i64 qq.sp)).setCell ⟨V.heap.size,5,none⟩ (.int .i64 qq.ix)).setCell ⟨V.heap.size,6,none⟩ (.int .i64 qq.wd)=V5 at hV5 hbx ⊢;generalize hbxe:V.heap.size=bx at hbx ⊢;have hbl:V.heap.size<=bx:=Zo
          clear hbxe;clear n0 n1 n2 n3 n4 n5 n6 nf ho4;rename_i hHeld;clear hHeld;clear q0 q1 q2 q3 r0' r1' r2' r3' t0 t1 t2 tf t3 hoa hC hW4 ne0 ne1 hBa hl0 hl1 htx'
          have hst5:=hst.below hV5;have hbne:some bx≠(Value.slice AF F.length cF).ownBlock:=λe=>by have:=(hst.own1.lt bx e.symm).2;omega
          clear hV5 hst hbl;obtain⟨d0,d1,d2,d3,d4,d5,d6⟩:=hbx.seven;have hs5:=hst5.low.size;have hown5:=hst5.own1;have hbneh:=waa hbne;clear hbne;go_wp2_with (at_builtin;first
           |(have hgd:=hown5;clear hgd;go_loud (refine wpList_append_own _ rfl _ _ 154 rfl w.heap.size 166 j0 (.agg #[.int .i64 0,.int .i64 0,.int .i64 0,.int .i64 0,.int .i64 0,.int .i64 0,.int .i64 0]) 7 56 wf8 jj jz0 jz1 jz2 rfl Zd _ _ _ rfl (hown5.alloc _) ⟨V5.heap.size,0,none⟩ 1 1 (lvV qq) rfl rfl (qb3 rfl _ rfl _) (by simp[lvV,Value.oneCell']) (by simp only[maxLen];omega) Zo Zx ?_);intro vF' w6 hown6 hgrow6 _;have hst6:=hst5.addF hown6 hgrow6;have hbx6:Lb w6 bx qq:=((show(V5.alloc _).grownBy w6 (Value.slice AF F.length cF).ownBlock from hgrow6).block bx (by have:=hbx.lt;simp;omega) (by first|exact hbneh.out|exact hbneh.out.symm|simpa using hbneh.out)).trans (qag hbx _);have hs6:=hst6.low.size;have hown7:=hst6.own3;clear hst5 hown5 hs5 hown6 hgrow6 hbx hbneh d0 d1 d2 d3 d4 d5 d6)
           |(have hgd:=hown7;clear hgd;go_loud (refine wpList_append_own _ rfl _ _ 65 rfl w.heap.size 3 k0' (.int .i64 0) 1 8 wbs kk kz0 kz1 kz2 rfl Zd _ _ _ rfl (hown7.alloc _) ⟨w6.heap.size,0,none⟩ 1 1 [.int .i64 0] rfl rfl (qd3 Zs _ _) (by simp[Value.oneCell']) (by simp only[maxLen];omega) Zo Zx ?_);intro vC' w7 hown8 hgrow8 _;have hst7:=hst6.addC (x:=0) hown8 hgrow8;have hbx7:Lb w7 bx qq:=qb1 hbx6 Zd hown7 hgrow8;clear hst6 hown7 hs6 hown8 hgrow8 hbx6))
          go_loopw [9,16] (λvT q wr=>∃(W:World) (k:Nat),W=wr/\q= .int .i64 (k:Int)/\(k:Int)<=qq.s/\ReSt w W s l (j:Int) hs (.slice HA hs.length cH) vF' vT vC' (F++[qq]) (T++(slW ws qq).take k) (C++[0])/\Lb W bx qq) (λ_ q _=>qq.s.toNat - (RowKit.intOf q).toNat)
          case atStart=>exact⟨_,0,rfl,rfl,Zo,by simpa using hst7,hbx7⟩
          case round=>
           clear hst7 hbx7;obtain⟨V8,k,rfl,rfl,hk,hst8,hbx8⟩:=hrel;obtain⟨d0,d1,d2,d3,d4,d5,d6⟩:=hbx8.seven;obtain⟨b4,b5,b6,b9,b10,b11⟩:=hbb.out;by_cases hks:(k:Int)<qq.s
           ·obtain⟨y,hy1,hy2⟩:=hslot.out k hks
            have h8:x+1+k<ws.length:=(wan.1 hy1).1;obtain⟨p,rfl,-⟩:=qa6 hrK.out hy1;have hcw:=waa (λ(U:World) (hU:Below w.heap.size w U)=>show U.cell? (p.add (x+1+k))=some (.int .u64 (y:Int)) from hget.out _ y p rfl hy1 U hU);obtain⟨h,hh⟩:∃h:Nat,x+1+k=h:=⟨_,rfl⟩
            rw[hh] at hcw;have e1:IntKind.i64.wrap (qq.a+1)=qq.a+1:=wao _ (by have:=hb1.out;omega);have e2:IntKind.i64.wrap (qq.a+1+(k:Int))=(h:Int):=(wao _ (by have:=hb1.out;omega)).trans (by have:=hb1.out;omega);have k0:(0:Int)<=(h:Int):=Zo
            have k1:(h:Int)<(ws.length:Int):=Zo
            have x0:=hcw.out V8 hst8.low;have hs8:=hst8.low.size;have hown8:=hst8.own2;have htl:(T++(slW ws qq).take k).length<=T.length+255:=by rw[was,war];omega
            have htl2:=hF5;clear hh hcw hy1 b4 b5 b6 b9 b10 b11;go_wp2_with (at_builtin;go_loud (refine wpList_append_own _ rfl _ _ 40 rfl w.heap.size 27 i0 (.int .u64 0) 1 8 wbi ii iz0 iz1 iz2 rfl Zd _ _ _ rfl (hown8.alloc _) ⟨V8.heap.size,0,none⟩ 1 1 [.int .u64 (y:Int)] rfl rfl (qd3 Zs _ _) (by simp[Value.oneCell']) (by simp only[maxLen];omega) Zo Zx ?_);intro v' w9 hown9 hgrow9 _;have hst9:=hst8.addT hown9 hgrow9;have hbx9:Lb w9 bx qq:=qb1 hbx8 Zd hown8 hgrow9;clear hst8 hbx8 hown8 hown9 hgrow9 hs8)
            go_roundw
            case rel=>exact⟨_,k+1,rfl,by go_num,Zo,by rw[hy2,<-wbm];exact hst9,hbx9⟩
            case measure=>simp[RowKit.intOf];omega
           ·rw[show(slW ws qq).take k=slW ws qq from wa2 (by have:=hsl.out;omega)] at hst8
            obtain⟨AT',cT',rfl,hRT'⟩:=Rd.of_own hst8.own2;obtain⟨AF',cF',rfl,-⟩:=LsRd.of_own hst8.own1;have hCl:0<(C++[0]).length:=by simp
            obtain⟨gc,capc,hce,hgb,hgl⟩:=hst8.own3.form hCl;subst hce;have hjC:F.length<(C++[0]).length:=by rw[was,hCF];simp
            have hcell:=hst8.own3.cellAt F.length Zo;rw[show(nV (C++[0]))[F.length]? =some (.int .i64 ((0:Nat):Int)) from qq8 (by rw[<-hCF];simp)] at hcell;have hfz:=hst8.own3.frozenAt F.length;have hst9:=hst8.setC (j:=F.length) (x:=1) rfl;rw[show List.set (C++[0]) F.length 1=C++[1] from by rw[<-hCF];simp] at hst9;rw[show(C++[(0:Nat)]).length=F.length+1 from by rw[was,hCF];rfl] at hst9 ⊢;clear hjC hCl hRT' hst8 b4 b5 b6 b9 b10 b11;have k0:(0:Int)<=(F.length:Int):=Zo
            have k1:(F.length:Int)<((F.length+1:Nat):Int):=Zo
            go_wp2_with fail;go_roundw
            case rel=>exact⟨_,F++[qq],T++slW ws qq,C++[1],i+1,rfl,by go_num,hst9,hqwk,by have:=hqLh.out;omega,hqF,by simp[hCF],by have:=hqLh.out;rw[this,was];simp only[wca];omega,hqT⟩
            case measure=>have:=hqLh.out;simp only[sLen,RowKit.intOf,was,wca] at this ⊢;simp;omega
      ·have hbd:decide ((x:Int)<100000)=false:=decide_eq_false Zo
       have hnob:obO s l (j:Int) hs ws x=none:=by
        cases hq:obO s l (j:Int) hs ws x with
        |none=>rfl
        |some q=>have:=qev hq;have:=hlen.out;omega
       have hobj:=waa (λU (hU:Below V.heap.size V U)=>(hobjF.out HA cH U x hx64 (hst.low.trans (hU.mono hst.low.size)) (qok (qaf hst.own0 hU))).mono λe w' ⟨h1,h2⟩=>(⟨by rw[hnob] at h1;exact h1,h2⟩:e=Ending.returned (.tuple #[.agg #[.int .i64 0,.int .i64 0,.int .i64 0,.int .i64 0,.int .i64 0,.int .i64 0,.int .i64 0],.bool false])/\Below U.heap.size U w'));have hnores:=waa (show qh5 rt (kdO s l (j:Int) hs ws) (obO s l (j:Int) hs ws) from .inl ⟨x,hwk.out.reach x (waq hx) hx0,hnob⟩);clear hwk hx hnob;go_wp2_with fail;have hBa:Below V.heap.size V (V.alloc (.cells #[.int .i64 0,.int .i64 0,.int .i64 0,.int .i64 0,.int .i64 0,.int .i64 0,.int .i64 0] 166)).drew:=((wac _ V).alloc (wab _) _).drew;have hl0:=hst.geo.lt;have hl1:=wak V _ htx;have ne0:¬w.heap.size=V.heap.size:=Zo
       have ne1:¬(p2.add i).block=V.heap.size:=Zo
       obtain⟨q0,q1,q2,q3⟩:V.drew.cell? ⟨w.heap.size,0,none⟩=some (.int .i64 s)/\V.drew.cell? ⟨w.heap.size,1,none⟩=some (.int .i64 l)/\V.drew.cell? ⟨w.heap.size,2,none⟩=some (.int .i64 (j:Int))/\V.drew.cell? (p2.add i)=some (.int .u64 (x:Int)):=⟨hst.geo.cells.1,hst.geo.cells.2.1,hst.geo.cells.2.2.1,htx⟩
       obtain⟨r0',r1',r2',r3'⟩:(V.alloc (.cells #[.int .i64 0,.int .i64 0,.int .i64 0,.int .i64 0,.int .i64 0,.int .i64 0,.int .i64 0] 166)).drew.cell? ⟨w.heap.size,0,none⟩=some (.int .i64 s)/\(V.alloc (.cells #[.int .i64 0,.int .i64 0,.int .i64 0,.int .i64 0,.int .i64 0,.int .i64 0,.int .i64 0] 166)).drew.cell? ⟨w.heap.size,1,none⟩=some (.int .i64 l)/\(V.alloc (.cells #[.int .i64 0,.int .i64 0,.int .i64 0,.int .i64 0,.int .i64 0,.int .i64 0,.int .i64 0] 166)).drew.cell? ⟨w.heap.size,2,none⟩=some (.int .i64 (j:Int))/\(V.alloc (.cells #[.int .i64 0,.int .i64 0,.int .i64 0,.int .i64 0,.int .i64 0,.int .i64 0,.int .i64 0] 166)).drew.cell? (p2.add i)=some (.int .u64 (x:Int)):=
        ⟨(hBa.cell (p:=⟨w.heap.size,0,none⟩) hl0).trans hst.geo.cells.1,(hBa.cell (p:=⟨w.heap.size,1,none⟩) hl0).trans hst.geo.cells.2.1,(hBa.cell (p:=⟨w.heap.size,2,none⟩) hl0).trans hst.geo.cells.2.2.1,(hBa.cell hl1).trans htx⟩
       have hoa:=waa (show Lb (V.alloc (.cells #[.int .i64 0,.int .i64 0,.int .i64 0,.int .i64 0,.int .i64 0,.int .i64 0,.int .i64 0] 166)) V.heap.size lv0 from World.alloc_heap_new V _);have htx':=waa htx;clear htx;go_region_held3 (λU=>U.cell? ⟨w.heap.size,0,none⟩=some (.int .i64 s)/\U.cell? ⟨w.heap.size,1,none⟩=some (.int .i64 l)/\U.cell? ⟨w.heap.size,2,none⟩=some (.int .i64 (j:Int))/\U.cell? (p2.add i)=some (.int .u64 (x:Int)))
        (first|with_reducible exact⟨q0,q1,q2,q3⟩|with_reducible exact⟨r0',r1',r2',r3'⟩|with_reducible exact⟨t0,t1,t2,t3⟩|with_reducible exact⟨qb5 t0 ne0,qb5 t1 ne0,qb5 t2 ne0,qb5 t3 ne1⟩|go_keep)
        (first
         |(go_at_call 115
           refine(hobj.out _ (by first|exact(wac _ V).drew|exact hBa)).mono ?_;rintro e w4 ⟨rfl,hC⟩;have hW4:Below V.heap.size V w4:=by first|exact(wac _ V).drew.trans (hC.mono (wab _))|exact hBa.trans (hC.mono (wbb (qdh V _)))
           obtain⟨t0,t1,t2,tf⟩:=(hst.geo.below hW4 hl0).cells;have t3:=(hW4.cell hl1).trans htx'.out
           first|(have ho4:=waa (show Lb w4 V.heap.size lv0 from Lb.below (show Lb (V.alloc (.cells #[.int .i64 0,.int .i64 0,.int .i64 0,.int .i64 0,.int .i64 0,.int .i64 0,.int .i64 0] 166)).drew V.heap.size lv0 from hoa.out) hC (qdh V _));obtain⟨⟨n0,n1,n2,n3,n4,n5,n6⟩,nf⟩:=Lb.cells ho4.out)|skip))
       ·have hV5:=hW4.alloc hW4.size (.cells (lvV lv0).toArray 166)
        have hbx:=Lb.new w4 lv0;have hbl:V.heap.size<=w4.heap.size:=hW4.size;simp only[lvV,lv0] at hV5 hbx;generalize w4.alloc (.cells #[.int .i64 0,.int .i64 0,.int .i64 0,.int .i64 0,.int .i64 0,.int .i64 0,.int .i64 0] 166)=V5 at hV5 hbx ⊢;generalize w4.heap.size=bx at hbx hbl ⊢;rename_i hHeld;clear hHeld;clear q0 q1 q2 q3 r0' r1' r2' r3' t0 t1 t2 tf t3 hoa hC hW4 ne0 ne1 hBa hl0 hl1 htx'
        have hB5:=hst.low.trans (hV5.mono hst.low.size);clear hbx hbl hV5 hst;go_wp2_with fail;try rw[wa0]
        go_ret2;exact⟨.inr ⟨hnores.out,rfl⟩,hB5⟩
       ·have hV5:=Lb.set_low (q:=lv0) hW4
        have hbx:=Lb.set ho4.out lv0;have hbl:V.heap.size<=V.heap.size:=wab _;simp only[lv0] at hV5 hbx;generalize (((((((w4).setCell ⟨V.heap.size,0,none⟩ (.int .i64 0)).setCell ⟨V.heap.size,1,none⟩ (.int .i64 0)).setCell ⟨V.heap.size,2,none⟩ (.int .i64 0)).setCell ⟨V.heap.size,3,none⟩ (.int .i64 0)).setCell ⟨V.heap.size,4,none⟩ (.int .i64 0)).setCell ⟨V.heap.size,5,none⟩ (.int .i64 0)).setCell ⟨V.heap.size,6,none⟩ (.int .i64 0)=V5 at hV5 hbx ⊢;generalize hbxe:V.heap.size=bx at hbx ⊢;have hbl:V.heap.size<=bx:=Zo
        clear hbxe;clear n0 n1 n2 n3 n4 n5 n6 nf ho4;rename_i hHeld;clear hHeld;clear q0 q1 q2 q3 r0' r1' r2' r3' t0 t1 t2 tf t3 hoa hC hW4 ne0 ne1 hBa hl0 hl1 htx'
        have hB5:=hst.low.trans (hV5.mono hst.low.size);clear hbx hbl hV5 hst;go_wp2_with fail;try rw[wa0]
        go_ret2;exact⟨.inr ⟨hnores.out,rfl⟩,hB5⟩
    ·obtain rfl:i=T.length:=Zo
     have hwd:=waa hwk.out;have hout0:V.ownsRow V.heap.size 166 7 (.slice none 0 0) (outF F T 0).length (lsV (outF F T 0)):=wa9 _ _ _ _;have hall:=waa (show ∀o∈F,o.ad<ws.length from λo ho=>by
      have h1:=qev (hwk.out.each o ho).1;have h2:=hlen.out;omega)
     have hdone:=waa (hwk.out.done hall.out (λo ho=>(hwk.out.each o ho).2.1));have hs0:=waa (show ∀o∈outF F T 0,o.r<=65535 from λo ho=>by simp[outF] at ho);have hCFh:=waa hCF;clear hwk hi hT64 hTF;go_wp2_with fail;clear hCF;go_loopw [17,18] (λv q wr=>∃(W:World) (a:Nat),W=wr/\q= .int .i64 (a:Int)/\a<=ws.length/\W.ownsRow V.heap.size 166 7 v (outF F T a).length (lsV (outF F T a))/\Below V.heap.size V W/\Hid (∀o∈outF F T a,o.r<=65535)/\(outF F T a).length<=a) (λ_ q _=>ws.length - (RowKit.intOf q).toNat)
     case atStart=>exact⟨_,0,rfl,rfl,Zo,hout0,wac _ V,hs0,by simp[outF]⟩
     case round=>
      clear hout0 hs0;obtain⟨W,a,rfl,rfl,ha,how,hB,hsm,hol⟩:=hrel;obtain⟨AO,cO,rfl,-⟩:=LsRd.of_own how;by_cases hal:a<ws.length
      ·have a0:(a:Int)<(ws.length:Int):=Zo
       have hfd:=qlk AF cF F (a:Int) W (hRF.below hB) Zo;have hos:=q7j F T a;rcases qo2 F (a:Int) with ⟨jj',o,hfe,hFj,hoa⟩|⟨hfe,hFn⟩
       ·rw[hfe] at hfd
        have hfd':=waa hfd;have hoad:o.ad=a:=by unfold LV.ad;omega
        have hfs:=hwd.out.found hFj hoad;rw[hfs] at hos;obtain⟨hCj,hcb⟩:=hwd.out.count hFj;rw[wbz,hoad] at hCj hcb;have hmem:=waa (show o.withR ((T.count a:Nat):Int)∈outF F T ws.length from wfy.2 ⟨a,wcc.2 hal,by rw[hfs];rfl⟩);have hos2:=waa (show outF F T (a+1)=outF F T a++[o.withR ((T.count a:Nat):Int)] from hos);generalize T.count a=cj at hCj hcb hos2 hmem;have hjl:jj'<F.length:=(wan.1 hFj).1;have hCl:0<C.length:=by have:=hCFh.out;omega
        obtain⟨gc,capc,hce,hgb,hgl⟩:=hst.own3.form hCl;injection hce with h1 h2 h3;subst h1 h3;have hcell:=hst.own3.cellAt jj' (by have:=hCFh.out;omega);rw[qq8 hCj] at hcell;have x1:W.cell? ⟨gc,jj',none⟩=some (.int .i64 (cj:Int)):=(hB.cell (p:=⟨gc,jj',none⟩) (wak V _ hcell)).trans hcell;have hgw:=wak W _ x1;have hne:¬gc=W.heap.size:=Nat.ne_of_lt hgw;obtain⟨p0,o',rfl,ho',hlv⟩:=(hRF.below hB).at_ hjl;have hoo:o'=o:=wco (ho'.symm.trans hFj);rw[hoo] at hlv;obtain⟨n0,n1,n2,n3,n4,n5,n6⟩:=hlv;have y1:(W.alloc (.cells #[.int .i64 o.a,.int .i64 o.r,.int .i64 o.s,.int .i64 o.n,.int .i64 o.sp,.int .i64 o.ix,.int .i64 o.wd] 166)).cell? ⟨gc,jj',none⟩=some (.int .i64 (cj:Int)):=(((wac _ W).alloc (wab _) _).cell (p:=⟨gc,jj',none⟩) hgw).trans x1;have hB2:=hB.alloc hB.size (.cells #[.int .i64 o.a,.int .i64 (cj:Int),.int .i64 o.s,.int .i64 o.n,.int .i64 o.sp,.int .i64 o.ix,.int .i64 o.wd] 166);have hBW:=(wac _ W).alloc (wab _) (.cells #[.int .i64 o.a,.int .i64 (cj:Int),.int .i64 o.s,.int .i64 o.n,.int .i64 o.sp,.int .i64 o.ix,.int .i64 o.wd] 166);have y2:=(hBW.cell (p:=⟨gc,jj',none⟩) hgw).trans x1;have how2:=qaf how hBW;have hneg:decide ((jj':Int)<0)=false:=decide_eq_false Zo;have k0:(0:Int)<=(jj':Int):=Zo
        have k1:(jj':Int)<(F.length:Int):=Zo
        have kC:jj'<C.length:=by have:=hCFh.out;omega
        have kD:(jj':Int)<(C.length:Int):=Zo
        clear hfd hfe hFj hoa hoad hfs hos hCj hCl h2 hcell ho' hoo hgb hgl;by_cases hbg:65535<cj
        ·have hgt:(65535:Int)<(cj:Int):=Zo
         have hno:=waa (show qh5 rt (kdO s l (j:Int) hs ws) (obO s l (j:Int) hs ws) from .inr ⟨_,hdone.out,_,hmem.out,by show(65535:Int)<(cj:Int);omega⟩);have hB6:=hst.low.trans (hB2.mono hst.low.size);clear hst how how2 hB hsm hdone hwd hall hB2 hBW;go_wp2_with fail;refine hfd'.out.mono ?_;rintro e V' ⟨rfl,rfl⟩;clear hfd';go_wp2_with fail;try rw[wa0]
         go_ret2;exact⟨.inr ⟨hno.out,rfl⟩,hB6⟩
        ·have hgt:¬(65535:Int)<(cj:Int):=Zo
         go_wp2_with fail;refine hfd'.out.mono ?_;rintro e V' ⟨rfl,rfl⟩;clear hfd';have hsz:=hB.size;go_wp2_with (at_builtin;go_loud (refine wpList_append_own _ rfl _ _ 154 rfl V.heap.size 166 j0 (.agg #[.int .i64 0,.int .i64 0,.int .i64 0,.int .i64 0,.int .i64 0,.int .i64 0,.int .i64 0]) 7 56 wf8 jj jz0 jz1 jz2 rfl Zd _ _ _ rfl (how2.alloc _) ⟨W.heap.size+1,0,none⟩ 1 1 (lvV (o.withR (cj:Int))) rfl rfl (qb3 Zs _ rfl _) (by simp[lvV,LV.withR,Value.oneCell']) (by simp only[maxLen];omega) Zo Zx ?_;intro v' w9 hown9 hgrow9 _;have hB9:=(hB2.alloc hB2.size _).grown hgrow9 Zx (qa0 how2)))
         go_roundw
         case rel=>exact⟨_,a+1,rfl,by go_num,Zo,by rw[hos2.out,qrs,was];exact hown9,hB9,waa (λq hq=>by rw[hos2.out] at hq;exact(wa6.1 hq).elim (hsm.out q) (λhq=>by rw[wbx.1 hq];show(cj:Int)<=65535;omega)),by rw[hos2.out,was];simp only[wca];omega⟩
         case measure=>simp[RowKit.intOf];omega
       ·rw[hfe] at hfd
        have hfd':=waa hfd;have hfn:F.find? (λo=>decide (o.ad=a))=none:=wed.2 λo ho=>by
         have h1:=hFn o ho;have h2:=(hwd.out.each o ho).2.1;simp only[decide_eq_true_eq];unfold LV.ad;omega
        rw[hfn] at hos;have hos2:=waa (show outF F T (a+1)=outF F T a from hos.trans (wbl _));clear hfd hfe hFn hfn hos;go_wp2_with fail;refine hfd'.out.mono ?_;rintro e V' ⟨rfl,rfl⟩;clear hfd';go_wp2_with fail;go_roundw
        case rel=>exact⟨_,a+1,rfl,by go_num,Zo,by rw[hos2.out];exact how,hB,by rw[hos2.out];exact hsm,by rw[hos2.out];omega⟩
        case measure=>simp[RowKit.intOf];omega
      ·obtain rfl:a=ws.length:=Zo
       have hB5:=hst.low.trans (hB.mono hst.low.size);have how5:=qax how hst.low.size;have hres:=waa (show qwj w.heap.size rt (kdO s l (j:Int) hs ws) (obO s l (j:Int) hs ws) (.returned (.tuple #[Value.slice AO (outF F T ws.length).length cO,.bool true])) W from .inl ⟨_,_,hdone.out,hsm.out,rfl,how5⟩);clear hst how how5 hB hsm hdone hwd hall;go_wp2_with fail;try rw[wa0]
       go_ret2;exact⟨hres.out,hB5⟩
end Go.Proofs.YtocncmbeinmiaaaGreat
