/- Parts. No condition. -/
import Derived.Laws.ResultCell
import Derived.Laws.Rows
import Derived.Test.YtgjhkafggagniaaGreatJoinV04
set_option linter.unusedVariables false
set_option maxRecDepth 100000
set_option maxHeartbeats 8000000
namespace Go.Proofs.YtgjhkafggagniaaGreat
open Go Go.RowKit
section
variable {w:World} {X p gs gk m n tp tg nl C:Nat} {D:DM} {who:Int} {df lv an:Value} {l:List Nat} {ov:Bool} {ba bx:Nat} {a:Int} {x:Nat}
theorem PsR.not{b:Nat}{Cs:Array Value}{t:TypeId}{fr:Nat×Nat}(h:PsR w p gs gk m n tp tg nl C D)(hb:w.heap[b]? =some (.cells Cs t fr))(h1:t≠103)(h2:t≠130)(h3:t≠149)(h4:t≠3\/Cs.size=1/\False):¬psF p gs gk m tp tg b:=by
 obtain⟨⟨f,k1,k2⟩,k3,_⟩:=h;rintro(hk|hk)
 ·exact k1.not hb h1 h2 hk
 ·obtain⟨c,st,hne,hn,hp,ho⟩:=k3
  rcases hk with rfl|rfl
  ·exact qaq hb hp h3 rfl
  ·rcases h4 with h4|h4
   ·exact qao hb h4 ho rfl
   ·exact h4.2
theorem qc4{fn:Func}{a:Act}{W:World}{R:Ending->World->Prop}{g k u:Nat}{v:Int}{b:Value}(h:fn.results=#[.cell k 324,.tmp u])(hp:a.tmps.getD k undef= .pointer (some ⟨g,0,none⟩))(hb:a.tmps.getD u undef=b)(hd:a.defers=[])(hg:W.heap[g]? =some (.cells #[.int .u64 v,.nilIface] 324 (0,0)))(hR:R (.returned (.tuple #[.agg #[.int .u64 v,.nilIface],b])) W):bodyPost Tryz.prog fn R .ret a W:=by
 refine⟨hd,_,?_,hR⟩;have hp':a.tmps[k]?.getD undef= .pointer (some ⟨g,0,none⟩):=by simpa using hp
 have hb':a.tmps[u]?.getD undef=b:=by simpa using hb
 rw[results_cell_tmp h];simp[asAddr,hp',hb',run_loadVar_row W g 324 324 _ _ _ hg Tryz.underlying324 rfl Zk,Result.andThen]
theorem qey{w1:World}{B:Nat}{u0 u1:Value}(h:PsR w1 p gs gk m n tp tg nl C D)(hu:Upd (psF p gs gk m tp tg) w w1)(hB:w.heap.size<=B)(hnt:¬psF p gs gk m tp tg B)(hb:w1.heap[B]? =some (.cells #[u0,u1] 324 (0,0)))(v0 v1:Value):
  PsR ((w1.setCell ⟨B,0,none⟩ v0).setCell ⟨B,1,none⟩ v1) p gs gk m n tp tg nl C D/\Upd (psF p gs gk m tp tg) w ((w1.setCell ⟨B,0,none⟩ v0).setCell ⟨B,1,none⟩ v1)/\
   ((w1.setCell ⟨B,0,none⟩ v0).setCell ⟨B,1,none⟩ v1).heap[B]? =some (.cells #[v0,v1] 324 (0,0)):=by
 have h1:=(Upd.refl (λk=>k=B) w1).setCell (p:=⟨B,0,none⟩) (.inl rfl) v0;have h2:=h1.setCell (p:=⟨B,1,none⟩) (.inl rfl) v1;exact⟨h.upd h2 (λk hk e=>hnt (e▸hk)),(hu.setCell (p:=⟨B,0,none⟩) (.inr hB) v0).setCell (p:=⟨B,1,none⟩) (.inr hB) v1,qaj (qaj hb 0 v0) 1 v1⟩
theorem qqj(h:PsR w p gs gk m n tp tg nl C D)(hR:RnP w X p tp who df lv l ov an)(ha:Boxed w ba 3 (.int .i64 a))(hna:¬psF p gs gk m tp tg ba)(hb:Boxed w bx 40 (.int .u64 (x:Int)))(hx:x<18446744073709551616):
  Calls Tryz.prog 282 #[.pointer (some ⟨X,0,none⟩),.pointer (some ⟨ba,0,none⟩),.pointer (some ⟨bx,0,none⟩)] w λe w'=>e= .returned (.tuple #[.agg #[.int .u64 ((0:Nat):Int),.nilIface],.bool true])/\PsR w' p gs gk m n tp tg nl C {D with S:=if qay n a then D.S.set a.toNat x else D.S}/\Upd (psF p gs gk m tp tg) w w':=by
 generalize hD':({D with S:=if qay n a then D.S.set a.toNat x else D.S}:DM)=D';have hD':=waa hD';have hnX:=h.not hR.1 Zd Zd Zd (.inl Zd);have hnb:=h.not hb Zd Zd Zd (.inl Zd);obtain⟨x0,-,-,-,-,-,-,-⟩:=hR.cells;have a0:=ha.cell;have b0:=hb.cell;have hB:=(wai w.heap.size w).alloc (wah _) (.cells #[.int .u64 0,.nilIface] 324);have x0:=(hB.cell (p:=⟨X,0,none⟩) hR.lt).trans x0;have a0:=(hB.cell (p:=⟨ba,0,none⟩) ha.lt).trans a0;have b0:=(hB.cell (p:=⟨bx,0,none⟩) hb.lt).trans b0;have hU0:Upd (psF p gs gk m tp tg) w (w.alloc (.cells #[.int .u64 0,.nilIface] 324)):=(Upd.refl _ w).alloc _;have h0:=h.upd (Upd.of_below (F:=λ_=>False) hB (wah _)) (λ_ _ e=>e);have hbx:=qad (V:=w) rfl #[.int .u64 0,.nilIface] 324;have hnt:¬psF p gs gk m tp tg w.heap.size:=λe=>wbo _ (h.lts e)
 clear hR ha hb hB h;go_enter Tryz.func282,Tryz.ntmps282;go_wp2_with fail;obtain⟨B,hBd⟩:∃B,w.heap.size=B:=⟨_,rfl⟩
 rw[hBd] at hbx hnt ⊢;have hBw:=waa (wbk hBd);clear hBd;generalize w.alloc (.cells #[.int .u64 0,.nilIface] 324)=W at x0 a0 b0 hU0 h0 hbx ⊢;have hst:=q1r (w:=W.drew) h0 a hx;rw[hD'.out] at hst;have hst:=waa hst;have hbx:=waa hbx;have hU0:=waa hU0;have hlt:=waa (And.intro (wal _ _ x0) (And.intro (wal _ _ a0) (wal _ _ b0)));clear h0;go_region_held3 (λV=>V.cell? ⟨X,0,none⟩=some (.pointer (some ⟨p,0,none⟩))/\V.cell? ⟨ba,0,none⟩=some (.int .i64 a)/\V.cell? ⟨bx,0,none⟩=some (.int .u64 (x:Int)))
  (first|with_reducible exact⟨x0,a0,b0⟩|exact⟨x1,a1,b1⟩|go_keep)
  ((go_at_call 283;refine hst.out.mono ?_;rintro e w1 ⟨⟨cc,rfl⟩,hP1,hu1⟩;have x1:=(hu1.cell (p:=⟨X,0,none⟩) hlt.out.1 hnX).trans x0;have a1:=(hu1.cell (p:=⟨ba,0,none⟩) hlt.out.2.1 hna).trans a0;have b1:=(hu1.cell (p:=⟨bx,0,none⟩) hlt.out.2.2 hnb).trans b0;have hP1:=waa hP1;have hbx1:=(hu1.block B (waj.1 hbx.out).1 hnt).trans hbx.out;have hu1:=waa hu1))
 have f0:=qab hbx1 0;have f1:=qab hbx1 1;have ff:=λj=>qah hbx1 j
 simp at f0 f1
 obtain⟨hP2,hU2,hb2⟩:=qey hP1.out ((hU0.out.drew).trans hu1.out) hBw.out hnt hbx1 (.int .u64 0) .nilIface;have hP2:=waa hP2;have hU2:=waa hU2;have hb2:=waa hb2;go_wp2_with fail
 (try simp only[Exit.inBlock,Exit.then])
 refine qc4 rfl rfl rfl rfl hb2.out ?_;exact⟨rfl,hP2.out,hU2.out⟩
theorem qua(h:PsR w p gs gk m n tp tg nl C D)(hR:RnP w X p tp who df lv l ov an)(ha:Boxed w ba 3 (.int .i64 a))(hna:¬psF p gs gk m tp tg ba):
  Calls Tryz.prog 325 #[.pointer (some ⟨X,0,none⟩),.pointer (some ⟨ba,0,none⟩)] w λe w'=>e= .returned (.tuple #[.agg #[.int .u64 ((if qay n a then D.S[a.toNat]?.getD 0 else 0:Nat):Int),.nilIface],.bool true])/\PsR w' p gs gk m n tp tg nl C D/\Upd (psF p gs gk m tp tg) w w':=by
 generalize hv:(if qay n a then D.S[a.toNat]?.getD 0 else 0:Nat)=v;have hv:=waa hv;have hnX:=h.not hR.1 Zd Zd Zd (.inl Zd);obtain⟨x0,-,-,-,-,-,-,-⟩:=hR.cells;have a0:=ha.cell;have hB:=(wai w.heap.size w).alloc (wah _) (.cells #[.int .u64 0,.nilIface] 324);have x0:=(hB.cell (p:=⟨X,0,none⟩) hR.lt).trans x0;have a0:=(hB.cell (p:=⟨ba,0,none⟩) ha.lt).trans a0;have hU0:Upd (psF p gs gk m tp tg) w (w.alloc (.cells #[.int .u64 0,.nilIface] 324)):=(Upd.refl _ w).alloc _;have h0:=h.upd (Upd.of_below (F:=λ_=>False) hB (wah _)) (λ_ _ e=>e);have hbx:=qad (V:=w) rfl #[.int .u64 0,.nilIface] 324;have hnt:¬psF p gs gk m tp tg w.heap.size:=λe=>wbo _ (h.lts e)
 clear hR ha hB h;go_enter Tryz.func325,Tryz.ntmps325;go_wp2_with fail;obtain⟨B,hBd⟩:∃B,w.heap.size=B:=⟨_,rfl⟩
 rw[hBd] at hbx hnt ⊢;have hBw:=waa (wbk hBd);clear hBd;generalize w.alloc (.cells #[.int .u64 0,.nilIface] 324)=W at x0 a0 hU0 h0 hbx ⊢;have hst:=q2p (w:=W.drew) h0 a;rw[hv.out] at hst;have hst:=waa hst;have hbx:=waa hbx;have hU0:=waa hU0;have hlt:=waa (And.intro (wal _ _ x0) (wal _ _ a0));clear h0;go_region_held3 (λV=>V.cell? ⟨X,0,none⟩=some (.pointer (some ⟨p,0,none⟩))/\V.cell? ⟨ba,0,none⟩=some (.int .i64 a))
  (first|with_reducible exact⟨x0,a0⟩|exact⟨x1,a1⟩|go_keep)
  ((go_at_call 326;refine hst.out.mono ?_;rintro e w1 ⟨⟨cc,rfl⟩,hP1,hu1⟩;have x1:=(hu1.cell (p:=⟨X,0,none⟩) hlt.out.1 hnX).trans x0;have a1:=(hu1.cell (p:=⟨ba,0,none⟩) hlt.out.2 hna).trans a0;have hP1:=waa hP1;have hbx1:=(hu1.block B (waj.1 hbx.out).1 hnt).trans hbx.out;have hu1:=waa hu1))
 have f0:=qab hbx1 0;have f1:=qab hbx1 1;have ff:=λj=>qah hbx1 j
 simp at f0 f1
 obtain⟨hP2,hU2,hb2⟩:=qey hP1.out ((hU0.out.drew).trans hu1.out) hBw.out hnt hbx1 (.int .u64 (v:Int)) .nilIface;have hP2:=waa hP2;have hU2:=waa hU2;have hb2:=waa hb2;go_wp2_with fail
 (try simp only[Exit.inBlock,Exit.then])
 refine qc4 rfl rfl rfl rfl hb2.out ?_;exact⟨rfl,hP2.out,hU2.out⟩
theorem qrq(h:PsR w p gs gk m n tp tg nl C D)(hR:RnP w X p tp who df lv l ov an)(hC:C<maxLen)(ha:Boxed w ba 3 (.int .i64 a))(hna:¬psF p gs gk m tp tg ba):
  Calls Tryz.prog 332 #[.pointer (some ⟨X,0,none⟩),.pointer (some ⟨ba,0,none⟩)] w λe w'=>e= .returned (.tuple #[.agg #[.int .u64 ((0:Nat):Int),.nilIface],.bool true])/\PsR w' p gs gk m n tp tg nl (C+1) {D with N:=if qay n a then qdy D.N D.S (a.toNat/8*8) 8 else D.N,B:=if qay n a then D.B.set (a.toNat/8) true else D.B}/\Upd (psF p gs gk m tp tg) w w':=by
 generalize hD':({D with N:=if qay n a then qdy D.N D.S (a.toNat/8*8) 8 else D.N,B:=if qay n a then D.B.set (a.toNat/8) true else D.B}:DM)=D';have hD':=waa hD';have hnX:=h.not hR.1 Zd Zd Zd (.inl Zd);obtain⟨x0,-,-,-,-,-,-,-⟩:=hR.cells;have a0:=ha.cell;have hB:=(wai w.heap.size w).alloc (wah _) (.cells #[.int .u64 0,.nilIface] 324);have x0:=(hB.cell (p:=⟨X,0,none⟩) hR.lt).trans x0;have a0:=(hB.cell (p:=⟨ba,0,none⟩) ha.lt).trans a0;have hU0:Upd (psF p gs gk m tp tg) w (w.alloc (.cells #[.int .u64 0,.nilIface] 324)):=(Upd.refl _ w).alloc _;have h0:=h.upd (Upd.of_below (F:=λ_=>False) hB (wah _)) (λ_ _ e=>e);have hbx:=qad (V:=w) rfl #[.int .u64 0,.nilIface] 324;have hnt:¬psF p gs gk m tp tg w.heap.size:=λe=>wbo _ (h.lts e)
 clear hR ha hB h;go_enter Tryz.func332,Tryz.ntmps332;go_wp2_with fail;obtain⟨B,hBd⟩:∃B,w.heap.size=B:=⟨_,rfl⟩
 rw[hBd] at hbx hnt ⊢;have hBw:=waa (wbk hBd);clear hBd;generalize w.alloc (.cells #[.int .u64 0,.nilIface] 324)=W at x0 a0 hU0 h0 hbx ⊢;have hst:=q1t (w:=W.drew) h0 hC a;rw[hD'.out] at hst;have hst:=waa hst;have hbx:=waa hbx;have hU0:=waa hU0;have hlt:=waa (And.intro (wal _ _ x0) (wal _ _ a0));clear h0 hC;go_region_held3 (λV=>V.cell? ⟨X,0,none⟩=some (.pointer (some ⟨p,0,none⟩))/\V.cell? ⟨ba,0,none⟩=some (.int .i64 a))
  (first|with_reducible exact⟨x0,a0⟩|exact⟨x1,a1⟩|go_keep)
  ((go_at_call 333;refine hst.out.mono ?_;rintro e w1 ⟨⟨cc,rfl⟩,hP1,hu1⟩;have x1:=(hu1.cell (p:=⟨X,0,none⟩) hlt.out.1 hnX).trans x0;have a1:=(hu1.cell (p:=⟨ba,0,none⟩) hlt.out.2 hna).trans a0;have hP1:=waa hP1;have hbx1:=(hu1.block B (waj.1 hbx.out).1 hnt).trans hbx.out;have hu1:=waa hu1))
 have f0:=qab hbx1 0;have f1:=qab hbx1 1;have ff:=λj=>qah hbx1 j
 simp at f0 f1
 obtain⟨hP2,hU2,hb2⟩:=qey hP1.out ((hU0.out.drew).trans hu1.out) hBw.out hnt hbx1 (.int .u64 0) .nilIface;have hP2:=waa hP2;have hU2:=waa hU2;have hb2:=waa hb2;go_wp2_with fail
 (try simp only[Exit.inBlock,Exit.then])
 refine qc4 rfl rfl rfl rfl hb2.out ?_;exact⟨rfl,hP2.out,hU2.out⟩
theorem qoi(h:PsR w p gs gk m n tp tg nl C D)(hR:RnP w X p tp who df lv l ov an)(ha:Boxed w ba 3 (.int .i64 a))(hna:¬psF p gs gk m tp tg ba):
  Calls Tryz.prog 309 #[.pointer (some ⟨X,0,none⟩),.pointer (some ⟨ba,0,none⟩)] w λe w'=>e= .returned (.tuple #[.agg #[.int .u64 ((0:Nat):Int),.nilIface],.bool true])/\PsR w' p gs gk m n tp tg nl C {D with L:=qcj D.L nl a who}/\Upd (psF p gs gk m tp tg) w w':=by
 generalize hD':({D with L:=qcj D.L nl a who}:DM)=D';have hD':=waa hD';have hnX:=h.not hR.1 Zd Zd Zd (.inl Zd);obtain⟨-,x0,x2,-,-,-,-,-⟩:=hR.cells;have a0:=ha.cell;have hB:=(wai w.heap.size w).alloc (wah _) (.cells #[.int .u64 0,.nilIface] 324);have x0:=(hB.cell (p:=⟨X,1,none⟩) hR.lt).trans x0;have x2:=(hB.cell (p:=⟨X,2,none⟩) hR.lt).trans x2;have a0:=(hB.cell (p:=⟨ba,0,none⟩) ha.lt).trans a0;have hU0:Upd (psF p gs gk m tp tg) w (w.alloc (.cells #[.int .u64 0,.nilIface] 324)):=(Upd.refl _ w).alloc _;have h0:=h.upd (Upd.of_below (F:=λ_=>False) hB (wah _)) (λ_ _ e=>e);have hbx:=qad (V:=w) rfl #[.int .u64 0,.nilIface] 324;have hnt:¬psF p gs gk m tp tg w.heap.size:=λe=>wbo _ (h.lts e)
 clear hR ha hB h;go_enter Tryz.func309,Tryz.ntmps309;go_wp2_with fail;obtain⟨B,hBd⟩:∃B,w.heap.size=B:=⟨_,rfl⟩
 rw[hBd] at hbx hnt ⊢;have hBw:=waa (wbk hBd);clear hBd;generalize w.alloc (.cells #[.int .u64 0,.nilIface] 324)=W at x0 x2 a0 hU0 h0 hbx ⊢;have hst:=q1p (w:=W.drew) h0 a who;rw[hD'.out] at hst;have hst:=waa hst;have hbx:=waa hbx;have hU0:=waa hU0;have hlt:=waa (And.intro (wal _ _ x0) (wal _ _ a0));clear h0;go_region_held3 (λV=>V.cell? ⟨X,1,none⟩=some (.pointer (some ⟨tp,0,none⟩))/\V.cell? ⟨X,2,none⟩=some (.int .i64 who)/\V.cell? ⟨ba,0,none⟩=some (.int .i64 a))
  (first|with_reducible exact⟨x0,x2,a0⟩|exact⟨x1,x3,a1⟩|go_keep)
  ((go_at_call 310;refine hst.out.mono ?_;rintro e w1 ⟨rfl,hP1,hu1⟩;have x1:=(hu1.cell (p:=⟨X,1,none⟩) hlt.out.1 hnX).trans x0;have x3:=(hu1.cell (p:=⟨X,2,none⟩) hlt.out.1 hnX).trans x2;have a1:=(hu1.cell (p:=⟨ba,0,none⟩) hlt.out.2 hna).trans a0;have hP1:=waa hP1;have hbx1:=(hu1.block B (waj.1 hbx.out).1 hnt).trans hbx.out;have hu1:=waa hu1))
 have f0:=qab hbx1 0;have f1:=qab hbx1 1;have ff:=λj=>qah hbx1 j
 simp at f0 f1
 obtain⟨hP2,hU2,hb2⟩:=qey hP1.out ((hU0.out.drew).trans hu1.out) hBw.out hnt hbx1 (.int .u64 0) .nilIface;have hP2:=waa hP2;have hU2:=waa hU2;have hb2:=waa hb2;go_wp2_with fail
 (try simp only[Exit.inBlock,Exit.then])
 refine qc4 rfl rfl rfl rfl hb2.out ?_;exact⟨rfl,hP2.out,hU2.out⟩
theorem qsg(h:PsR w p gs gk m n tp tg nl C D)(hR:RnP w X p tp who df lv l ov an):
  Calls Tryz.prog 334 #[.pointer (some ⟨X,0,none⟩)] w λe w'=>e= .returned (.tuple #[.agg #[.int .u64 ((0:Nat):Int),.nilIface],.bool true])/\PsR w' p gs gk m n tp tg nl C {D with K:=fenL D.K D.N D.B (n*8),B:=List.replicate n false}/\Upd (psF p gs gk m tp tg) w w':=by
 generalize hD':({D with K:=fenL D.K D.N D.B (n*8),B:=List.replicate n false}:DM)=D';have hD':=waa hD';have hnX:=h.not hR.1 Zd Zd Zd (.inl Zd);obtain⟨x0,-,-,-,-,-,-,-⟩:=hR.cells;have hB:=(wai w.heap.size w).alloc (wah _) (.cells #[.int .u64 0,.nilIface] 324);have x0:=(hB.cell (p:=⟨X,0,none⟩) hR.lt).trans x0;have hU0:Upd (psF p gs gk m tp tg) w (w.alloc (.cells #[.int .u64 0,.nilIface] 324)):=(Upd.refl _ w).alloc _;have h0:=h.upd (Upd.of_below (F:=λ_=>False) hB (wah _)) (λ_ _ e=>e);have hbx:=qad (V:=w) rfl #[.int .u64 0,.nilIface] 324;have hnt:¬psF p gs gk m tp tg w.heap.size:=λe=>wbo _ (h.lts e)
 clear hR hB h;go_enter Tryz.func334,Tryz.ntmps334;go_wp2_with fail;obtain⟨B,hBd⟩:∃B,w.heap.size=B:=⟨_,rfl⟩
 rw[hBd] at hbx hnt ⊢;have hBw:=waa (wbk hBd);clear hBd;generalize w.alloc (.cells #[.int .u64 0,.nilIface] 324)=W at x0 hU0 h0 hbx ⊢;have hst:=q1q (w:=W) h0;rw[hD'.out] at hst;have hst:=waa hst;have hbx:=waa hbx;have hU0:=waa hU0;clear h0;go_wp2_with (go_at_call 335;go_loud (refine hst.out.mono ?_;rintro e w1 ⟨⟨cc,rfl⟩,hP1,hu1⟩;have hP1:=waa hP1;have hbx1:=(hu1.block B (waj.1 hbx.out).1 hnt).trans hbx.out;have hu1:=waa hu1;obtain⟨hP2,hU2,hb2⟩:=qey hP1.out ((hU0.out).trans hu1.out) hBw.out hnt hbx1 (.int .u64 0) .nilIface;have hP2:=waa hP2;have hU2:=waa hU2;have hb2:=waa hb2;have f0:=qab hbx1 0;have f1:=qab hbx1 1;have ff:=λj=>qah hbx1 j;simp at f0 f1))
 (try simp only[Exit.inBlock,Exit.then])
 refine qc4 rfl rfl rfl rfl hb2.out ?_;exact⟨rfl,hP2.out,hU2.out⟩
theorem qv3(h:PsR w p gs gk m n tp tg nl C D)(hR:RnP w X p tp who df lv l ov an)(hc:qb7 D.L nl a who=0)(ha:Boxed w ba 3 (.int .i64 a))(hna:¬psF p gs gk m tp tg ba):
  Calls Tryz.prog 307 #[.pointer (some ⟨X,0,none⟩),.pointer (some ⟨ba,0,none⟩)] w λe w'=>e= .returned (.tuple #[.agg #[.int .u64 ((0:Nat):Int),.nilIface],.bool true])/\PsR w' p gs gk m n tp tg nl C {D with L:=qcy D.L nl a who}/\Upd (psF p gs gk m tp tg) w w':=by
 generalize hD':({D with L:=qcy D.L nl a who}:DM)=D';have hD':=waa hD';have hnX:=h.not hR.1 Zd Zd Zd (.inl Zd);obtain⟨-,x0,x2,-,-,-,-,-⟩:=hR.cells;have a0:=ha.cell;have hB:=(wai w.heap.size w).alloc (wah _) (.cells #[.int .u64 0,.nilIface] 324);have x0:=(hB.cell (p:=⟨X,1,none⟩) hR.lt).trans x0;have x2:=(hB.cell (p:=⟨X,2,none⟩) hR.lt).trans x2;have a0:=(hB.cell (p:=⟨ba,0,none⟩) ha.lt).trans a0;have hU0:Upd (psF p gs gk m tp tg) w (w.alloc (.cells #[.int .u64 0,.nilIface] 324)):=(Upd.refl _ w).alloc _;have h0:=h.upd (Upd.of_below (F:=λ_=>False) hB (wah _)) (λ_ _ e=>e);have hbx:=qad (V:=w) rfl #[.int .u64 0,.nilIface] 324;have hnt:¬psF p gs gk m tp tg w.heap.size:=λe=>wbo _ (h.lts e)
 have hnBX:¬X=w.heap.size:=by have:=hR.lt;omega
 have hnBa:¬ba=w.heap.size:=by have:=ha.lt;omega
 clear hR ha hB h;go_enter Tryz.func307,Tryz.ntmps307;go_wp2_with fail;obtain⟨B,hBd⟩:∃B,w.heap.size=B:=⟨_,rfl⟩
 rw[hBd] at hbx hnt hnBX hnBa ⊢;have hBw:=waa (wbk hBd);clear hBd;generalize w.alloc (.cells #[.int .u64 0,.nilIface] 324)=W at x0 x2 a0 hU0 h0 hbx ⊢;have hst:=qy1 (w:=W.drew) h0 a who;rw[hD'.out,hc] at hst;have hst:=waa hst;have hbx:=waa hbx;have hU0:=waa hU0;have hlt:=waa (And.intro (wal _ _ x0) (wal _ _ a0));clear h0 hc;go_region_held3 (λV=>V.cell? ⟨X,1,none⟩=some (.pointer (some ⟨tp,0,none⟩))/\V.cell? ⟨X,2,none⟩=some (.int .i64 who)/\V.cell? ⟨ba,0,none⟩=some (.int .i64 a))
  (first|with_reducible exact⟨x0,x2,a0⟩|with_reducible exact⟨x1,x3,a1⟩|with_reducible exact⟨z1,z2,z3⟩|go_keep)
  ((go_at_call 308;refine hst.out.mono ?_;rintro e w1 ⟨rfl,hP1,hu1⟩;have x1:=(hu1.cell (p:=⟨X,1,none⟩) hlt.out.1 hnX).trans x0;have x3:=(hu1.cell (p:=⟨X,2,none⟩) hlt.out.1 hnX).trans x2;have a1:=(hu1.cell (p:=⟨ba,0,none⟩) hlt.out.2 hna).trans a0;have hP1:=waa hP1;have hbx1:=(hu1.block B (waj.1 hbx.out).1 hnt).trans hbx.out;obtain⟨hP2,hU2,hb2⟩:=qey hP1.out ((hU0.out.drew).trans hu1) hBw.out hnt hbx1 (.int .u64 0) .nilIface;have hP2:=waa hP2;have hU2:=waa hU2;have hb2:=waa hb2;have f0:=qab hbx1 0;have f1:=qab hbx1 1;have ff:=λj=>qah hbx1 j;simp at f0 f1;have hq:Upd (λk=>k=B) w1 ((w1.setCell ⟨B,0,none⟩ (.int .u64 0)).setCell ⟨B,1,none⟩ .nilIface):=((Upd.refl (λk=>k=B) w1).setCell (p:=⟨B,0,none⟩) (.inl rfl) _).setCell (p:=⟨B,1,none⟩) (.inl rfl) _;have z1:=(hq.cell (p:=⟨X,1,none⟩) (wal _ _ x1) hnBX).trans x1;have z2:=(hq.cell (p:=⟨X,2,none⟩) (wal _ _ x3) hnBX).trans x3;have z3:=(hq.cell (p:=⟨ba,0,none⟩) (wal _ _ a1) hnBa).trans a1;clear hq;have hu1:=waa hu1))
 go_wp2_with fail
 (try simp only[Exit.inBlock,Exit.then])
 refine qc4 rfl rfl rfl rfl hb2.out ?_;exact⟨rfl,hP2.out,hU2.out⟩
theorem qxk(h:PsR w p gs gk m n tp tg nl C D)(hR:RnP w X p tp who df lv l ov an)(hc:qb7 D.L nl a who≠0)(ha:Boxed w ba 3 (.int .i64 a))(hna:¬psF p gs gk m tp tg ba):
  Calls Tryz.prog 307 #[.pointer (some ⟨X,0,none⟩),.pointer (some ⟨ba,0,none⟩)] w λe w'=>e= .returned (.tuple #[.agg #[.int .u64 ((0:Nat):Int),.nilIface],.bool false])/\PsR w' p gs gk m n tp tg nl C D/\Upd (psF p gs gk m tp tg) w w':=by
 have hnX:=h.not hR.1 Zd Zd Zd (.inl Zd);obtain⟨-,x0,x2,-,-,-,-,-⟩:=hR.cells;have a0:=ha.cell;have hB:=(wai w.heap.size w).alloc (wah _) (.cells #[.int .u64 0,.nilIface] 324);have x0:=(hB.cell (p:=⟨X,1,none⟩) hR.lt).trans x0;have x2:=(hB.cell (p:=⟨X,2,none⟩) hR.lt).trans x2;have a0:=(hB.cell (p:=⟨ba,0,none⟩) ha.lt).trans a0;have hU0:Upd (psF p gs gk m tp tg) w (w.alloc (.cells #[.int .u64 0,.nilIface] 324)):=(Upd.refl _ w).alloc _;have h0:=h.upd (Upd.of_below (F:=λ_=>False) hB (wah _)) (λ_ _ e=>e);have hbx:=qad (V:=w) rfl #[.int .u64 0,.nilIface] 324;have hnt:¬psF p gs gk m tp tg w.heap.size:=λe=>wbo _ (h.lts e)
 have hnBX:¬X=w.heap.size:=by have:=hR.lt;omega
 have hnBa:¬ba=w.heap.size:=by have:=ha.lt;omega
 clear hR ha hB h;go_enter Tryz.func307,Tryz.ntmps307;go_wp2_with fail;obtain⟨B,hBd⟩:∃B,w.heap.size=B:=⟨_,rfl⟩
 rw[hBd] at hbx hnt hnBX hnBa ⊢;have hBw:=waa (wbk hBd);clear hBd;generalize w.alloc (.cells #[.int .u64 0,.nilIface] 324)=W at x0 x2 a0 hU0 h0 hbx ⊢;have hst:=qy1 (w:=W.drew) h0 a who;rw[show qcy D.L nl a who=D.L from if_neg hc] at hst;generalize qb7 D.L nl a who=cd at hst hc;have hz:(cd==0)=false:=by simpa using hc
 have hst:=waa hst;have hbx:=waa hbx;have hU0:=waa hU0;have hlt:=waa (And.intro (wal _ _ x0) (wal _ _ a0));clear h0 hc;go_region_held3 (λV=>V.cell? ⟨X,1,none⟩=some (.pointer (some ⟨tp,0,none⟩))/\V.cell? ⟨X,2,none⟩=some (.int .i64 who)/\V.cell? ⟨ba,0,none⟩=some (.int .i64 a))
  (first|with_reducible exact⟨x0,x2,a0⟩|with_reducible exact⟨x1,x3,a1⟩|with_reducible exact⟨z1,z2,z3⟩|go_keep)
  ((go_at_call 308;refine hst.out.mono ?_;rintro e w1 ⟨rfl,hP1,hu1⟩;have x1:=(hu1.cell (p:=⟨X,1,none⟩) hlt.out.1 hnX).trans x0;have x3:=(hu1.cell (p:=⟨X,2,none⟩) hlt.out.1 hnX).trans x2;have a1:=(hu1.cell (p:=⟨ba,0,none⟩) hlt.out.2 hna).trans a0;have hP1:=waa hP1;have hbx1:=(hu1.block B (waj.1 hbx.out).1 hnt).trans hbx.out;obtain⟨hP2,hU2,hb2⟩:=qey hP1.out ((hU0.out.drew).trans hu1) hBw.out hnt hbx1 (.int .u64 0) .nilIface;have hP2:=waa hP2;have hU2:=waa hU2;have hb2:=waa hb2;have f0:=qab hbx1 0;have f1:=qab hbx1 1;have ff:=λj=>qah hbx1 j;simp at f0 f1;have hq:Upd (λk=>k=B) w1 ((w1.setCell ⟨B,0,none⟩ (.int .u64 0)).setCell ⟨B,1,none⟩ .nilIface):=((Upd.refl (λk=>k=B) w1).setCell (p:=⟨B,0,none⟩) (.inl rfl) _).setCell (p:=⟨B,1,none⟩) (.inl rfl) _;have z1:=(hq.cell (p:=⟨X,1,none⟩) (wal _ _ x1) hnBX).trans x1;have z2:=(hq.cell (p:=⟨X,2,none⟩) (wal _ _ x3) hnBX).trans x3;have z3:=(hq.cell (p:=⟨ba,0,none⟩) (wal _ _ a1) hnBa).trans a1;clear hq;have hu1:=waa hu1))
 go_wp2_with fail
 (try simp only[Exit.inBlock,Exit.then])
 refine qc4 rfl rfl rfl rfl hb2.out ?_;exact⟨rfl,hP2.out,hU2.out⟩
end
end Go.Proofs.YtgjhkafggagniaaGreat
