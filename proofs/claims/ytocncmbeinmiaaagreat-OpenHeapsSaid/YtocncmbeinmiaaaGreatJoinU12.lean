/- Parts. No condition. -/
import Derived.Laws.ResultCell
import Derived.Laws.Rows
import Derived.Test.YtocncmbeinmiaaaGreatJoinU11
set_option linter.unusedVariables false
set_option maxRecDepth 100000
set_option maxHeartbeats 8000000
namespace Go.Proofs.YtocncmbeinmiaaaGreat
open Go Go.RowKit
section
variable {w:World} {X p gs gk m n tp tg nl C:Nat} {D:DM} {who:Int} {df lv an:Value} {l:List Nat} {ov:Bool} {ba bx:Nat} {a:Int} {x:Nat}
theorem PsR.not{b:Nat}{Cs:Array Value}{t:TypeId}{fr:Nat×Nat}(h:PsR w p gs gk m n tp tg nl C D)(hb:w.heap[b]? =some (.cells Cs t fr))(h1:t≠97)(h2:t≠101)(h3:t≠132)(h4:t≠3\/Cs.size=1/\False):¬psF p gs gk m tp tg b:=by
 obtain⟨⟨f,k1,k2⟩,k3,_⟩:=h;rintro(hk|hk)
 ·exact k1.not hb h1 h2 hk
 ·obtain⟨c,st,hne,hn,hp,ho⟩:=k3
  rcases hk with rfl|rfl
  ·exact qbn hb hp h3 rfl
  ·rcases h4 with h4|h4
   ·exact qaz hb h4 ho rfl
   ·exact h4.2
theorem qiu{fn:Func}{a:Act}{W:World}{R:Ending->World->Prop}{g k u:Nat}{v:Int}{b:Value}(h:fn.results=#[.cell k 268,.tmp u])(hp:a.tmps.getD k undef= .pointer (some ⟨g,0,none⟩))(hb:a.tmps.getD u undef=b)(hd:a.defers=[])(hg:W.heap[g]? =some (.cells #[.int .u64 v,.nilIface] 268 (0,0)))(hR:R (.returned (.tuple #[.agg #[.int .u64 v,.nilIface],b])) W):bodyPost Tryz.prog fn R .ret a W:=by
 refine⟨hd,_,?_,hR⟩;have hp':a.tmps[k]?.getD undef= .pointer (some ⟨g,0,none⟩):=by simpa using hp
 have hb':a.tmps[u]?.getD undef=b:=by simpa using hb
 rw[results_cell_tmp h];simp[asAddr,hp',hb',run_loadVar_row W g 268 268 _ _ _ hg Tryz.underlying268 rfl Zk,Result.andThen]
theorem qn2{w1:World}{B:Nat}{u0 u1:Value}(h:PsR w1 p gs gk m n tp tg nl C D)(hu:Upd (psF p gs gk m tp tg) w w1)(hB:w.heap.size<=B)(hnt:¬psF p gs gk m tp tg B)(hb:w1.heap[B]? =some (.cells #[u0,u1] 268 (0,0)))(v0 v1:Value):
  PsR ((w1.setCell ⟨B,0,none⟩ v0).setCell ⟨B,1,none⟩ v1) p gs gk m n tp tg nl C D/\Upd (psF p gs gk m tp tg) w ((w1.setCell ⟨B,0,none⟩ v0).setCell ⟨B,1,none⟩ v1)/\
   ((w1.setCell ⟨B,0,none⟩ v0).setCell ⟨B,1,none⟩ v1).heap[B]? =some (.cells #[v0,v1] 268 (0,0)):=by
 have h1:=(Upd.refl (λk=>k=B) w1).setCell (p:=⟨B,0,none⟩) (.inl rfl) v0;have h2:=h1.setCell (p:=⟨B,1,none⟩) (.inl rfl) v1;exact⟨h.upd h2 (λk hk e=>hnt (e▸hk)),(hu.setCell (p:=⟨B,0,none⟩) (.inr hB) v0).setCell (p:=⟨B,1,none⟩) (.inr hB) v1,qah (qah hb 0 v0) 1 v1⟩
theorem q0l(h:PsR w p gs gk m n tp tg nl C D)(hR:RnP w X p tp who df lv l ov an)(ha:Boxed w ba 3 (.int .i64 a))(hna:¬psF p gs gk m tp tg ba)(hb:Boxed w bx 27 (.int .u64 (x:Int)))(hx:x<18446744073709551616):
  Calls Tryz.prog 221 #[.pointer (some ⟨X,0,none⟩),.pointer (some ⟨ba,0,none⟩),.pointer (some ⟨bx,0,none⟩)] w λe w'=>e= .returned (.tuple #[.agg #[.int .u64 ((0:Nat):Int),.nilIface],.bool true])/\PsR w' p gs gk m n tp tg nl C {D with S:=if qay n a then D.S.set a.toNat x else D.S}/\Upd (psF p gs gk m tp tg) w w':=by
 generalize hD':({D with S:=if qay n a then D.S.set a.toNat x else D.S}:DM)=D';have hD':=waa hD';have hnX:=h.not hR.1 Zd Zd Zd (.inl Zd);have hnb:=h.not hb Zd Zd Zd (.inl Zd);obtain⟨x0,-,-,-,-,-,-,-⟩:=hR.cells;have a0:=ha.cell;have b0:=hb.cell;have hB:=(wac w.heap.size w).alloc (wab _) (.cells #[.int .u64 0,.nilIface] 268);have x0:=(hB.cell (p:=⟨X,0,none⟩) hR.lt).trans x0;have a0:=(hB.cell (p:=⟨ba,0,none⟩) ha.lt).trans a0;have b0:=(hB.cell (p:=⟨bx,0,none⟩) hb.lt).trans b0;have hU0:Upd (psF p gs gk m tp tg) w (w.alloc (.cells #[.int .u64 0,.nilIface] 268)):=(Upd.refl _ w).alloc _;have h0:=h.upd (Upd.of_below (F:=λ_=>False) hB (wab _)) (λ_ _ e=>e);have hbx:=qan (V:=w) rfl #[.int .u64 0,.nilIface] 268;have hnt:¬psF p gs gk m tp tg w.heap.size:=λe=>wd8 _ (h.lts e)
 clear hR ha hb hB h;go_enter Tryz.func221,Tryz.ntmps221;go_wp2_with fail;obtain⟨B,hBd⟩:∃B,w.heap.size=B:=⟨_,rfl⟩
 rw[hBd] at hbx hnt ⊢;have hBw:=waa (wc3 hBd);clear hBd;generalize w.alloc (.cells #[.int .u64 0,.nilIface] 268)=W at x0 a0 b0 hU0 h0 hbx ⊢;have hst:=qaco (w:=W.drew) h0 a hx;rw[hD'.out] at hst;have hst:=waa hst;have hbx:=waa hbx;have hU0:=waa hU0;have hlt:=waa (And.intro (wak _ _ x0) (And.intro (wak _ _ a0) (wak _ _ b0)));clear h0;go_region_held3 (λV=>V.cell? ⟨X,0,none⟩=some (.pointer (some ⟨p,0,none⟩))/\V.cell? ⟨ba,0,none⟩=some (.int .i64 a)/\V.cell? ⟨bx,0,none⟩=some (.int .u64 (x:Int)))
  (first|with_reducible exact⟨x0,a0,b0⟩|exact⟨x1,a1,b1⟩|go_keep)
  ((go_at_call 222;refine hst.out.mono ?_;rintro e w1 ⟨⟨cc,rfl⟩,hP1,hu1⟩;have x1:=(hu1.cell (p:=⟨X,0,none⟩) hlt.out.1 hnX).trans x0;have a1:=(hu1.cell (p:=⟨ba,0,none⟩) hlt.out.2.1 hna).trans a0;have b1:=(hu1.cell (p:=⟨bx,0,none⟩) hlt.out.2.2 hnb).trans b0;have hP1:=waa hP1;have hbx1:=(hu1.block B (wal.1 hbx.out).1 hnt).trans hbx.out;have hu1:=waa hu1))
 have f0:=qaa hbx1 0;have f1:=qaa hbx1 1;have ff:=λj=>qaj hbx1 j
 simp at f0 f1
 obtain⟨hP2,hU2,hb2⟩:=qn2 hP1.out ((hU0.out.drew).trans hu1.out) hBw.out hnt hbx1 (.int .u64 0) .nilIface;have hP2:=waa hP2;have hU2:=waa hU2;have hb2:=waa hb2;go_wp2_with fail
 (try simp only[Exit.inBlock,Exit.then])
 refine qiu rfl rfl rfl rfl hb2.out ?_;exact⟨rfl,hP2.out,hU2.out⟩
theorem q4i(h:PsR w p gs gk m n tp tg nl C D)(hR:RnP w X p tp who df lv l ov an)(ha:Boxed w ba 3 (.int .i64 a))(hna:¬psF p gs gk m tp tg ba):
  Calls Tryz.prog 215 #[.pointer (some ⟨X,0,none⟩),.pointer (some ⟨ba,0,none⟩)] w λe w'=>e= .returned (.tuple #[.agg #[.int .u64 ((if qay n a then D.S[a.toNat]?.getD 0 else 0:Nat):Int),.nilIface],.bool true])/\PsR w' p gs gk m n tp tg nl C D/\Upd (psF p gs gk m tp tg) w w':=by
 generalize hv:(if qay n a then D.S[a.toNat]?.getD 0 else 0:Nat)=v;have hv:=waa hv;have hnX:=h.not hR.1 Zd Zd Zd (.inl Zd);obtain⟨x0,-,-,-,-,-,-,-⟩:=hR.cells;have a0:=ha.cell;have hB:=(wac w.heap.size w).alloc (wab _) (.cells #[.int .u64 0,.nilIface] 268);have x0:=(hB.cell (p:=⟨X,0,none⟩) hR.lt).trans x0;have a0:=(hB.cell (p:=⟨ba,0,none⟩) ha.lt).trans a0;have hU0:Upd (psF p gs gk m tp tg) w (w.alloc (.cells #[.int .u64 0,.nilIface] 268)):=(Upd.refl _ w).alloc _;have h0:=h.upd (Upd.of_below (F:=λ_=>False) hB (wab _)) (λ_ _ e=>e);have hbx:=qan (V:=w) rfl #[.int .u64 0,.nilIface] 268;have hnt:¬psF p gs gk m tp tg w.heap.size:=λe=>wd8 _ (h.lts e)
 clear hR ha hB h;go_enter Tryz.func215,Tryz.ntmps215;go_wp2_with fail;obtain⟨B,hBd⟩:∃B,w.heap.size=B:=⟨_,rfl⟩
 rw[hBd] at hbx hnt ⊢;have hBw:=waa (wc3 hBd);clear hBd;generalize w.alloc (.cells #[.int .u64 0,.nilIface] 268)=W at x0 a0 hU0 h0 hbx ⊢;have hst:=qac1 (w:=W.drew) h0 a;rw[hv.out] at hst;have hst:=waa hst;have hbx:=waa hbx;have hU0:=waa hU0;have hlt:=waa (And.intro (wak _ _ x0) (wak _ _ a0));clear h0;go_region_held3 (λV=>V.cell? ⟨X,0,none⟩=some (.pointer (some ⟨p,0,none⟩))/\V.cell? ⟨ba,0,none⟩=some (.int .i64 a))
  (first|with_reducible exact⟨x0,a0⟩|exact⟨x1,a1⟩|go_keep)
  ((go_at_call 216;refine hst.out.mono ?_;rintro e w1 ⟨⟨cc,rfl⟩,hP1,hu1⟩;have x1:=(hu1.cell (p:=⟨X,0,none⟩) hlt.out.1 hnX).trans x0;have a1:=(hu1.cell (p:=⟨ba,0,none⟩) hlt.out.2 hna).trans a0;have hP1:=waa hP1;have hbx1:=(hu1.block B (wal.1 hbx.out).1 hnt).trans hbx.out;have hu1:=waa hu1))
 have f0:=qaa hbx1 0;have f1:=qaa hbx1 1;have ff:=λj=>qaj hbx1 j
 simp at f0 f1
 obtain⟨hP2,hU2,hb2⟩:=qn2 hP1.out ((hU0.out.drew).trans hu1.out) hBw.out hnt hbx1 (.int .u64 (v:Int)) .nilIface;have hP2:=waa hP2;have hU2:=waa hU2;have hb2:=waa hb2;go_wp2_with fail
 (try simp only[Exit.inBlock,Exit.then])
 refine qiu rfl rfl rfl rfl hb2.out ?_;exact⟨rfl,hP2.out,hU2.out⟩
theorem qx6(h:PsR w p gs gk m n tp tg nl C D)(hR:RnP w X p tp who df lv l ov an)(hC:C<maxLen)(ha:Boxed w ba 3 (.int .i64 a))(hna:¬psF p gs gk m tp tg ba):
  Calls Tryz.prog 225 #[.pointer (some ⟨X,0,none⟩),.pointer (some ⟨ba,0,none⟩)] w λe w'=>e= .returned (.tuple #[.agg #[.int .u64 ((0:Nat):Int),.nilIface],.bool true])/\PsR w' p gs gk m n tp tg nl (C+1) {D with N:=if qay n a then qc2 D.N D.S (a.toNat/8*8) 8 else D.N,B:=if qay n a then D.B.set (a.toNat/8) true else D.B}/\Upd (psF p gs gk m tp tg) w w':=by
 generalize hD':({D with N:=if qay n a then qc2 D.N D.S (a.toNat/8*8) 8 else D.N,B:=if qay n a then D.B.set (a.toNat/8) true else D.B}:DM)=D';have hD':=waa hD';have hnX:=h.not hR.1 Zd Zd Zd (.inl Zd);obtain⟨x0,-,-,-,-,-,-,-⟩:=hR.cells;have a0:=ha.cell;have hB:=(wac w.heap.size w).alloc (wab _) (.cells #[.int .u64 0,.nilIface] 268);have x0:=(hB.cell (p:=⟨X,0,none⟩) hR.lt).trans x0;have a0:=(hB.cell (p:=⟨ba,0,none⟩) ha.lt).trans a0;have hU0:Upd (psF p gs gk m tp tg) w (w.alloc (.cells #[.int .u64 0,.nilIface] 268)):=(Upd.refl _ w).alloc _;have h0:=h.upd (Upd.of_below (F:=λ_=>False) hB (wab _)) (λ_ _ e=>e);have hbx:=qan (V:=w) rfl #[.int .u64 0,.nilIface] 268;have hnt:¬psF p gs gk m tp tg w.heap.size:=λe=>wd8 _ (h.lts e)
 clear hR ha hB h;go_enter Tryz.func225,Tryz.ntmps225;go_wp2_with fail;obtain⟨B,hBd⟩:∃B,w.heap.size=B:=⟨_,rfl⟩
 rw[hBd] at hbx hnt ⊢;have hBw:=waa (wc3 hBd);clear hBd;generalize w.alloc (.cells #[.int .u64 0,.nilIface] 268)=W at x0 a0 hU0 h0 hbx ⊢;have hst:=qacg (w:=W.drew) h0 hC a;rw[hD'.out] at hst;have hst:=waa hst;have hbx:=waa hbx;have hU0:=waa hU0;have hlt:=waa (And.intro (wak _ _ x0) (wak _ _ a0));clear h0 hC;go_region_held3 (λV=>V.cell? ⟨X,0,none⟩=some (.pointer (some ⟨p,0,none⟩))/\V.cell? ⟨ba,0,none⟩=some (.int .i64 a))
  (first|with_reducible exact⟨x0,a0⟩|exact⟨x1,a1⟩|go_keep)
  ((go_at_call 226;refine hst.out.mono ?_;rintro e w1 ⟨⟨cc,rfl⟩,hP1,hu1⟩;have x1:=(hu1.cell (p:=⟨X,0,none⟩) hlt.out.1 hnX).trans x0;have a1:=(hu1.cell (p:=⟨ba,0,none⟩) hlt.out.2 hna).trans a0;have hP1:=waa hP1;have hbx1:=(hu1.block B (wal.1 hbx.out).1 hnt).trans hbx.out;have hu1:=waa hu1))
 have f0:=qaa hbx1 0;have f1:=qaa hbx1 1;have ff:=λj=>qaj hbx1 j
 simp at f0 f1
 obtain⟨hP2,hU2,hb2⟩:=qn2 hP1.out ((hU0.out.drew).trans hu1.out) hBw.out hnt hbx1 (.int .u64 0) .nilIface;have hP2:=waa hP2;have hU2:=waa hU2;have hb2:=waa hb2;go_wp2_with fail
 (try simp only[Exit.inBlock,Exit.then])
 refine qiu rfl rfl rfl rfl hb2.out ?_;exact⟨rfl,hP2.out,hU2.out⟩
theorem qzi(h:PsR w p gs gk m n tp tg nl C D)(hR:RnP w X p tp who df lv l ov an):
  Calls Tryz.prog 227 #[.pointer (some ⟨X,0,none⟩)] w λe w'=>e= .returned (.tuple #[.agg #[.int .u64 ((0:Nat):Int),.nilIface],.bool true])/\PsR w' p gs gk m n tp tg nl C {D with K:=fenL D.K D.N D.B (n*8),B:=List.replicate n false}/\Upd (psF p gs gk m tp tg) w w':=by
 generalize hD':({D with K:=fenL D.K D.N D.B (n*8),B:=List.replicate n false}:DM)=D';have hD':=waa hD';have hnX:=h.not hR.1 Zd Zd Zd (.inl Zd);obtain⟨x0,-,-,-,-,-,-,-⟩:=hR.cells;have hB:=(wac w.heap.size w).alloc (wab _) (.cells #[.int .u64 0,.nilIface] 268);have x0:=(hB.cell (p:=⟨X,0,none⟩) hR.lt).trans x0;have hU0:Upd (psF p gs gk m tp tg) w (w.alloc (.cells #[.int .u64 0,.nilIface] 268)):=(Upd.refl _ w).alloc _;have h0:=h.upd (Upd.of_below (F:=λ_=>False) hB (wab _)) (λ_ _ e=>e);have hbx:=qan (V:=w) rfl #[.int .u64 0,.nilIface] 268;have hnt:¬psF p gs gk m tp tg w.heap.size:=λe=>wd8 _ (h.lts e)
 clear hR hB h;go_enter Tryz.func227,Tryz.ntmps227;go_wp2_with fail;obtain⟨B,hBd⟩:∃B,w.heap.size=B:=⟨_,rfl⟩
 rw[hBd] at hbx hnt ⊢;have hBw:=waa (wc3 hBd);clear hBd;generalize w.alloc (.cells #[.int .u64 0,.nilIface] 268)=W at x0 hU0 h0 hbx ⊢;have hst:=qab1 (w:=W) h0;rw[hD'.out] at hst;have hst:=waa hst;have hbx:=waa hbx;have hU0:=waa hU0;clear h0;go_wp2_with (go_at_call 228;go_loud (refine hst.out.mono ?_;rintro e w1 ⟨⟨cc,rfl⟩,hP1,hu1⟩;have hP1:=waa hP1;have hbx1:=(hu1.block B (wal.1 hbx.out).1 hnt).trans hbx.out;have hu1:=waa hu1;obtain⟨hP2,hU2,hb2⟩:=qn2 hP1.out ((hU0.out).trans hu1.out) hBw.out hnt hbx1 (.int .u64 0) .nilIface;have hP2:=waa hP2;have hU2:=waa hU2;have hb2:=waa hb2;have f0:=qaa hbx1 0;have f1:=qaa hbx1 1;have ff:=λj=>qaj hbx1 j;simp at f0 f1))
 (try simp only[Exit.inBlock,Exit.then])
 refine qiu rfl rfl rfl rfl hb2.out ?_;exact⟨rfl,hP2.out,hU2.out⟩
end
inductive Out (σ α:Type) where
 |done (a:α) (i:Nat) (l:List Nat) (s:σ)
 |stop (bl:Bool) (l:List Nat) (s:σ)
 |wild
def AP(σ α:Type):=(Nat->Bool)->Nat->List Nat->σ->Out σ α
def AP.ret{σ α:Type}(a:α):AP σ α:=λ_ i l s=> .done a i l s
def AP.ask{σ α:Type}(q:σ->Option (Nat×σ))(f:Nat->α):AP σ α:=λsp i l s=>
 match l[i]? with
 |some y=> .done (f y) (i+1) l s
 |none=>if 99000<=l.length then .wild else if sp l.length then .stop false l s else match q s with
  |none=> .stop true l s
  |some (y,s')=> .done (f y) (i+1) (l++[y]) s'
def AP.bind{σ α β:Type}(t:AP σ α)(f:α->AP σ β):AP σ β:=λsp i l s=>
 match t sp i l s with
 | .done a i' l' s'=>f a sp i' l' s'
 | .stop b l' s'=> .stop b l' s'
 | .wild=> .wild
theorem AP.bind_done{σ α β:Type}{t:AP σ α}{f:α->AP σ β}{sp:Nat->Bool}{i i':Nat}{l l':List Nat}{s s':σ}{a:α}(h:t sp i l s= .done a i' l' s'):(t.bind f) sp i l s=f a sp i' l' s':=by simp only[AP.bind,h]
theorem AP.bind_stop{σ α β:Type}{t:AP σ α}{f:α->AP σ β}{sp:Nat->Bool}{i:Nat}{l l':List Nat}{s s':σ}{b:Bool}(h:t sp i l s= .stop b l' s'):(t.bind f) sp i l s= .stop b l' s':=by simp only[AP.bind,h]
theorem AP.tame{σ α β:Type}{t:AP σ α}{f:α->AP σ β}{sp:Nat->Bool}{i:Nat}{l:List Nat}{s:σ}(h:(t.bind f) sp i l s≠ .wild):t sp i l s≠ .wild:=λe=>h (by simp only[AP.bind,e])
theorem AP.tame_next{σ α β:Type}{t:AP σ α}{f:α->AP σ β}{sp:Nat->Bool}{i i':Nat}{l l':List Nat}{s s':σ}{a:α}(h:(t.bind f) sp i l s≠ .wild)(e:t sp i l s= .done a i' l' s'):f a sp i' l' s'≠ .wild:=by rw[AP.bind_done e] at h;exact h
theorem AP.bind_bind{σ α β γ:Type}(t:AP σ α)(f:α->AP σ β)(g:β->AP σ γ):(t.bind f).bind g=t.bind (λa=>(f a).bind g):=by
 funext sp i l s
 simp only[AP.bind];cases t sp i l s<;>rfl
theorem AP.bind_ret{σ α:Type}(t:AP σ α):t.bind AP.ret=t:=by
 funext sp i l s
 simp only[AP.bind,AP.ret];cases t sp i l s<;>rfl
def onM{τ:Type}(f:DM->Option (Nat×DM))(s:DM×τ):Option (Nat×DM×τ):=(f s.1).map λr=>(r.1,r.2,s.2)
def AP.each{σ β:Type}(f:β->AP σ Unit):List β->AP σ Unit
 |[]=>AP.ret ()
 |b::r=>(f b).bind λ_=>AP.each f r
structure DP (τ:Type) where
 X:Nat
 p:Nat
 gs:Nat
 gk:Nat
 m:Nat
 n:Nat
 tp:Nat
 tg:Nat
 nl:Nat
 eb:Nat
 a:Nat
 b:Nat
 c:Nat
 who:Int
 df:Value
 fs:Value
 fuse:Int
 bef:Nat
 c0:Nat
 Ex:τ->(Nat->Prop)->World->Prop
 exUpd:∀(t:τ) (G H:Nat->Prop) (w w':World),Ex t G w->Upd H w w'->(∀k,G k->¬H k)->Ex t G w'
 exLt:∀(t:τ) (G:Nat->Prop) (w:World) (k:Nat),Ex t G w->G k->k<w.heap.size
 exNot:∀(t:τ) (G:Nat->Prop) (w:World) (k:Nat) (Cs:Array Value) (ty:TypeId) (fr:Nat×Nat),Ex t G w->G k->w.heap[k]? =some (.cells Cs ty fr)->ty≠268/\ty≠91/\ty≠144
section
variable {τ:Type}
def DP.ps(E:DP τ)(k:Nat):Prop:=psF E.p E.gs E.gk E.m E.tp E.tg k
def DP.sp(E:DP τ)(n:Nat):Bool:=qbi E.fuse E.bef n
def DP.Cov(E:DP τ)(lv:Value)(G F:Nat->Prop)(w:World):Prop:=
 (∀k,E.ps k\/G k\/k=E.eb\/k=E.X\/lv.ownBlock=some k->F k)/\(∀k,F k->k<w.heap.size)/\(∀k,G k->¬E.ps k)
def DP.Mem(E:DP τ)(C:Nat)(s:DM×τ)(G:Nat->Prop)(w:World):Prop:=PsR w E.p E.gs E.gk E.m E.n E.tp E.tg E.nl C s.1/\E.Ex s.2 G w
def DP.In(E:DP τ)(i:Nat)(l:List Nat)(s:DM×τ)(F:Nat->Prop)(w:World):Prop:=
 ∃lv G,EvR w E.eb (some E.X) E.who i E.fs false false/\FsR w E.fs E.X E.fuse E.bef E.a E.b E.c/\RnP w E.X E.p E.tp E.who E.df lv l false (.slice none 0 0)/\E.Mem (E.c0+l.length) s G w/\E.Cov lv G F w/\
  (¬F E.a/\¬F E.b/\¬F E.c)/\i<=l.length/\E.bef<=l.length/\E.c0+100000<maxLen/\l.length<=99000/\∀y∈l,y<18446744073709551616
def DP.Off(E:DP τ)(bl:Bool)(l:List Nat)(s:DM×τ)(F:Nat->Prop)(w:World):Prop:=
 ∃lv G,(∃i,EvR w E.eb (some E.X) E.who i E.fs true bl)/\RnP w E.X E.p E.tp E.who E.df lv l false (.slice none 0 0)/\E.Mem (E.c0+l.length+1) s G w/\E.Cov lv G F w/\∀y∈l,y<18446744073709551616
def Grows(F F':Nat->Prop)(w:World):Prop:=∀k,F' k->F k\/w.heap.size<=k
def DP.Post{α:Type}(E:DP τ)(o:Out (DM×τ) α)(R:α->Value->World->Prop)(F:Nat->Prop)(w:World)(e:Ending)(w':World):Prop:=
 Upd F w w'/\match o with
  | .done a i l s=>∃v F',e= .returned v/\R a v w'/\E.In i l s F' w'/\Grows F F' w
  | .stop bl l s=>∃F',e= .panicked (qc8 E.eb)/\E.Off bl l s F' w'/\Grows F F' w
  | .wild=>True
def qdr{α:Type}(_:α)(v:Value)(_:World):Prop:=v= .tuple #[]
section
variable {E:DP τ} {i i':Nat} {l l':List Nat} {s s':DM×τ} {F F':Nat->Prop} {w w1 w':World} {α β:Type} {e:Ending}
theorem Grows.refl(F:Nat->Prop)(w:World):Grows F F w:=λ_ h=> .inl h
theorem Grows.trans{F2:Nat->Prop}(h:Grows F F' w)(k:Grows F' F2 w1)(hs:w.heap.size<=w1.heap.size):Grows F F2 w:=λj hj=>by
 rcases k j hj with h1|h1
 ·exact h j h1
 ·exact .inr Zo
theorem DP.Post.done{t:AP (DM×τ) α}{R:α->Value->World->Prop}(h:E.Post (t E.sp i l s) R F w e w')(hw:t E.sp i l s≠ .wild):
  (∃a i' l' s' v F',t E.sp i l s= .done a i' l' s'/\e= .returned v/\R a v w'/\E.In i' l' s' F' w'/\Grows F F' w/\Upd F w w')\/
   (∃bl l' s' F',t E.sp i l s= .stop bl l' s'/\e= .panicked (qc8 E.eb)/\E.Off bl l' s' F' w'/\Grows F F' w/\Upd F w w'):=by
 obtain⟨hu,h⟩:=h;generalize t E.sp i l s=o at h hw;cases o with
 |done a i' l' s'=>
  obtain⟨v,F',h1,h2,h3,h4⟩:=h;exact .inl ⟨a,i',l',s',v,F',rfl,h1,h2,h3,h4,hu⟩
 |stop bl l' s'=>
  obtain⟨F',h1,h2,h3⟩:=h;exact .inr ⟨bl,l',s',F',rfl,h1,h2,h3,hu⟩
 |wild=>exact absurd rfl hw
theorem DP.Post.stopped{t:AP (DM×τ) α}{R:α->Value->World->Prop}{bl:Bool}(h:t E.sp i l s= .stop bl l' s')(he:e= .panicked (qc8 E.eb))(hO:E.Off bl l' s' F' w')(hg:Grows F F' w)(hu:Upd F w w'):E.Post (t E.sp i l s) R F w e w':=by
 unfold DP.Post;rw[h];exact⟨hu,F',he,hO,hg⟩
theorem DP.Post.ended{t:AP (DM×τ) α}{R:α->Value->World->Prop}{a:α}{v:Value}(h:t E.sp i l s= .done a i' l' s')(he:e= .returned v)(hR:R a v w')(hI:E.In i' l' s' F' w')(hg:Grows F F' w)(hu:Upd F w w'):E.Post (t E.sp i l s) R F w e w':=by
 unfold DP.Post;rw[h];exact⟨hu,v,F',he,hR,hI,hg⟩
theorem DP.Post.after{o:Out (DM×τ) α}{R:α->Value->World->Prop}(h:E.Post o R F' w1 e w')(hu:Upd F w w1)(hg:Grows F F' w):E.Post o R F w e w':=by
 obtain⟨h1,h2⟩:=h;refine⟨hu.after h1 hg,?_⟩;cases o with
 |done a i' l' s'=>
  obtain⟨v,F2,h3,h4,h5,h6⟩:=h2;exact⟨v,F2,h3,h4,h5,hg.trans h6 hu.size⟩
 |stop bl l' s'=>
  obtain⟨F2,h3,h4,h5⟩:=h2;exact⟨F2,h3,h4,hg.trans h5 hu.size⟩
 |wild=>trivial
theorem DP.In.lt(h:E.In i l s F w){k:Nat}(hk:F k):k<w.heap.size:=by
 obtain⟨lv,G,k1,k2,k3,k4,k5,k6⟩:=h;exact k5.2.1 k hk
theorem DP.Mem.upd{C:Nat}{G H:Nat->Prop}(h:E.Mem C s G w)(hu:Upd H w w')(h1:∀k,E.ps k->¬H k)(h2:∀k,G k->¬H k):E.Mem C s G w':=⟨h.1.upd hu h1,E.exUpd _ _ _ _ _ h.2 hu h2⟩
theorem DP.In.upd{H:Nat->Prop}(h:E.In i l s F w)(hu:Upd H w w')(hG:∀k,F k->¬H k)(h1:¬H E.a)(h2:¬H E.b)(h3:¬H E.c):E.In i l s F w':=by
 obtain⟨lv,G,k1,k2,k3,k4,k5,k6⟩:=h;exact⟨lv,G,k1.upd hu (hG _ (k5.1 _ (.inr (.inr (.inl rfl))))),k2.upd hu h1 h2 h3,k3.upd hu (hG _ (k5.1 _ (.inr (.inr (.inr (.inl rfl)))))) (λk hk=>hG k (k5.1 _ (.inr (.inr (.inr (.inr hk)))))),
  k4.upd hu (λk hk=>hG k (k5.1 _ (.inl hk))) (λk hk=>hG k (k5.1 _ (.inr (.inl hk)))),⟨k5.1,λk hk=>waw (k5.2.1 k hk) hu.size,k5.2.2⟩,k6⟩
theorem DP.In.new(h:E.In i l s F w)(hu:Upd (λ_=>False) w w'):E.In i l s F w':=h.upd hu (λ_ _ e=>e) (λe=>e) (λe=>e) (λe=>e)
theorem DP.In.low(h:E.In i l s F w):∀k,F k\/k=E.a\/k=E.b\/k=E.c->k<w.heap.size:=by
 obtain⟨lv,G,k1,k2,k3,k4,k5,k6⟩:=h;rintro k (hk|rfl|rfl|rfl)
 ·exact k5.2.1 k hk
 ·exact k2.2.1.lt
 ·exact k2.2.2.1.lt
 ·exact k2.2.2.2.lt
theorem AP.ask_told{q:(DM×τ)->Option (Nat×DM×τ)}{f:Nat->α}{sp:Nat->Bool}{y:Nat}(h:l[i]? =some y):AP.ask q f sp i l s= .done (f y) (i+1) l s:=by simp only[AP.ask,h]
theorem AP.ask_past{q:(DM×τ)->Option (Nat×DM×τ)}{f:Nat->α}{sp:Nat->Bool}(hw:AP.ask q f sp l.length l s≠ .wild):
  l.length<99000/\AP.ask q f sp l.length l s=if sp l.length then .stop false l s else match q s with
   |none=> .stop true l s
   |some (y,s')=> .done (f y) (l.length+1) (l++[y]) s':=by
 have hn:l[l.length]? =none:=wbp (wab _);unfold AP.ask at hw ⊢;rw[hn] at hw ⊢;simp only at hw ⊢;by_cases h:99000<=l.length
 ·rw[if_pos h] at hw
  exact absurd rfl hw
 ·rw[if_neg h]
  refine⟨Zo,?_⟩;cases sp l.length<;>cases q s<;>rfl
theorem qik{Fn:Nat}{caps:Array Value}(hen:∀(args:Array Value) (w:World),(callFunc Fn args).run Tryz.prog w= .ok (.enter Fn args) w)(h:E.In i l s F w){q:(DM×τ)->Option (Nat×DM×τ)}(hw:AP.ask q id E.sp i l s≠ .wild)(hlt:∀V G y s',E.Mem (E.c0+l.length) s G V->q s=some (y,s')->y<18446744073709551616)(hyes:∀y s',q s=some (y,s')->∀V lv G,Upd (λk=>k=E.eb) w V->RnP V E.X E.p E.tp E.who E.df lv l false (.slice none 0 0)->E.Mem (E.c0+l.length) s G V->(∀k,G k->F k/\¬E.ps k)->(∀k,E.ps k->F k)->l.length<99000->
   Calls Tryz.prog Fn (#[.pointer (some ⟨E.X,0,none⟩)]++caps) V λe V'=>e= .returned (.tuple #[.agg #[.int .u64 (y:Int),.nilIface],.bool true])/\(∃G',E.Mem (E.c0+l.length+1) s' G' V'/\Grows G G' V)/\Upd (λk=>E.ps k\/G k) V V')(hno:q s=none->∃y:Nat,∀V lv G,Upd (λk=>k=E.eb) w V->RnP V E.X E.p E.tp E.who E.df lv l false (.slice none 0 0)->E.Mem (E.c0+l.length) s G V->(∀k,G k->F k/\¬E.ps k)->(∀k,E.ps k->F k)->l.length<99000->
   Calls Tryz.prog Fn (#[.pointer (some ⟨E.X,0,none⟩)]++caps) V λe V'=>e= .returned (.tuple #[.agg #[.int .u64 (y:Int),.nilIface],.bool false])/\(∃G',E.Mem (E.c0+l.length+1) s G' V'/\Grows G G' V)/\Upd (λk=>E.ps k\/G k) V V'):
  Calls Tryz.prog 214 #[.pointer (some ⟨E.eb,0,none⟩),.func (.func Fn) #[] caps] w λe w'=>E.Post (AP.ask q id E.sp i l s) (λ(y:Nat) v _=>v= .int .u64 (y:Int)) F w e w':=by
 have hlow:=h.low;obtain⟨lv,G,k1,k2,k3,k4,k5,k6,k7,k8,k9⟩:=h;have hpe:¬E.ps E.eb:=k4.1.not k1 Zd Zd Zd (.inl Zd);have hpX:¬E.ps E.X:=k4.1.not k3.1 Zd Zd Zd (.inl Zd);have hpl:∀k,lv.ownBlock=some k->¬E.ps k:=λk hk=>by
  rcases k3.2.2 with ⟨rfl,_⟩|⟨g,cap,cur,rfl,_,hb,_⟩
  ·cases hk
  ·injection hk with hk
   subst hk;exact k4.1.not hb Zd Zd Zd (.inl Zd)
 have hGe:¬G E.eb:=λe=>(E.exNot _ _ _ _ _ _ _ k4.2 e k1).2.2 rfl
 have hGX:¬G E.X:=λe=>(E.exNot _ _ _ _ _ _ _ k4.2 e k3.1).2.1 rfl
 have hGl:∀k,lv.ownBlock=some k->¬G k:=λk hk e=>by
  rcases k3.2.2 with ⟨rfl,_⟩|⟨g,cap,cur,rfl,_,hb,_⟩
  ·cases hk
  ·injection hk with hk
   subst hk;exact(E.exNot _ _ _ _ _ _ _ k4.2 e hb).1 rfl
 have hXe:E.X≠E.eb:=qbn k3.1 k1 Zd;have hle:lv.ownBlock≠some E.eb:=λe=>qaz k1 Zd k3.2 e.symm
 have hH:∀k,(E.ps k\/G k)->k≠E.eb/\k≠E.X/\lv.ownBlock≠some k:=by
  rintro k (hk|hk)
  ·exact⟨λe=>hpe (e▸hk),λe=>hpX (e▸hk),λe=>hpl k e hk⟩
  ·exact⟨λe=>hGe (e▸hk),λe=>hGX (e▸hk),λe=>hGl k e hk⟩
 have heF:F E.eb:=k5.1 _ (.inr (.inr (.inl rfl)));have hpF:∀k,E.ps k->F k:=λk hk=>k5.1 _ (.inl hk)
 have hGF:∀k,G k->F k/\¬E.ps k:=λk hk=>⟨k5.1 _ (.inr (.inl hk)),k5.2.2 k hk⟩
 have heb:∀{V:World},Upd (λk=>k=E.eb) w V->RnP V E.X E.p E.tp E.who E.df lv l false (.slice none 0 0)/\E.Mem (E.c0+l.length) s G V:=λhV=>
  ⟨k3.upd hV hXe (λk hk e=>hle (by rw[hk,e])),k4.upd hV (λk hk e=>hpe (e▸hk)) (λk hk e=>hGe (e▸hk))⟩
 rcases Nat.lt_or_ge i l.length with hil|hil
 ·obtain⟨y,hy⟩:∃y,l[i]? =some y:=⟨_,waj hil⟩
  refine(ask_told k1 k3 Zo hy _).mono ?_;rintro e w' ⟨he,hE,hu⟩;refine DP.Post.ended (t:=AP.ask q id) (AP.ask_told hy) he rfl (F':=F) ⟨lv,G,hE,k2.upd hu (λe=>k6.1 (e▸heF)) (λe=>k6.2.1 (e▸heF)) (λe=>k6.2.2 (e▸heF)),(heb hu).1,(heb hu).2,⟨k5.1,λk hk=>waw (k5.2.1 k hk) hu.size,k5.2.2⟩,k6,hil,k8,k9⟩ (Grows.refl _ _) (hu.mono (λk e=>e▸heF))
 ·obtain rfl:i=l.length:=Zo
  obtain⟨hl,hq⟩:=AP.ask_past hw;cases hsp:qbi E.fuse E.bef l.length with
  |true=>
   rw[if_pos (show E.sp l.length=true from hsp)] at hq;refine(q14 k1 k2 k3 Zo k8 hsp _).mono ?_;rintro e w' ⟨he,hE,hu⟩;exact DP.Post.stopped (t:=AP.ask q id) hq he (F':=F) ⟨lv,G,⟨_,hE⟩,(heb hu).1,⟨(heb hu).2.1.more Zo,(heb hu).2.2⟩,⟨k5.1,λk hk=>waw (k5.2.1 k hk) hu.size,k5.2.2⟩,k9.2.2⟩ (Grows.refl _ _) (hu.mono (λk e=>e▸heF))
  |false=>
   rw[if_neg (by rw[show E.sp l.length=false from hsp];simp)] at hq;cases ho:q s with
   |none=>
    rw[ho] at hq;obtain⟨y,hd⟩:=hno ho;refine(qvq (x:=y) (Q:=λV'=>∃G',E.Mem (E.c0+l.length+1) s G' V'/\Grows G G' w) (H:=λk=>E.ps k\/G k) hen k1 k2 k3 Zo k8 hsp (λV hV=>(hd V lv G hV (heb hV).1 (heb hV).2 hGF hpF hl).mono ?_) ?_ hH).mono ?_
    ·rintro e V' ⟨he,⟨G',h1,h2⟩,h3⟩
     exact⟨he,⟨G',h1,λk hk=>(h2 k hk).imp id (λe=>wap hV.size e)⟩,h3⟩
    ·rintro V V' ⟨G',h1,h2⟩ hu
     refine⟨G',h1.upd hu (λk hk e=>hpe (e▸hk)) (λk hk e=>?_),h2⟩;rcases h2 k hk with h3|h3
     ·exact hGe (e▸h3)
     ·have:=k1.lt;omega
    ·rintro e w' ⟨he,hE,⟨G',hM,hG'⟩,hR,hu⟩
     have hu':Upd F w w':=hu.mono (λk e=>by rcases e with (e|e)|e;exact hpF k e;exact(hGF k e).1;exact e▸heF);refine DP.Post.stopped (t:=AP.ask q id) hq he (F':=λk=>F k\/G' k) ⟨lv,G',⟨_,hE⟩,hR,hM,⟨?_,?_,?_⟩,k9.2.2⟩ ?_ hu'
     ·rintro k (e|e|e)
      ·exact .inl (hpF k e)
      ·exact .inr e
      ·exact .inl (k5.1 k (.inr (.inr e)))
     ·rintro k (e|e)
      ·exact waw (k5.2.1 k e) hu.size
      ·exact E.exLt _ _ _ _ hM.2 e
     ·intro k e hp
      rcases hG' k e with h3|h3
      ·exact(hGF k h3).2 hp
      ·have:=k4.1.lts hp;omega
     ·rintro k (e|e)
      ·exact .inl e
      ·exact(hG' k e).imp (λh3=>(hGF k h3).1) id
   |some r=>
    obtain⟨y,s'⟩:=r;rw[ho] at hq;refine(qaal (x:=y) (Q:=λV'=>∃G',E.Mem (E.c0+l.length+1) s' G' V'/\Grows G G' w) (H:=λk=>E.ps k\/G k) hen k1 k2 k3 Zo k8 hsp (λV hV=>(hyes y s' ho V lv G hV (heb hV).1 (heb hV).2 hGF hpF hl).mono ?_) ?_ hH).mono ?_
    ·rintro e V' ⟨he,⟨G',h1,h2⟩,h3⟩
     exact⟨he,⟨G',h1,λk hk=>(h2 k hk).imp id (λe=>wap hV.size e)⟩,h3⟩
    ·rintro V V' ⟨G',h1,h2⟩ hu
     refine⟨G',h1.upd hu ?_ ?_,h2⟩
     ·rintro k hk (e|e|e)
      ·exact hpe (e▸hk)
      ·exact hpX (e▸hk)
      ·exact hpl k e hk
     ·rintro k hk he
      rcases h2 k hk with h3|h3
      ·rcases he with e|e|e
       ·exact hGe (e▸h3)
       ·exact hGX (e▸h3)
       ·exact hGl k e h3
      ·rcases he with e|e|e
       ·have:=k1.lt;omega
       ·have:=k3.lt;omega
       ·have:=(k3.row_lt e).2;omega
    ·rintro e w' ⟨he,hE,⟨G',hM,hG'⟩,⟨lv',hR,hlv⟩,hu⟩
     have hu':Upd F w w':=hu.mono (λk e=>by
      rcases e with (e|e)|e
      ·exact hpF k e
      ·exact(hGF k e).1
      ·exact k5.1 k (.inr (.inr e)))
     have hold:∀k,k=E.a\/k=E.b\/k=E.c->¬(F k\/G' k\/lv'.ownBlock=some k):=by
      intro k hk hf;have hkw:=hlow k (.inr hk);have hkF:¬F k:=by rcases hk with rfl|rfl|rfl;exact k6.1;exact k6.2.1;exact k6.2.2
      rcases hf with hf|hf|hf
      ·exact hkF hf
      ·rcases hG' k hf with h3|h3
       ·exact hkF (hGF k h3).1
       ·omega
      ·rcases hlv with h3|⟨g,h3,h4⟩
       ·exact hkF (k5.1 k (.inr (.inr (.inr (.inr (h3▸hf))))))
       ·rw[h3] at hf
        injection hf with hf;omega
     have hFa:=hold _ (.inl rfl);have hFb:=hold _ (.inr (.inl rfl));have hFc:=hold _ (.inr (.inr rfl));refine DP.Post.ended (t:=AP.ask q id) hq he rfl (F':=λk=>F k\/G' k\/lv'.ownBlock=some k) ⟨lv',G',hE,k2.upd hu' k6.1 k6.2.1 k6.2.2,hR,?_,⟨?_,?_,?_⟩,⟨hFa,hFb,hFc⟩,by simp,by simp;omega,k9.1,by simp;omega,λz hz=>by
      rcases wa6.1 hz with hz|hz
      ·exact k9.2.2 z hz
      ·obtain rfl:z=y:=by simpa using hz
       exact hlt w G _ s' k4 ho⟩ ?_ hu'
     ·rw[was,wca]
      exact hM
     ·rintro k (e|e|e|e|e)
      ·exact .inl (hpF k e)
      ·exact .inr (.inl e)
      ·exact .inl (k5.1 k (.inr (.inr (.inl e))))
      ·exact .inl (k5.1 k (.inr (.inr (.inr (.inl e)))))
      ·exact .inr (.inr e)
     ·rintro k (e|e|e)
      ·exact waw (k5.2.1 k e) hu'.size
      ·exact E.exLt _ _ _ _ hM.2 e
      ·exact(hR.row_lt e).2
     ·intro k e hp
      rcases hG' k e with h3|h3
      ·exact(hGF k h3).2 hp
      ·have:=k4.1.lts hp;omega
     ·rintro k (e|e|e)
      ·exact .inl e
      ·exact(hG' k e).imp (λh3=>(hGF k h3).1) id
      ·rcases hlv with h3|⟨g,h3,h4⟩
       ·exact .inl (k5.1 k (.inr (.inr (.inr (.inr (h3▸e))))))
       ·rw[h3] at e
        injection e with e;exact .inr Zo
end
end
section
variable {τ:Type} {E:DP τ} {i:Nat} {l:List Nat} {s:DM×τ} {F:Nat->Prop} {w w':World} {α:Type}
theorem AP.ask_map{σ:Type}(q:σ->Option (Nat×σ))(f:Nat->α)(sp:Nat->Bool)(i:Nat)(l:List Nat)(s:σ):
  AP.ask q f sp i l s=match AP.ask q id sp i l s with
   | .done y i' l' s'=> .done (f y) i' l' s'
   | .stop bl l' s'=> .stop bl l' s'
   | .wild=> .wild:=by
 unfold AP.ask;cases l[i]? with
 |some y=>rfl
 |none=>
  simp only
  by_cases h1:99000<=l.length
  ·rw[if_pos h1,if_pos h1]
  ·rw[if_neg h1,if_neg h1]
   by_cases h2:sp l.length=true
   ·rw[if_pos h2,if_pos h2]
   ·rw[if_neg h2,if_neg h2]
    cases q s with
    |none=>rfl
    |some r=>rfl
theorem AP.ask_tame{σ:Type}{q:σ->Option (Nat×σ)}{f:Nat->α}{sp:Nat->Bool}{i:Nat}{l:List Nat}{s:σ}(h:AP.ask q f sp i l s≠ .wild):AP.ask q id sp i l s≠ .wild:=λe=>h (by rw[AP.ask_map,e])
theorem DP.Mem.step{V V':World}{G:Nat->Prop}{C C':Nat}{D':DM}(hM:E.Mem C s G V)(hP:PsR V' E.p E.gs E.gk E.m E.n E.tp E.tg E.nl C' D')(hC:C'<=C+1)(hG:∀k,G k->F k/\¬E.ps k)(hu:Upd (psF E.p E.gs E.gk E.m E.tp E.tg) V V'):
  (∃G',E.Mem (C+1) (D',s.2) G' V'/\Grows G G' V)/\Upd (λk=>E.ps k\/G k) V V':=
 ⟨⟨G,⟨hP.more hC,E.exUpd _ _ _ _ _ hM.2 hu (λk hk e=>(hG k hk).2 e)⟩,Grows.refl _ _⟩,hu.mono (λk e=> .inl e)⟩
theorem qen{f:DM->Option (Nat×DM)}{y0:Nat}{D0:DM}(h:f s.1=some (y0,D0)){y:Nat}{s':DM×τ}(ho:onM f s=some (y,s')):y=y0/\s'=(D0,s.2):=by
 simp only[onM,h,wbo,Option.some.injEq,Prod.mk.injEq] at ho;exact⟨ho.1.symm,ho.2.symm⟩
theorem qrf(h:E.In i l s F w)(a:Int){x:Nat}(hx:x<18446744073709551616)(hw:AP.ask (onM (doF E.n E.nl E.who 0 a x)) (λ_=>()) E.sp i l s≠ .wild):
  Calls Tryz.prog 165 #[.pointer (some ⟨E.eb,0,none⟩),.int .i64 a,.int .u64 (x:Int)] w λe w'=>E.Post (AP.ask (onM (doF E.n E.nl E.who 0 a x)) (λ_=>()) E.sp i l s) qdr F w e w':=by
 have hmf:∀(fn:Fn) (first cap:Array Value) (w:World),(Instr.makeFunc fn first cap).run Tryz.prog w= .ok (.func fn first cap) w:=λ_ _ _ _=>rfl
 have hu:Upd (λ_=>False) w ((w.alloc (.cells #[.int .i64 a] 3)).alloc (.cells #[.int .u64 (x:Int)] 27)):=((Upd.refl _ w).alloc _).alloc _;have hI:=h.new hu;have hb0:Boxed ((w.alloc (.cells #[.int .i64 a] 3)).alloc (.cells #[.int .u64 (x:Int)] 27)) w.heap.size 3 (.int .i64 a):=qag (qan rfl _ _) _;have hb1:Boxed ((w.alloc (.cells #[.int .i64 a] 3)).alloc (.cells #[.int .u64 (x:Int)] 27)) (w.heap.size+1) 27 (.int .u64 (x:Int)):=qan Zs _ _;have heb:E.eb<w.heap.size:=by obtain⟨lv,G,k1,_⟩:=h;exact k1.lt
 have hask:=qik (Fn:=221) (caps:=#[.pointer (some ⟨w.heap.size,0,none⟩),.pointer (some ⟨w.heap.size+1,0,none⟩)]) (λargs w=>by simp[go_sem]) hI (AP.ask_tame hw) (λV G y s' hM ho=>by have h1:=(qen (D0:={s.1 with S:=if qay E.n a then s.1.S.set a.toNat x else s.1.S}) (y0:=0) (by simp only[doF,if_true]) ho).1;omega) (by
  intro y s' ho V lv G hV hR hM hG hp hl;obtain⟨rfl,rfl⟩:=qen (D0:={s.1 with S:=if qay E.n a then s.1.S.set a.toNat x else s.1.S}) (y0:=0) (by simp only[doF,if_true]) ho;refine(q0l hM.1 hR (qal hb0 hV Zo) (λe=>by have:=h.lt (hp _ e);omega) (qal hb1 hV Zo) hx).mono ?_;rintro e V' ⟨he,hP,hu2⟩;exact⟨he,hM.step hP Zo hG hu2⟩) (by
  intro ho;simp[onM,doF] at ho)
 have hask:=waa hask;have hus:=waa hu;have hw:=waa hw;clear hI hb0 hb1 heb h hu;go_enter Tryz.func165,Tryz.ntmps165;go_wp2_with fail;refine hask.out.mono ?_;rintro e V hpost;rcases hpost.done (AP.ask_tame hw.out) with ⟨y,i',l',s',v,F',ho,rfl,rfl,hI,hg,hu⟩|⟨bl,l',s',F',ho,rfl,hO,hg,hu⟩
 ·have hfin:=waa (DP.Post.ended (t:=AP.ask (onM (doF E.n E.nl E.who 0 a x)) (λ_=>())) (R:=qdr) (v:= .tuple #[]) (by rw[AP.ask_map,ho]) rfl rfl hI (λk hk=>(hg k hk).imp id (λe=>wap hus.out.size e)) ((hus.out.mono (λ_ e=>e.elim)).trans hu))
  clear hpost ho hI hg hu;go_wp2_with fail;go_end0
  exact hfin.out
 ·exact⟨rfl,DP.Post.stopped (t:=AP.ask (onM (doF E.n E.nl E.who 0 a x)) (λ_=>())) (by rw[AP.ask_map,ho]) rfl hO (λk hk=>(hg k hk).imp id (λe=>wap hus.out.size e)) ((hus.out.mono (λ_ e=>e.elim)).trans hu)⟩
theorem qos(h:E.In i l s F w)(a:Int)(hw:AP.ask (onM (doF E.n E.nl E.who 1 a 0)) id E.sp i l s≠ .wild):
  Calls Tryz.prog 163 #[.pointer (some ⟨E.eb,0,none⟩),.int .i64 a] w λe w'=>E.Post (AP.ask (onM (doF E.n E.nl E.who 1 a 0)) id E.sp i l s) (λ(y:Nat) v _=>v= .int .u64 (y:Int)) F w e w':=by
 have hmf:∀(fn:Fn) (first cap:Array Value) (w:World),(Instr.makeFunc fn first cap).run Tryz.prog w= .ok (.func fn first cap) w:=λ_ _ _ _=>rfl
 have hu:Upd (λ_=>False) w (w.alloc (.cells #[.int .i64 a] 3)):=(Upd.refl _ w).alloc _;have hI:=h.new hu;have hb0:Boxed (w.alloc (.cells #[.int .i64 a] 3)) w.heap.size 3 (.int .i64 a):=qan rfl _ _;have heb:E.eb<w.heap.size:=by obtain⟨lv,G,k1,_⟩:=h;exact k1.lt
 have hask:=qik (Fn:=215) (caps:=#[.pointer (some ⟨w.heap.size,0,none⟩)]) (λargs w=>by simp[go_sem]) hI hw (λV G y s' hM ho=>by
  have h1:=(qen (D0:=s.1) (y0:=if qay E.n a then s.1.S[a.toNat]?.getD 0 else 0) Zr ho).1;subst h1;split
  ·cases hq:s.1.S[a.toNat]? with
   |none=>simp
   |some z=>exact hM.1.2.2.2.2.2 z (waq hq)
  ·omega) (by
  intro y s' ho V lv G hV hR hM hG hp hl;obtain⟨rfl,rfl⟩:=qen (D0:=s.1) (y0:=if qay E.n a then s.1.S[a.toNat]?.getD 0 else 0) Zr ho;refine(q4i hM.1 hR (qal hb0 hV Zo) (λe=>by have:=h.lt (hp _ e);omega)).mono ?_;rintro e V' ⟨he,hP,hu2⟩;exact⟨he,hM.step hP Zo hG hu2⟩) (by
  intro ho;exact absurd ho (by simp[onM,doF]))
 have hask:=waa hask;have hus:=waa hu;have hw:=waa hw;clear hI hb0 heb h hu;go_enter Tryz.func163,Tryz.ntmps163;go_wp2_with fail;refine hask.out.mono ?_;rintro e V hpost;rcases hpost.done hw.out with ⟨y,i',l',s',v,F',ho,rfl,rfl,hI,hg,hu⟩|⟨bl,l',s',F',ho,rfl,hO,hg,hu⟩
 ·have hfin:=waa (DP.Post.ended (t:=AP.ask (onM (doF E.n E.nl E.who 1 a 0)) id) (R:=λ(y:Nat) v _=>v= .int .u64 (y:Int)) ho rfl rfl hI (λk hk=>(hg k hk).imp id (λe=>wap hus.out.size e)) ((hus.out.mono (λ_ e=>e.elim)).trans hu))
  clear hpost ho hI hg hu;go_wp2_with fail;go_ret;exact hfin.out
 ·exact⟨rfl,DP.Post.stopped (t:=AP.ask (onM (doF E.n E.nl E.who 1 a 0)) id) ho rfl hO (λk hk=>(hg k hk).imp id (λe=>wap hus.out.size e)) ((hus.out.mono (λ_ e=>e.elim)).trans hu)⟩
theorem qtc(h:E.In i l s F w)(a:Int)(hw:AP.ask (onM (doF E.n E.nl E.who 2 a 0)) (λ_=>()) E.sp i l s≠ .wild):
  Calls Tryz.prog 167 #[.pointer (some ⟨E.eb,0,none⟩),.int .i64 a] w λe w'=>E.Post (AP.ask (onM (doF E.n E.nl E.who 2 a 0)) (λ_=>()) E.sp i l s) qdr F w e w':=by
 have hmf:∀(fn:Fn) (first cap:Array Value) (w:World),(Instr.makeFunc fn first cap).run Tryz.prog w= .ok (.func fn first cap) w:=λ_ _ _ _=>rfl
 have hu:Upd (λ_=>False) w (w.alloc (.cells #[.int .i64 a] 3)):=(Upd.refl _ w).alloc _;have hI:=h.new hu;have hb0:Boxed (w.alloc (.cells #[.int .i64 a] 3)) w.heap.size 3 (.int .i64 a):=qan rfl _ _;have heb:E.eb<w.heap.size/\E.c0+100000<maxLen:=by obtain⟨lv,G,k1,_,_,_,_,_,_,_,k9,_⟩:=h;exact⟨k1.lt,k9⟩
 have hask:=qik (Fn:=225) (caps:=#[.pointer (some ⟨w.heap.size,0,none⟩)]) (λargs w=>by simp[go_sem]) hI (AP.ask_tame hw) (λV G y s' hM ho=>by have h1:=(qen (D0:={s.1 with N:=if qay E.n a then qc2 s.1.N s.1.S (a.toNat/8*8) 8 else s.1.N,B:=if qay E.n a then s.1.B.set (a.toNat/8) true else s.1.B}) (y0:=0) Zr ho).1;omega) (by
  intro y s' ho V lv G hV hR hM hG hp hl;obtain⟨rfl,rfl⟩:=qen (D0:={s.1 with N:=if qay E.n a then qc2 s.1.N s.1.S (a.toNat/8*8) 8 else s.1.N,B:=if qay E.n a then s.1.B.set (a.toNat/8) true else s.1.B}) (y0:=0) Zr ho;refine(qx6 hM.1 hR Zo (qal hb0 hV Zo) (λe=>by have:=h.lt (hp _ e);omega)).mono ?_;rintro e V' ⟨he,hP,hu2⟩;exact⟨he,hM.step hP Zo hG hu2⟩) (by
  intro ho;exact absurd ho (by simp[onM,doF]))
 have hask:=waa hask;have hus:=waa hu;have hw:=waa hw;clear hI hb0 heb h hu;go_enter Tryz.func167,Tryz.ntmps167;go_wp2_with fail;refine hask.out.mono ?_;rintro e V hpost;rcases hpost.done (AP.ask_tame hw.out) with ⟨y,i',l',s',v,F',ho,rfl,rfl,hI,hg,hu⟩|⟨bl,l',s',F',ho,rfl,hO,hg,hu⟩
 ·have hfin:=waa (DP.Post.ended (t:=AP.ask (onM (doF E.n E.nl E.who 2 a 0)) (λ_=>())) (R:=qdr) (v:= .tuple #[]) (by rw[AP.ask_map,ho]) rfl rfl hI (λk hk=>(hg k hk).imp id (λe=>wap hus.out.size e)) ((hus.out.mono (λ_ e=>e.elim)).trans hu))
  clear hpost ho hI hg hu;go_wp2_with fail;go_end0
  exact hfin.out
 ·exact⟨rfl,DP.Post.stopped (t:=AP.ask (onM (doF E.n E.nl E.who 2 a 0)) (λ_=>())) (by rw[AP.ask_map,ho]) rfl hO (λk hk=>(hg k hk).imp id (λe=>wap hus.out.size e)) ((hus.out.mono (λ_ e=>e.elim)).trans hu)⟩
theorem qri(h:E.In i l s F w)(hw:AP.ask (onM (doF E.n E.nl E.who 3 0 0)) (λ_=>()) E.sp i l s≠ .wild):
  Calls Tryz.prog 168 #[.pointer (some ⟨E.eb,0,none⟩)] w λe w'=>E.Post (AP.ask (onM (doF E.n E.nl E.who 3 0 0)) (λ_=>()) E.sp i l s) qdr F w e w':=by
 have hmf:∀(fn:Fn) (first cap:Array Value) (w:World),(Instr.makeFunc fn first cap).run Tryz.prog w= .ok (.func fn first cap) w:=λ_ _ _ _=>rfl
 have hask:=qik (Fn:=227) (caps:=#[]) (λargs w=>by simp[go_sem]) h (AP.ask_tame hw) (λV G y s' hM ho=>by have h1:=(qen (D0:={s.1 with K:=fenL s.1.K s.1.N s.1.B (E.n*8),B:=List.replicate E.n false}) (y0:=0) Zr ho).1;omega) (by
  intro y s' ho V lv G hV hR hM hG hp hl;obtain⟨rfl,rfl⟩:=qen (D0:={s.1 with K:=fenL s.1.K s.1.N s.1.B (E.n*8),B:=List.replicate E.n false}) (y0:=0) Zr ho;refine(qzi hM.1 hR).mono ?_;rintro e V' ⟨he,hP,hu2⟩;exact⟨he,hM.step hP Zo hG hu2⟩) (by
  intro ho;exact absurd ho (by simp[onM,doF]))
 have hask:=waa hask;have hw:=waa hw;clear h;go_enter Tryz.func168,Tryz.ntmps168;go_wp2_with fail;refine hask.out.mono ?_;rintro e V hpost;rcases hpost.done (AP.ask_tame hw.out) with ⟨y,i',l',s',v,F',ho,rfl,rfl,hI,hg,hu⟩|⟨bl,l',s',F',ho,rfl,hO,hg,hu⟩
 ·have hfin:=waa (DP.Post.ended (t:=AP.ask (onM (doF E.n E.nl E.who 3 0 0)) (λ_=>())) (R:=qdr) (v:= .tuple #[]) (by rw[AP.ask_map,ho]) rfl rfl hI hg hu)
  clear hpost ho hI hg hu;go_wp2_with fail;go_end0
  exact hfin.out
 ·exact⟨rfl,DP.Post.stopped (t:=AP.ask (onM (doF E.n E.nl E.who 3 0 0)) (λ_=>())) (by rw[AP.ask_map,ho]) rfl hO hg hu⟩
end
end Go.Proofs.YtocncmbeinmiaaaGreat
