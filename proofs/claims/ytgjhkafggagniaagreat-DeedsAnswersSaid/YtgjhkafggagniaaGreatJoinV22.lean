/- Parts. No condition. -/
import Derived.RangeFuncFrom
import Derived.Test.YtgjhkafggagniaaGreatJoinV21
set_option linter.unusedVariables false
set_option maxRecDepth 100000
set_option maxHeartbeats 8000000
namespace Go.Proofs.YtgjhkafggagniaaGreat
open Go Go.RowKit Go.Shelf
attribute [local go_sem] we5
theorem qce{W W':World}{row:Option Nat}{B:Nat}{C:Array Value}{t:TypeId}{fr:Nat×Nat}(h:W.heap[B]? =some (.cells C t fr))(hg:W.grownBy W' row)(hr:∀r,row=some r->∃o:Obj,W.heap[r]? =some o/\o.isCells=false):W'.heap[B]? =some (.cells C t fr):=
 (hg.block B (waj.1 h).1 (λe'=>by obtain⟨o,ho,hc⟩:=hr B e'.symm;rw[h] at ho;cases ho;cases hc)).trans h
def Sb(V:World)(b:Nat)(sp ix wd:Int):Prop:=V.heap[b]? =some (.cells #[.int .i64 sp,.int .i64 ix,.int .i64 wd] 77 (0,0))
theorem Sb.below{V V':World}{b B:Nat}{s l r:Int}(h:Sb V b s l r)(hb:Below B V V')(hB:b<B):Sb V' b s l r:=(hb.block b hB).trans h
theorem Sb.lt{V:World}{b:Nat}{s l r:Int}(h:Sb V b s l r):b<V.heap.size:=(waj.1 h).1
theorem Sb.cells{V:World}{b:Nat}{s l r:Int}(h:Sb V b s l r):V.cell? ⟨b,0,none⟩=some (.int .i64 s)/\V.cell? ⟨b,1,none⟩=some (.int .i64 l)/\V.cell? ⟨b,2,none⟩=some (.int .i64 r)/\(∀o,V.frozen? ⟨b,o,none⟩=false):=
 ⟨by rw[qab h];rfl,by rw[qab h];rfl,by rw[qab h];rfl,λo=>qah h o⟩
theorem Sb.new(W:World)(s l r:Int):Sb (W.alloc (.cells #[.int .i64 s,.int .i64 l,.int .i64 r] 77)) W.heap.size s l r:=World.alloc_heap_new W _
theorem Sb.set{V:World}{b:Nat}{k c n k' c' n':Int}(h:Sb V b k c n):Sb (((V.setCell ⟨b,0,none⟩ (.int .i64 k')).setCell ⟨b,1,none⟩ (.int .i64 c')).setCell ⟨b,2,none⟩ (.int .i64 n')) b k' c' n':=by
 have h1:=qaj h 0 (.int .i64 k');have h2:=qaj h1 1 (.int .i64 c');exact qaj h2 2 (.int .i64 n')
theorem Sb.other{V:World}{b b':Nat}{k c n:Int}{o:Nat}{v:Value}(h:Sb V b k c n)(hne:b≠b'):Sb (V.setCell ⟨b',o,none⟩ v) b k c n:=(wa5 _ _ _ _ hne).trans h
theorem pAt_iff{a:Int}{b:BL}:pAt a b=true↔b.1=a:=by simp[pAt]
def NoB(p:BL->Bool)(l:List BL):Prop:=∀y∈l,p y=false
def HitS(p:BL->Bool)(W:World)(br bb:Nat)(pre:List BL):Prop:=∃pre' b,pre=pre'++[b]/\NoB p pre'/\p b=true/\Sb W br b.2.1 b.2.2.1 b.2.2.2/\Boxed W bb 4 (.bool true)
theorem q0h{p:BL->Bool}{pre:List BL}{x:BL}(h:NoB p pre)(hx:p x=false):NoB p (pre++[x]):=by
 intro y hy;rcases wbu.1 hy with hy|hy
 ·exact h y hy
 ·rw[we0.1 hy];exact hx
theorem qnb{n0 bh bi bg bw:Nat}{s l r:Int}{v:Value}(W:World):qdr n0 bh bi bg bw s l r v W W:=⟨id,wai _ _⟩
theorem qk2{n0 bh bi bg bw:Nat}{s l r:Int}{v:Value}{W:World}(h:n0<=W.heap.size)(o:Obj):qdr n0 bh bi bg bw s l r v W (W.alloc o):=⟨λh=>h.below ((wai _ W).alloc (wah _) o),(wai _ W).alloc h o⟩
theorem qjd{W w:World}{br bb n0:Nat}{sp ix wd:Int}{v:Value}(h2:Sb W br sp ix wd)(h3:Boxed W bb 4 v)(hne:br≠bb)(h4:Below n0 w W)(hb1:n0<=br)(hb2:n0<=bb)(k c n:Int)(v':Value):
  Sb ((((W.setCell ⟨br,0,none⟩ (.int .i64 k)).setCell ⟨br,1,none⟩ (.int .i64 c)).setCell ⟨br,2,none⟩ (.int .i64 n)).setCell ⟨bb,0,none⟩ v') br k c n/\
  Boxed ((((W.setCell ⟨br,0,none⟩ (.int .i64 k)).setCell ⟨br,1,none⟩ (.int .i64 c)).setCell ⟨br,2,none⟩ (.int .i64 n)).setCell ⟨bb,0,none⟩ v') bb 4 v'/\
  Below n0 w ((((W.setCell ⟨br,0,none⟩ (.int .i64 k)).setCell ⟨br,1,none⟩ (.int .i64 c)).setCell ⟨br,2,none⟩ (.int .i64 n)).setCell ⟨bb,0,none⟩ v')/\
  KeepsOthers W ((((W.setCell ⟨br,0,none⟩ (.int .i64 k)).setCell ⟨br,1,none⟩ (.int .i64 c)).setCell ⟨br,2,none⟩ (.int .i64 n)).setCell ⟨bb,0,none⟩ v'):=by
 have e3:Boxed (((W.setCell ⟨br,0,none⟩ (.int .i64 k)).setCell ⟨br,1,none⟩ (.int .i64 c)).setCell ⟨br,2,none⟩ (.int .i64 n)) bb 4 v:=(wa5 _ _ _ _ (Ne.symm hne)).trans ((wa5 _ _ _ _ (Ne.symm hne)).trans ((wa5 _ _ _ _ (Ne.symm hne)).trans h3));exact⟨h2.set.other hne,e3.set _,(((h4.setCell (p:=⟨br,0,none⟩) hb1 _).setCell (p:=⟨br,1,none⟩) hb1 _).setCell (p:=⟨br,2,none⟩) hb1 _).setCell (p:=⟨bb,0,none⟩) hb2 _,
  (((KeepsOthers.setCell _ _ _).trans (KeepsOthers.setCell _ _ _)).trans (KeepsOthers.setCell _ _ _)).trans (KeepsOthers.setCell _ _ _)⟩
theorem qyo(s l r a:Int)(A:Option Addr)(cap:Nat)(hs:List HD)(w:World)(h:HdsRd w A hs.length hs)(hcap:hs.length<=cap)(hn:hs.length<=9223372036854775800):
  Calls Tryz.prog 146 #[.agg #[.int .i64 s,.int .i64 l,.int .i64 r],.slice A hs.length cap,.int .i64 a] w λe w'=>e=qy0 ((qeo s l r hs).find? (pAt a))/\Below w.heap.size w w':=by
 refine(callsIn_wide (n:=5)).1 ?_;obtain⟨W1,hW1⟩:∃W1,(((w.alloc (.cells #[.int .i64 s,.int .i64 l,.int .i64 r] 36)).alloc (.cells #[.int .i64 a] 3)).alloc (.cells #[.int .i64 0,.int .i64 0,.int .i64 0] 77)).alloc (.cells #[.bool false] 4)=W1:=⟨_,rfl⟩
 have hB:Below w.heap.size w W1:=by rw[<-hW1];exact(((wai _ w).alloc (wah _) _).alloc Zs _).alloc Zx _|>.alloc Zx _
 have hg:Gm W1 w.heap.size s l r:=by rw[<-hW1];exact qag (qag (qag (qad rfl _ _) _) _) _
 have ha:Boxed W1 (w.heap.size+1) 3 (.int .i64 a):=by rw[<-hW1];exact qag (qag (qad Zs _ _) _) _
 have hr:Sb W1 (w.heap.size+1+1) 0 0 0:=by rw[<-hW1];exact qag (qad Zs _ _) _
 have hb:Boxed W1 (w.heap.size+1+1+1) 4 (.bool false):=by rw[<-hW1];exact qad Zs _ _
 obtain⟨c0,c1,c2,f⟩:=hg.cells;have hbl:=waa (qr5 s l r A cap hs W1 (h.below hB) hn);refine callsIn_of_wp_marks Tryz.func146 rfl trivial ?_ rfl;simp only[Tryz.ntmps146,wa8,waz,wb2,Nat.reduceAdd,Nat.reduceSub,wcr,wcs,wct,wcu,wa7,wbt];gi_wp2_with fail
 have hsz:=waa (show W1.heap.size=w.heap.size+4 by rw[<-hW1];simp);clear hW1;refine⟨trivial,(callsIn_wide.2 hbl.out).mono ?_⟩;rintro e w2 ⟨bi,bw,rfl,hcp,hbi,hbw,hC⟩;have ha2:Boxed w2 (w.heap.size+1) 3 (.int .i64 a):=qds ha hC (by have:=hsz.out;omega);have hr2:Sb w2 (w.heap.size+1+1) 0 0 0:=qds hr hC (by have:=hsz.out;omega);have hb2:Boxed w2 (w.heap.size+1+1+1) 4 (.bool false):=qds hb hC (by have:=hsz.out;omega);have hB2:Below w.heap.size w w2:=hB.trans (hC.mono hB.size);have hs2:w.heap.size+4<=w2.heap.size:=by have:=hC.size;have:=hsz.out;omega
 clear hg ha hr hb c0 c1 c2 f hbl hB;gi_wp2_with fail
 refine wpIn_rangeFunc_ownH rfl Zo (gf:=233) (lb:=#[.pointer (some ⟨W1.heap.size+1,0,none⟩),.pointer (some ⟨bi,0,none⟩),.pointer (some ⟨W1.heap.size,0,none⟩)]) rfl trivial (enters_of Tryz.func233 Zk rfl)
  (qni _ Zo (W1.heap.size+1) bi W1.heap.size bw s l r A cap hs w w2 h hcap hcp hB2) qu8 (qvk hB2.size) (wai _ _) (λ_=>rfl)
  (λpre W=>((Boxed W (w.heap.size+1) 3 (.int .i64 a)/\Sb W (w.heap.size+1+1) 0 0 0/\Boxed W (w.heap.size+1+1+1) 4 (.bool false))/\Below w.heap.size w W)/\NoB (pAt a) pre)
  (λc pre W=>(c= .ret/\HitS (pAt a) W (w.heap.size+1+1) (w.heap.size+1+1+1) pre)/\Below w.heap.size w W)
  (OwnFrom.and (OwnFrom.and (Own.from (λs X Y row hs hg hr=>⟨qce hs.1 hg hr,qce hs.2.1 hg hr,qce hs.2.2 hg hr⟩) _) (ownFrom_below (wah _) hB2.size)) (ownFrom_pure _ _))
  (λc=>OwnFrom.and (Own.from (λs X Y row hs hg hr=>by obtain⟨hc,pre',b,h1,h2,h3,h4,h5⟩:=hs;exact⟨hc,pre',b,h1,h2,h3,qce h4 hg hr,qce h5 hg hr⟩) _) (ownFrom_below (wah _) hB2.size))
  ⟨⟨⟨ha2,hr2,hb2⟩,hB2⟩,λ_ hy=>by cases hy⟩
  (λx a' W=>∃Bx,w.heap.size+4<=Bx/\Sb W Bx x.2.1 x.2.2.1 x.2.2.2/\a'={tmps:=#[.agg #[.int .i64 s,.int .i64 l,.int .i64 r],.slice A hs.length cap,.int .i64 a,.pointer (some ⟨w.heap.size,0,none⟩),undef,.pointer (some ⟨w.heap.size+1,0,none⟩),.pointer (some ⟨w.heap.size+1+1,0,none⟩),.pointer (some ⟨w.heap.size+1+1+1,0,none⟩),.int .i64 x.1,.pointer (some ⟨Bx,0,none⟩),.agg #[.int .i64 s,.int .i64 l,.int .i64 r],.slice A hs.length cap,.func (.func 233) #[] #[.pointer (some ⟨W1.heap.size+1,0,none⟩),.pointer (some ⟨bi,0,none⟩),.pointer (some ⟨W1.heap.size,0,none⟩)],.int .i64 x.1,.agg #[.int .i64 x.2.1,.int .i64 x.2.2.1,.int .i64 x.2.2.2],undef,undef,undef,undef,undef],defers:=[]})
  (λx a' _ X Y row hs hg hr=>by obtain⟨Bx,h1,h2,h3⟩:=hs;exact⟨Bx,h1,qce h2 hg (λr e=>(hr r e).2),h3⟩)
  ?assign ?body ?done ?stop
 case assign=>
  rintro l0 pre ⟨b0,b1,b2,b3⟩ W K ⟨⟨⟨h1,h2,h3⟩,h4⟩,h5⟩ hK;dsimp only[encB];gi_wp2_with fail
  exact hK _ _ ((KeepsOthers.alloc _ _).from _) (qk2 h4.size _) ⟨⟨⟨qag h1 _,qag h2 _,qag h3 _⟩,h4.alloc h4.size _⟩,h5⟩ ⟨W.heap.size,by have:=h3.lt;omega,Sb.new W b1 b2 b3,rfl⟩
 case body=>
  rintro l0 pre ⟨b0,b1,b2,b3⟩ a' W hl0 ⟨rr,hrr⟩ ⟨⟨⟨h1,h2,h3⟩,h4⟩,h5⟩ ⟨Bx,hBx,hbx,rfl⟩ hlt;obtain⟨x0,x1,x2,xf⟩:=hbx.cells;obtain⟨y0,y1,y2,yf⟩:=h2.cells;have z0:=h3.cell;have zf:=h3.frozen;have u0:=h1.cell;by_cases hp:b0=a
  ·have hpe:(b0==a)=true:=beq_iff_eq.2 hp
   have hhit:pAt a (a,b1,b2,b3)=true:=pAt_iff.2 rfl;obtain⟨g1,g2,g3,g4⟩:=qjd h2 h3 Zo h4 Zo Zo b1 b2 b3 (.bool true);gi_wp2_with fail
   exact⟨g4.from _,⟨rfl,pre,_,rfl,h5,hhit,g1,g2⟩,g3⟩
  ·have hpe:(b0==a)=false:=beq_eq_false_iff_ne.2 hp
   have hno:=q0h (p:=pAt a) (x:=(b0,b1,b2,b3)) h5 (by rw[<-wby,pAt_iff];exact hp);gi_wp2_with fail
   exact⟨KeepsFrom.refl _ _,qnb _,⟨⟨h1,h2,h3⟩,h4⟩,hno⟩
 case done=>
  rintro D ys W hD rfl ⟨⟨⟨h1,h2,h3⟩,h4⟩,h5⟩ hK;have hfi:=waa (qkv h5);obtain⟨y0,y1,y2,yf⟩:=h2.cells;have z0:=h3.cell;have zf:=h3.frozen;obtain⟨g1,g2,g3,g4⟩:=qjd h2 h3 Zo h4 Zo Zo 0 0 0 (.bool false);gi_wp2_with fail
  have hK':=g4.same D _ hK rfl;refine⟨by simp,.inl ⟨_,_,rfl,run_takeDeferred hK',?_⟩⟩;obtain⟨e0,e1,e2,-⟩:=(show Sb _ _ _ _ _ from qbw (o':= .deferred none) g1 hK' rfl).cells;have e3:=(show Boxed _ _ _ _ from qbw (o':= .deferred none) g2 hK' rfl).cell;refine⟨.tuple #[.agg #[.int .i64 0,.int .i64 0,.int .i64 0],.bool false],?_,by rw[hfi.out];rfl,g3.trans (belowK_b (w:=w) (wah _) _ D _ _ (by have:=hB2.size;omega) hK' rfl rfl)⟩;simp[results,Tryz.f146,go_sem,e0,e1,e2,e3]
 case stop=>
  rintro D c pre W hD hpre ⟨⟨rfl,pre',⟨b0,b1,b2,b3⟩,rfl,g1,g2,g3,g4⟩,h4⟩ hK;have hfi:=waa (qyg hpre g1 g2);clear g1 g2 hpre;gi_wp2_with fail
  refine⟨by simp,.inl ⟨_,_,rfl,run_takeDeferred hK,?_⟩⟩;obtain⟨e0,e1,e2,-⟩:=(show Sb _ _ _ _ _ from qbw (o':= .deferred none) g3 hK rfl).cells;have e3:=(show Boxed _ _ _ _ from qbw (o':= .deferred none) g4 hK rfl).cell;refine⟨.tuple #[.agg #[.int .i64 b1,.int .i64 b2,.int .i64 b3],.bool true],?_,by rw[hfi.out];rfl,h4.trans (belowK_b (w:=w) (wah _) W D _ _ (by have:=hB2.size;omega) hK rfl rfl)⟩;simp[results,Tryz.f146,go_sem,e0,e1,e2,e3]
attribute [local go_sem] we5
def wrAt(ws:List (Int×Nat))(a:Int):Option Nat:=(ws.reverse.find? λe=>decide (e.1=a)).map (·.2)
def NoE(a:Int)(pre:List (Nat×Int×Nat)):Prop:=∀y∈pre,y.2.1≠a
def HitE(a:Int)(W:World)(b:Nat)(pre:List (Nat×Int×Nat)):Prop:=∃(pre':List (Nat×Int×Nat)) (x:Nat×Int×Nat),pre=pre'++[x]/\NoE a pre'/\x.2.1=a/\Boxed W b 40 (.int .u64 (x.2.2:Int))
theorem qsz(ws:List (Int×Nat)):(yU ws 0).map (λy=>(y.2.1,y.2.2))=ws.reverse:=by
 unfold yU;rw[List.drop_zero,List.map_reverse,List.map_map];congr 1
 apply wa2
 intro i;rw[way];by_cases hi:i<ws.length
 ·rw[wco hi]
  simp[hi]
 ·rw[wb7 (by simpa using hi),wb7 Zo]
  rfl
theorem q0v{ws:List (Int×Nat)}{a:Int}(h:NoE a (yU ws 0)):wrAt ws a=none:=by
 unfold wrAt;rw[<-qsz,List.find?_map,Option.map_map];rw[we3.2 (λy hy=>by simpa using h y hy)];rfl
theorem q0t{ws:List (Int×Nat)}{a:Int}{pre:List (Nat×Int×Nat)}{x:Nat×Int×Nat}(hp:(pre++[x])<+:yU ws 0)(h:NoE a pre)(hx:x.2.1=a):wrAt ws a=some x.2.2:=by
 obtain⟨r,hr⟩:=hp;unfold wrAt;rw[<-qsz,List.find?_map,Option.map_map,<-hr,wbi,we4,we3.2 (λy hy=>by simpa using h y hy)];simp[hx]
theorem qzl{ws:List (Int×Nat)}(h:∀e∈ws,qen e){a:Int}{y:Nat}(hy:wrAt ws a=some y):y<18446744073709551616:=by
 unfold wrAt at hy;obtain⟨e,he,rfl⟩:=wb3.1 hy;exact(h e (List.mem_reverse.1 (List.mem_of_find?_eq_some he))).2
theorem q0e{n0 bw:Nat}{v:Value}{w:World}(h:n0<=w.heap.size):∀(W:World) (l:Nat) (o o':Obj),w.heap.size<=l->W.heap[l]? =some o->o.isCells=false->o.isWalk=false->qe9 n0 bw v W (W.putObj l o'):=λW l o o' hl ho hc hk=>
 ⟨λhb=>qbw hb ho hc,belowK_b h W l o o' hl ho hc hk⟩
section
variable {τ:Type} {A:AC} {E:DP τ} {i:Nat} {l:List Nat} {s:DM×τ} {F:Nat->Prop} {v:Value} {ws:List (Int×Nat)} {w:World}
def qyy(Q:Exit->Act->World->Prop)(ds:List Deferred)(PK:List PanicEntry->World->Prop):Exit->Act->World->Prop
 | .panic ch,a,w=>a.defers=ds/\PK ch w
 |e,a,w=>Q e a w
theorem q1j{P:Program}{c:Code}{Q:Exit->Act->World->Prop}{a:Act}{w:World}(ds:List Deferred)(PK:List PanicEntry->World->Prop)(hp:∀ch a w,a.defers=ds->PK ch w->Q (.panic ch) a w)(h:c.wp P (qyy Q ds PK) a w):c.wp P Q a w:=
 Code.wp_mono (λe a w hq=>by
  cases e with
  |panic ch=>exact hp ch a w hq.1 hq.2
  |_=>exact hq) h
theorem DP.Off.upd{bl:Bool}{H:Nat->Prop}{w':World}(h:E.Off bl l s F w)(hu:Upd H w w')(hH:∀k,F k->¬H k):E.Off bl l s F w':=by
 obtain⟨lv,G,⟨i,hE⟩,hR,hM,hC,hy⟩:=h;exact⟨lv,G,⟨i,hE.upd hu (hH _ (hC.1 _ (.inr (.inr (.inl rfl)))))⟩,hR.upd hu (hH _ (hC.1 _ (.inr (.inr (.inr (.inl rfl)))))) (λk hk=>hH _ (hC.1 _ (.inr (.inr (.inr (.inr hk)))))),hM.upd hu (λk hk=>hH _ (hC.1 _ (.inl hk))) (λk hk=>hH _ (hC.1 _ (.inr (.inl hk)))),⟨hC.1,λk hk=>wak (hC.2.1 k hk) hu.size,hC.2.2⟩,hy⟩
theorem qjp{G:Nat->Prop}{W:World}{D:Nat}(o:Obj)(hG:G D):Upd G W (W.putObj D o):=⟨rfl,rfl,rfl,by simp[World.putObj],λk hk hn=>World.putObj_heap_other (λe=>hn (e▸hG))⟩
def OffD(E:DP τ)(o:Out (DM×τ) Nat)(F:Nat->Prop)(W:World)(D:Nat)(ch:List PanicEntry)(V:World):Prop:=ch=qbs E.eb/\(∃bl l2 s2 F2,o= .stop bl l2 s2/\E.Off bl l2 s2 F2 V/\Grows F F2 W/\Upd F W V)/\V.heap[D]? =some (.deferred (some []))
def qar(n nl:Nat)(who:Int)(ws:List (Int×Nat))(a:Int):AP (DM×τ) Nat:=match wrAt ws a with
 |some y=>AP.ret y
 |none=>qie n nl who a
theorem qc3(h:AIn A E i l s F v ws w)(a:Int)(hm:ws.length<=500)(hw:qar E.n E.nl E.who ws a E.sp i l s≠ .wild):
  Calls Tryz.prog 217 #[.pointer (some ⟨A.ab,0,none⟩),.int .i64 a] w λe w'=>E.Post (qar E.n E.nl E.who ws a E.sp i l s) (λ(y:Nat) v _=>v= .int .u64 (y:Int)) F w e w':=by
 refine(callsIn_wide (n:=5)).1 ?_;obtain⟨VA,VC,hv,hR⟩:=EsRd.of_own h.a.row;subst hv;generalize hmm:ws.length=m at hm hR;obtain⟨W1,hW1⟩:∃W1,(w.alloc (.cells #[.int .i64 a] 3)).alloc (.cells #[.int .u64 0] 40)=W1:=⟨_,rfl⟩
 have hB:Below w.heap.size w W1:=by rw[<-hW1];exact((wai _ w).alloc (wah _) _).alloc Zs _
 have h1:=h.below hB;rw[hmm] at h1;have ha:Boxed W1 w.heap.size 3 (.int .i64 a):=by rw[<-hW1];exact qag (qad rfl _ _) _
 have hr:Boxed W1 (w.heap.size+1) 40 (.int .u64 0):=by rw[<-hW1];exact qad Zs _ _
 obtain⟨⟨c0,-⟩,⟨-,-,c16⟩,-⟩:=h1.a.cells;have hsz:=waa (show W1.heap.size=w.heap.size+2 by rw[<-hW1];simp);refine callsIn_of_wp_marks Tryz.func217 rfl trivial ?_ rfl;simp only[Tryz.ntmps217,wa8,waz,wb2,Nat.reduceAdd,Nat.reduceSub,wcr,wcs,wct,wcu,wa7,wbt];gi_wp2_with fail
 obtain⟨w2,hw2⟩:∃w2,W1.alloc (.cells #[.slice VA m VC] 155)=w2:=⟨_,rfl⟩
 have hBb:=(wai W1.heap.size W1).alloc (wah _) (.cells #[.slice VA m VC] 155);rw[hw2] at hBb;have hbw:Boxed w2 W1.heap.size 155 (.slice VA m VC):=by rw[<-hw2];exact qad rfl _ _
 have hB2:=hB.trans (hBb.mono hB.size);have ha2:=qds ha hBb ha.lt;have hr2:=qds hr hBb hr.lt;have hs2:w.heap.size+3<=w2.heap.size:=by rw[<-hw2];simp[hsz.out]
 refine⟨trivial,(callsIn_wide.2 (qmp VA m VC W1)).mono ?_⟩;rintro e w3 ⟨rfl,hw3⟩;obtain rfl:=hw2.symm.trans hw3;clear hw3 ha hr c0 c16 hB h1;gi_wp2_with fail
 refine wpIn_rangeFunc_ownH rfl Zo (gf:=324) (lb:=#[.pointer (some ⟨W1.heap.size,0,none⟩)]) rfl trivial (enters_of Tryz.func324 Zk rfl)
  (qq8 _ Zo W1.heap.size VA m VC ws w _ hR hm hbw hB2) q1c (q0e hB2.size) (wai _ _) (λ_=>rfl)
  (λpre W=>((Boxed W w.heap.size 3 (.int .i64 a)/\Boxed W (w.heap.size+1) 40 (.int .u64 0))/\Below w.heap.size w W)/\NoE a pre)
  (λc pre W=>(c= .ret/\HitE a W (w.heap.size+1) pre)/\Below w.heap.size w W)
  (OwnFrom.and (OwnFrom.and (Own.from (λs X Y row hs hg hr=>⟨qce hs.1 hg hr,qce hs.2 hg hr⟩) _) (ownFrom_below (wah _) hB2.size)) (ownFrom_pure _ _))
  (λc=>OwnFrom.and (Own.from (λs X Y row hs hg hr=>by obtain⟨hc,pre',b,h1,h2,h3,h4⟩:=hs;exact⟨hc,pre',b,h1,h2,h3,qce h4 hg hr⟩) _) (ownFrom_below (wah _) hB2.size))
  ⟨⟨⟨ha2,hr2⟩,hB2⟩,λ_ hy=>by cases hy⟩
  (λx a' W=>∃Bx,w.heap.size+2<=Bx/\W.heap[Bx]? =some (.cells #[.int .i64 x.2.1,.int .u64 (x.2.2:Int)] 169 (0,0))/\a'={tmps:=#[.pointer (some ⟨A.ab,0,none⟩),.int .i64 a,undef,.pointer (some ⟨w.heap.size,0,none⟩),.pointer (some ⟨w.heap.size+1,0,none⟩),undef,.pointer (some ⟨Bx,0,none⟩),.pointer (some ⟨A.ab,0,none⟩),.pointer (some ⟨A.ab,0,none⟩),.pointer (some ⟨A.ab,16,none⟩),.slice VA m VC,.func (.func 324) #[] #[.pointer (some ⟨W1.heap.size,0,none⟩)],.int .i64 (x.1:Int),.agg #[.int .i64 x.2.1,.int .u64 (x.2.2:Int)],undef,undef,undef,undef,undef,undef,undef,undef,undef,undef,undef,undef],defers:=[]})
  (λx a' _ X Y row hs hg hr=>by obtain⟨Bx,h1,h2,h3⟩:=hs;exact⟨Bx,h1,qce h2 hg (λr e=>(hr r e).2),h3⟩)
  ?assign ?body ?done ?stop
 case assign=>
  rintro l0 pre ⟨b0,b1,b2⟩ W K ⟨⟨⟨h1,h2⟩,h4⟩,h5⟩ hK;dsimp only[encE];gi_wp2_with fail
  exact hK _ _ ((KeepsOthers.alloc _ _).from _) (qoq h4.size _) ⟨⟨⟨qag h1 _,qag h2 _⟩,h4.alloc h4.size _⟩,h5⟩ ⟨W.heap.size,by have:=h2.lt;omega,qad rfl _ _,rfl⟩
 case body=>
  rintro l0 pre ⟨b0,b1,b2⟩ a' W hl0 ⟨rr,hrr⟩ ⟨⟨⟨h1,h2⟩,h4⟩,h5⟩ ⟨Bx,hBx,hbx,rfl⟩ hlt;have x0:=qab hbx 0;have x1:=qab hbx 1;simp at x0 x1
  have y0:=h2.cell;have yf:=h2.frozen;have u0:=h1.cell;by_cases hp:b1=a
  ·have hpe:(b1==a)=true:=beq_iff_eq.2 hp
   gi_wp2_with fail
   exact⟨(KeepsOthers.setCell _ _ _).from _,⟨rfl,pre,(b0,b1,b2),(by rw[hp]),h5,hp,h2.set _⟩,h4.setCell (p:=⟨w.heap.size+1,0,none⟩) Zs _⟩
  ·have hpe:(b1==a)=false:=beq_eq_false_iff_ne.2 hp
   gi_wp2_with fail
   refine⟨KeepsFrom.refl _ _,qqn _,⟨⟨h1,h2⟩,h4⟩,λy hy=>?_⟩;rcases wbu.1 hy with hy|hy
   ·exact h5 y hy
   ·rw[we0.1 hy];exact hp
 case done=>
  rintro D ys W hD rfl ⟨⟨⟨h1,h2⟩,h4⟩,h5⟩ hK;have hwn:=q0v h5;have hA:=h.below h4;have hlw:qar (τ:=τ) E.n E.nl E.who ws a=qie E.n E.nl E.who a:=by unfold qar;rw[hwn]
  rw[hlw] at hw;have hAd:=(AtF.start h).below (h4.drew);have hKD:=hK;have hDge:w.heap.size+2<=D:=Zo
  have hld:=waa (q09 hAd.a.i a hw);obtain⟨⟨c0,-⟩,-⟩:=hAd.a.a.cells;rw[h.eb] at c0;have u0:W.drew.cell? ⟨w.heap.size,0,none⟩=some (.int .i64 a):=h1.cell;have hFl:∀k,w.heap.size<=k->¬F k:=λk hk e=>by have:=h.i.lt e;omega
  have hDF:¬F D:=hFl D (by have:=hD;omega);have hDl:D<W.drew.heap.size:=(waj.1 hK).1;have hBw:Upd F w W.drew:=(Upd.of_below h4.drew (wah _):Upd (λ_=>False) w W.drew).mono (λ_ e=>e.elim);have hws:w.heap.size+2<=W.drew.heap.size:=h2.lt;replace hw:=waa hw;gi_wp2_with fail
  refine wpIn_wide.2 (q1j [{target:= .collected D,args:=#[]}] (OffD E (qie E.n E.nl E.who a E.sp i l s) F W.drew D) ?_ ?_)
  ·rintro ch a' V hds ⟨rfl,⟨bl,l2,s2,F2,ho,hO2,hg2,hu2⟩,hD2⟩
   show LeavesInM _ _ _ _ _ _ _ _ _
   rw[hds];refine⟨by simp,.inl ⟨_,_,rfl,run_takeDeferred hD2,?_⟩⟩;have hF2:∀k,F2 k->¬k=D:=λk hk e=>(hg2 k hk).elim (λe1=>hDF (e▸e1)) (λe1=>by omega)
   have hp:E.Post (qar E.n E.nl E.who ws a E.sp i l s) (λ(y:Nat) v _=>v= .int .u64 (y:Int)) F w (.panicked (qbs E.eb)) (V.putObj D (.deferred none)):=by
    rw[hlw];refine DP.Post.stopped (t:=qie E.n E.nl E.who a) ho rfl (hO2.upd (qjp (G:=λk=>k=D) _ rfl) hF2) (λk hk=>(hg2 k hk).imp id (λe=>by omega)) ?_;exact((hBw.trans hu2).after (qjp (G:=λk=>k=D) _ rfl) (λk hk=> .inr (by subst hk;omega)))
   exact hp
  refine wp_region_held_drew (S:=(λU=>U.cell? ⟨A.ab,0,none⟩=some (.pointer (some ⟨E.eb,0,none⟩))/\U.cell? ⟨w.heap.size,0,none⟩=some (.int .i64 a))) Zk (⟨c0,u0⟩) (λhHeld=>?_);refine wpAnyH_take (i:=0) (v:=?_) rfl Zk Zk Zk (λ_ _ _ h=>h) (Or.inl ⟨by rfl,?_⟩) Za ?_;rotate_left;(·intro u h;(try dsimp only at h);(try simp only[wab,wac]);go_simp;try with_reducible rfl);try simp only[Act.put,waf,wae,wag,wab,wac]
  refine wpAnyH_take (i:=1) (v:=?_) rfl Zk Zk Zk (λ_ _ _ h=>h) (Or.inl ⟨by rfl,?_⟩) Za ?_;rotate_left;(·intro u h;(try dsimp only at h);(try simp only[wab,wac,wad]);go_simp;try with_reducible rfl);try simp only[Act.put,waf,wae,wag,wab,wac,wad]
  refine wpAnyH_take (i:=2) (v:=?_) rfl Zk Zk Zk (λ_ _ _ h=>h) (Or.inl ⟨by rfl,?_⟩) Za ?_;rotate_left;(·intro u h;(try dsimp only at h);(try simp only[wab,wac,wad]);go_simp;try with_reducible rfl);try simp only[Act.put,waf,wae,wag,wab,wac,wad]
  refine wpAnyH_take (i:=3) (v:=?_) rfl Zk Zk Zk (λ_ _ _ h=>h) (Or.inl ⟨by rfl,?_⟩) Za ?_;rotate_left;(·intro u h;(try dsimp only at h);(try simp only[wab,wac,wad]);go_simp;try with_reducible rfl);try simp only[Act.put,waf,wae,wag,wab,wac,wad]
  refine wpAnyH_take (i:=4) (v:=?_) rfl Zk Zk Zk (λ_ _ _ h=>h) (Or.inl ⟨by rfl,?_⟩) Za ?_;rotate_left;(·intro u h;(try dsimp only at h);(try simp only[wab,wac,wad]);go_simp;try with_reducible rfl);try simp only[Act.put,waf,wae,wag,wab,wac,wad]
  refine wpAnyH_ready (rs:=[5]) Zk Zs ?_;refine AllReadyH.cons rfl (λK hK=>?_) AllReadyH.nil
  (try simp only[wab,wac,wad])
  go_simp
  refine hld.out.mono ?_;intro e V hpost;rcases hpost.done hw.out with ⟨y,i2,l2,s2,x2,F2,ho,rfl,rfl,hI2,hg2,hu2⟩|⟨bl,l2,s2,F2,ho,rfl,hO2,hg2,hu2⟩
  rotate_left
  ·exact⟨rfl,rfl,⟨bl,l2,s2,F2,ho,hO2,hg2,hu2⟩,(hu2.block D hDl hDF).trans hKD⟩
  have hc0:V.cell? ⟨A.ab,0,none⟩=some (.pointer (some ⟨E.eb,0,none⟩)):=(hu2.cell (p:=⟨A.ab,0,none⟩) (wal _ _ c0) h.nF).trans c0;have hbx1:Boxed V w.heap.size 3 (.int .i64 a):=(hu2.block _ h1.lt (hFl _ (wah _))).trans h1;have hbx2:Boxed V (w.heap.size+1) 40 (.int .u64 0):=(hu2.block _ h2.lt (hFl _ Zo)).trans h2;have hcb2:=hbx2.cell;have hcf2:=hbx2.frozen;have hD2:=(hu2.block D hDl hDF).trans hKD;go_wp2_with fail;refine hK.out _ _ (⟨hc0,hbx1.cell⟩) (λhHeld2=>?_);clear hK K hHeld;have hHeld:=hHeld2;clear hHeld2;try simp only[Act.put,waf,wae,wag,wab,wac,wad]
  refine wpAnyH_ready (rs:=[6]) Zk Zs ?_;refine AllReadyH.cons rfl (λK hK=>?_) AllReadyH.nil
  (try simp only[wab,wac,wad])
  go_simp
  refine hK.out _ _ (⟨(Below.cell (p:=⟨A.ab,0,none⟩) (((wai (w.heap.size+1) V).setCell (p:=⟨w.heap.size+1,0,none⟩) (wah _) (.int .u64 (y:Int)))) (show A.ab<w.heap.size+1 by have:=h.a.lt;omega)).trans hc0,(Below.cell (p:=⟨w.heap.size,0,none⟩) (((wai (w.heap.size+1) V).setCell (p:=⟨w.heap.size+1,0,none⟩) (wah _) (.int .u64 (y:Int)))) Zs).trans hbx1.cell⟩) (λhHeld2=>?_);clear hK K hHeld;have hHeld:=hHeld2;clear hHeld2;try simp only[Act.put,waf,wae,wag,wab,wac,wad]
  refine wpAnyH_done Zk ?_ _;simp only[qyy];gi_wp2_with fail
  have hu3:Upd (λk=>k=w.heap.size+1) V (V.setCell ⟨w.heap.size+1,0,none⟩ (.int .u64 (y:Int))):=(Upd.refl (λk=>k=w.heap.size+1) V).setCell (p:=⟨w.heap.size+1,0,none⟩) (.inl rfl) _;have hDw:w.heap.size+2<=D:=hDge;have hD3:=(hu3.block D (waj.1 hD2).1 Zo).trans hD2;refine⟨by simp,.inl ⟨_,_,rfl,run_takeDeferred hD3,?_⟩⟩;have hbx3:=hbx2.set (.int .u64 (y:Int));have e3:=(show Boxed _ _ _ _ from qbw (o':= .deferred none) hbx3 hD3 rfl).cell;have hu4:Upd (λk=>k=w.heap.size+1\/k=D) V ((V.setCell ⟨w.heap.size+1,0,none⟩ (.int .u64 (y:Int))).putObj D (.deferred none)):=(hu3.mono (λk e=> .inl e)).trans (qjp _ (.inr rfl));have hF2:∀k,F2 k->¬(k=w.heap.size+1\/k=D):=λk hk e=>by
   rcases hg2 k hk with e1|e1
   ·have:=h.i.lt e1
    rcases e with e|e<;>omega
   ·rcases e with e|e<;>omega
  have hlow:=h.i.low;have hI3:=hI2.upd hu4 hF2 (λe=>by have:=hlow E.a (.inr (.inl rfl));rcases e with e|e<;>omega) (λe=>by have:=hlow E.b (.inr (.inr (.inl rfl)));rcases e with e|e<;>omega) (λe=>by have:=hlow E.c (.inr (.inr (.inr rfl)));rcases e with e|e<;>omega);refine⟨.int .u64 (y:Int),?_,?_⟩
  ·simp[results,Tryz.f217,go_sem,e3]
  ·rw[hlw]
   exact DP.Post.ended (t:=qie E.n E.nl E.who a) ho rfl rfl hI3 (λk hk=>(hg2 k hk).imp id (λe=>by omega)) ((hBw.trans hu2).after hu4 (λk hk=> .inr (by rcases hk with e|e<;>omega)))
 case stop=>
  rintro D c pre W hD hpre ⟨⟨rfl,pre',x,rfl,g1,g2,g3⟩,h4⟩ hK;have hws:=q0t hpre g1 g2;have hlw:qar (τ:=τ) E.n E.nl E.who ws a=AP.ret x.2.2:=by unfold qar;rw[hws]
  clear g1 g2 hpre;gi_wp2_with fail
  refine⟨by simp,.inl ⟨_,_,rfl,run_takeDeferred hK,?_⟩⟩;have e3:=(show Boxed _ _ _ _ from qbw (o':= .deferred none) g3 hK rfl).cell;have hB3:=h4.trans (belowK_b (w:=w) (wah _) W D _ (.deferred none) (by have:=hB2.size;omega) hK rfl rfl);have hA:=h.below hB3;refine⟨.int .u64 (x.2.2:Int),?_,(AtF.start h).below hB3|>.done (a:=x.2.2) (by rw[hlw];rfl) rfl⟩;simp[results,Tryz.f217,go_sem,e3]
end
end Go.Proofs.YtgjhkafggagniaaGreat
