/- Parts. No condition. -/
import Derived.Test.YtgjhkafggagniaaGreatJoinV16
set_option linter.unusedVariables false
set_option maxRecDepth 100000
set_option maxHeartbeats 8000000
namespace Go.Proofs.YtgjhkafggagniaaGreat
open Go Go.RowKit
def qd4(zs:List Int):List Int:=((List.range 2048).map λ(i:Nat)=>((8*i:Nat):Int)).filter λa=>zs.any λz=>decide (z/8*8=a)
theorem qp2{zs:List Int}(h:∀z∈zs,0<=z/\z<16384)(x:Int):x∈qd4 zs↔∃z∈zs,z/8*8=x:=by
 unfold qd4;rw[List.mem_filter,List.any_eq_true];constructor
 ·rintro⟨-,z,hz,e⟩
  exact⟨z,hz,of_decide_eq_true e⟩
 ·rintro⟨z,hz,rfl⟩
  have:=h z hz
  refine⟨wbb.2 ⟨(z/8).toNat,wcb.2 Zo,Zo⟩,z,hz,decide_eq_true rfl⟩
theorem qok(zs:List Int):(qd4 zs).Pairwise (·< ·):=by
 unfold qd4;refine List.Pairwise.filter _ ?_;rw[List.pairwise_map];exact List.pairwise_lt_range.imp (λh=>by omega)
theorem qma:∀{a b:List Int},a.Pairwise (·< ·)->b.Pairwise (·< ·)->(∀x,x∈a↔x∈b)->a=b
 |[],[],_,_,_=>rfl
 |[],y::b,_,_,h=>absurd ((h y).2 Zs) Zs
 |x::a,[],_,_,h=>absurd ((h x).1 Zs) Zs
 |x::a,y::b,ha,hb,h=>by
  obtain⟨h1,h2⟩:=wez.1 ha;obtain⟨h3,h4⟩:=wez.1 hb;have hxy:x=y:=by
   have e1:=(h x).1 Zs;have e2:=(h y).2 Zs;rcases wa1.1 e1 with e|e
   ·exact e
   ·rcases wa1.1 e2 with e'|e'
    ·exact e'.symm
    ·have:=h1 y e';have:=h3 x e;omega
  subst hxy;rw[qma h2 h4 (λz=>?_)];constructor
  ·intro hz
   rcases wa1.1 ((h z).1 (by simp[hz])) with e|e
   ·have:=h1 z hz;omega
   ·exact e
  ·intro hz
   rcases wa1.1 ((h z).2 (by simp[hz])) with e|e
   ·have:=h3 z hz;omega
   ·exact e
theorem qlx{zs L:List Int}(h:∀z∈zs,0<=z/\z<16384)(hL:L.Pairwise (·< ·))(hm:∀x,x∈L↔∃a∈zs,qdu a=x):L=qd4 zs:=
 qma hL (qok zs) (λx=>by
  rw[hm,qp2 h];constructor
  ·rintro⟨a,ha,rfl⟩
   exact⟨a,ha,(qlz (h a ha).1 (by have:=(h a ha).2;omega)).symm⟩
  ·rintro⟨a,ha,rfl⟩
   exact⟨a,ha,qlz (h a ha).1 (by have:=(h a ha).2;omega)⟩)
theorem qwo{U:World}{B n c:Nat}{A:Option Addr}{e:TypeId}{xs:List Value}(h:U.ownsRow B e 1 (.slice A n c) n xs):Rd U A n xs:=by
 obtain⟨A',c',e,hR⟩:=Rd.of_own h;injection e with e1 e2 e3;subst e1;exact hR
section
variable {τ:Type} {E:DP τ} {i:Nat} {l:List Nat} {s:DM×τ} {F:Nat->Prop} {w w':World}
def qct(n nl:Nat)(who:Int)(e:Int×Nat):AP (DM×τ) Unit:=AP.ask (onM (doF n nl who 0 e.1 e.2)) (λ_=>())
def qb4(n nl:Nat)(who:Int)(a:Int):AP (DM×τ) Unit:=AP.ask (onM (doF n nl who 2 a 0)) (λ_=>())
def qcs(n nl:Nat)(who:Int):AP (DM×τ) Unit:=AP.ask (onM (doF n nl who 3 0 0)) (λ_=>())
def qa7(n nl:Nat)(who:Int)(es:List (Int×Nat)):AP (DM×τ) Unit:=
 (AP.each (qct n nl who) es).bind λ_=>(AP.each (qb4 n nl who) (qd4 (es.map (·.1)))).bind λ_=>qcs n nl who
theorem EsRd.upd{G:Nat->Prop}{A:Option Addr}{n:Nat}{es:List (Int×Nat)}(h:EsRd w A n es)(hu:Upd G w w')(hG:∀p,A=some p->0<n->¬G p.block):EsRd w' A n es:=
 ⟨h.1,λhn=>by
  obtain⟨p,e,hp⟩:=h.2 hn;have hg:=hG p e hn;have hb:∀k,(p.add k).block=p.block:=λk=>by cases k<;>rfl
  refine⟨p,e,λj x hx=>?_⟩;obtain⟨h0,h1⟩:=hp j x hx;exact⟨(hu.cell (wal w _ h0) (by rw[hb];exact hg)).trans h0,(hu.cell (wal w _ h1) (by show ¬G (p.add (j*2)).block;rw[hb];exact hg)).trans h1⟩⟩
theorem qul{V:World}(h:E.In i l s F V){be bs N cap j x:Nat}{A:Option Addr}{es:List (Int×Nat)}{a:Int}(hbe:Boxed V be 153 (.pointer (some ⟨E.eb,0,none⟩)))(hbs:Boxed V bs 155 (.slice A N cap))(hes:EsRd V A N es)(hj:es[j]? =some (a,x))(hx:x<18446744073709551616)(hw:qct E.n E.nl E.who (a,x) E.sp i l s≠ .wild):
  Calls Tryz.prog 366 #[.int .i64 (j:Int),.int .i64 a,.pointer (some ⟨be,0,none⟩),.pointer (some ⟨bs,0,none⟩)] V λe V'=>E.Post (qct E.n E.nl E.who (a,x) E.sp i l s) qbc F V e V':=by
 have hjN:j<N:=by rw[<-hes.1];exact(was.1 hj).1
 obtain⟨p,rfl,hp⟩:=hes.2 Zo;obtain⟨c0,c1⟩:=hp j _ hj;simp only at c0 c1;have hst:=waa (qne (h.new (w':=V.drew) ((Upd.refl _ V).drew)) a hx hw);replace hw:=waa hw;have b0:=hbe.cell;have b1:=hbs.cell;have z0:(0:Int)<=(j:Int):=Zo
 have z1:(j:Int)<(N:Int):=Zo
 clear h hbe hbs hes hp;go_enter Tryz.func366,Tryz.ntmps366;go_wp2_with fail;go_still_tail 7,Zk
 change wpList _ _ _ _ _ V.drew;go_wp2_with fail;refine hst.out.mono ?_;intro e V1 hpost;have hpost:=hpost.more (w0:=V) ((Upd.refl _ V).drew);rcases hpost.done hw.out with ⟨u,i2,l2,s2,v,F2,ho,rfl,rfl,hI,hg,hu⟩|⟨bl,l2,s2,F2,ho,rfl,hO,hg,hu⟩
 ·have hfin:=waa (DP.Post.ended (t:=qct E.n E.nl E.who (a,x)) (R:=qbc) (v:= .tuple #[]) ho rfl rfl hI hg hu)
  clear hpost ho hI hg hu;go_wp2_with fail;go_end0
  exact hfin.out
 ·exact⟨rfl,DP.Post.stopped (t:=qct E.n E.nl E.who (a,x)) ho rfl hO hg hu⟩
theorem qv7{V:World}(h:E.In i l s F V){be j:Nat}{a:Int}(hbe:Boxed V be 153 (.pointer (some ⟨E.eb,0,none⟩)))(hw:qb4 E.n E.nl E.who a E.sp i l s≠ .wild):
  Calls Tryz.prog 367 #[.int .i64 (j:Int),.int .i64 a,.pointer (some ⟨be,0,none⟩)] V λe V'=>E.Post (qb4 E.n E.nl E.who a E.sp i l s) qbc F V e V':=by
 have hst:=waa (ql8 h a hw);replace hw:=waa hw;have b0:=hbe.cell;clear h hbe;go_enter Tryz.func367,Tryz.ntmps367;go_wp2_with fail;refine hst.out.mono ?_;intro e V1 hpost;rcases hpost.done hw.out with ⟨u,i2,l2,s2,v,F2,ho,rfl,rfl,hI,hg,hu⟩|⟨bl,l2,s2,F2,ho,rfl,hO,hg,hu⟩
 ·have hfin:=waa (DP.Post.ended (t:=qb4 E.n E.nl E.who a) (R:=qbc) (v:= .tuple #[]) ho rfl rfl hI hg hu)
  clear hpost ho hI hg hu;go_wp2_with fail;go_end0
  exact hfin.out
 ·exact⟨rfl,DP.Post.stopped (t:=qb4 E.n E.nl E.who a) ho rfl hO hg hu⟩
theorem qwd(h:E.In i l s F w){A:Option Addr}{cap N:Nat}{es:List (Int×Nat)}(hes:EsRd w A N es)(hA:∀p,A=some p->0<N->¬F p.block)(hr:∀e∈es,0<=e.1/\e.1<16384)(hx:∀e∈es,e.2<18446744073709551616)(hN:N<=60000)(hw:qa7 E.n E.nl E.who es E.sp i l s≠ .wild):
  Calls Tryz.prog 323 #[.pointer (some ⟨E.eb,0,none⟩),.slice A N cap] w λe w'=>E.Post (qa7 E.n E.nl E.who es E.sp i l s) qbc F w e w':=by
 have hmf:∀(fn:Fn) (first cap:Array Value) (w:World),(Instr.makeFunc fn first cap).run Tryz.prog w= .ok (.func fn first cap) w:=λ_ _ _ _=>rfl
 have hu0:Upd (λ_=>False) w ((w.alloc (.cells #[.pointer (some ⟨E.eb,0,none⟩)] 153)).alloc (.cells #[.slice A N cap] 155)):=((Upd.refl _ w).alloc _).alloc _;have hbe:Boxed ((w.alloc (.cells #[.pointer (some ⟨E.eb,0,none⟩)] 153)).alloc (.cells #[.slice A N cap] 155)) w.heap.size 153 (.pointer (some ⟨E.eb,0,none⟩)):=qag (qad rfl _ _) _;have hbs:Boxed ((w.alloc (.cells #[.pointer (some ⟨E.eb,0,none⟩)] 153)).alloc (.cells #[.slice A N cap] 155)) (w.heap.size+1) 155 (.slice A N cap):=qad Zs _ _;have hI0:=h.new hu0;have hFl:=waa (λk (hk:F k)=>h.lt hk);have hes0:=hes.upd hu0 (λ_ _ _ e=>e);have hesl:=waa hes.1;generalize hW:(w.alloc (.cells #[.pointer (some ⟨E.eb,0,none⟩)] 153)).alloc (.cells #[.slice A N cap] 155)=W at hu0 hbe hbs hI0 hes0;have hof:=waa (qo1 A cap N es W hes0 hN);have b1:=hbs.cell;replace hu0:=waa hu0;replace hbe:=waa hbe;replace hbs:=waa hbs;replace hI0:=waa hI0;replace hes0:=waa hes0;replace hw:=waa hw;replace hr:=waa hr;replace hx:=waa hx;replace hA:=waa hA;clear h hes;go_enter Tryz.func323,Tryz.ntmps323;go_wp2_with fail;replace hW:=waa hW;refine hof.out.mono ?_;rintro e W1 ⟨v,rfl,hrow,hB1⟩;obtain⟨AV,cV,rfl,hRd⟩:=Rd.of_own hrow;have hwW:w.heap.size+2<=W.heap.size:=by rw[<-hW.out];simp
 have hu1:Upd (λ_=>False) W W1:=Upd.of_below hB1 (wah _);have hI1:=hI0.out.new hu1;have hbe1:=qac hbe.out hu1 (λe=>e);have hbs1:=qac hbs.out hu1 (λe=>e);have hes1:=hes0.out.upd hu1 (λ_ _ _ e=>e);have hnF:∀k,w.heap.size<=k->¬F k:=λk hk e=>by have:=hFl.out k e;omega
 have hrb:∀k,(Value.slice AV N cV).ownBlock=some k->¬F k:=λk hk=>hnF k (by have:=(hrow.lt k hk).1;omega)
 have hal:=waa (qiz (cap:=cV) es (qct E.n E.nl E.who) (Fn:=366) (caps:=#[.pointer (some ⟨w.heap.size,0,none⟩),.pointer (some ⟨w.heap.size+1,0,none⟩)]) (λargs w=>by simp[go_sem]) (by rw[wdh];exact hesl.out) hesl.out hN hI1 hRd
  (λp e h0=>by subst e;exact⟨(hrow.lt p.block rfl).2,hrb p.block rfl⟩) (AP.tame hw.out) (λj b a V i' l' s' F' hb ha hI hu hg hwf=>by
   obtain⟨ba,bx⟩:=b;obtain rfl:ba=a:=by
    rw[way,hb] at ha;injection ha with ha
   exact qul hI (qac hbe1 hu (hnF _ (wah _))) (qac hbs1 hu (hnF _ Zo)) (hes1.upd hu hA.out) hb (hx.out _ (wb9 hb)) hwf))
 have huW1:=waa ((hu0.out.trans hu1).mono (G:=F) (λ_ e=>e.elim));have hbe1:=waa hbe1;replace hrow:=waa hrow;replace hrb:=waa hrb;replace hnF:=waa hnF;replace hwW:=waa hwW;clear hu1 hI1 hbs1 hes1 hB1 hRd hof;have b1':=b1;clear b1;go_wp2_with fail;refine hal.out.mono ?_;intro e V1 hpost;rcases hpost.done (AP.tame hw.out) with ⟨u1,i1,l1,s1,v1,F1,ho1,rfl,rfl,hI2,hg1,hu2⟩|⟨bl,l1,s1,F1,ho1,rfl,hO,hg1,hu2⟩
 rotate_left
 ·exact⟨rfl,DP.Post.stopped (t:=qa7 E.n E.nl E.who es) (AP.bind_stop ho1) rfl hO (λk hk=>(hg1 k hk).imp id (λe=>wam huW1.out.size e)) (huW1.out.trans hu2)⟩
 have hrow1:=qa5 hrow.out hu2 hrb.out;have hRd1:Rd V1 AV N (i64V (es.map (·.1))):=qwo hrow1;have hli:=waa (qig (cap:=cV) hRd1 hN);have hgT:Grows F F1 w:=λk hk=>(hg1 k hk).imp id (λe=>wam huW1.out.size e)
 have huT:=huW1.out.trans hu2;have hbe2:=waa (qac hbe1.out hu2 (hnF.out _ (wah _)));have hF1l:=waa (λk (hk:F1 k)=>hI2.lt hk);have hbF1:=waa (show ¬F1 w.heap.size from λe=>by
  rcases hg1 _ e with e'|e'
  ·exact hnF.out _ (wah _) e'
  ·have:=hwW.out;have:=hu0.out.size;have:=huW1.out.size;have hb:=hbe1.out.lt;omega)
 replace hI2:=waa hI2;replace ho1:=waa ho1;replace hgT:=waa hgT;replace huT:=waa huT;clear hpost hg1 hu2 hal hrow1 hRd1;go_wp2_with fail;refine hli.out.mono ?_;rintro e V2 ⟨v,L,rfl,⟨hL1,hL2,hL3⟩,hrowL,hB2⟩;have hLc:L=qd4 (es.map (·.1)):=qlx (λz hz=>by
  obtain⟨e,he,rfl⟩:=wbb.1 hz;exact hr.out e he) hL1 hL2
 obtain⟨AL,cL,rfl,hRdL⟩:=Rd.of_own hrowL;have hu3:Upd (λ_=>False) V1 V2:=Upd.of_below hB2 (wah _);have hI3:=hI2.out.new hu3;have hbe3:=qac hbe2.out hu3 (λe=>e);have hw2:((AP.each (qb4 E.n E.nl E.who) L).bind λ_=>qcs E.n E.nl E.who) E.sp i1 l1 s1≠ .wild:=by
  rw[hLc];have h:=hw.out;unfold qa7 at h;rw[AP.bind_done ho1.out] at h;exact h
 have hal:=waa (qiz (cap:=cL) L (qb4 E.n E.nl E.who) (Fn:=367) (caps:=#[.pointer (some ⟨w.heap.size,0,none⟩)]) (λargs w=>by simp[go_sem]) rfl rfl Zo hI3 hRdL
  (λp e h0=>by subst e;exact⟨(hrowL.lt p.block rfl).2,λe=>by have:=hF1l.out _ e;have:=(hrowL.lt p.block rfl).1;omega⟩) (AP.tame hw2) (λj b a V i' l' s' F' hb ha hI hu hg hwf=>by
   obtain rfl:b=a:=by
    rw[hb] at ha;injection ha
   exact qv7 hI (qac hbe3 hu hbF1.out) hwf))
 have hkeep:Hid (qa7 E.n E.nl E.who es E.sp i l s=((AP.each (qb4 E.n E.nl E.who) L).bind λ_=>qcs E.n E.nl E.who) E.sp i1 l1 s1):=waa (by
  rw[hLc];exact AP.bind_done ho1.out)
 replace hw2:=waa hw2;have huT2:=waa (huT.out.trans (hu3.mono (G:=F) (λ_ e=>e.elim)));replace hbe3:=waa hbe3;generalize L.length=M at hal ⊢;clear hLc hL1 hL2 hL3 hrowL hB2 hRdL hu3 hI3 hli;go_wp2_with fail;refine hal.out.mono ?_;intro e V3 hpost;rcases hpost.done (AP.tame hw2.out) with ⟨u2,i2,l2,s2,v2,F2,ho2,rfl,rfl,hI4,hg2,hu4⟩|⟨bl,l2,s2,F2,ho2,rfl,hO,hg2,hu4⟩
 rotate_left
 ·exact⟨rfl,DP.Post.stopped (t:=qa7 E.n E.nl E.who es) (hkeep.out.trans (AP.bind_stop ho2)) rfl hO (hgT.out.trans hg2 huT2.out.size) (huT2.out.after hu4 hgT.out)⟩
 have hw3:qcs E.n E.nl E.who E.sp i2 l2 s2≠ .wild:=AP.tame_next (f:=λ_=>qcs E.n E.nl E.who) hw2.out ho2;have hfe:=waa (qml hI4 hw3);have hkeep2:Hid (qa7 E.n E.nl E.who es E.sp i l s=qcs E.n E.nl E.who E.sp i2 l2 s2):=waa (hkeep.out.trans (AP.bind_done ho2));have huT3:=waa (huT2.out.after hu4 hgT.out);have hgT2:=waa (hgT.out.trans hg2 huT2.out.size);have y0:=(qac hbe3.out hu4 hbF1.out).cell;replace hw3:=waa hw3;clear hpost hI4 ho2 hg2 hu4 hal hkeep;go_wp2_with fail;refine hfe.out.mono ?_;intro e V4 hpost;have hpost:=hpost.after huT3.out hgT2.out;rcases hpost.done hw3.out with ⟨u3,i3,l3,s3,v3,F3,ho3,rfl,rfl,hI5,hg3,hu5⟩|⟨bl,l3,s3,F3,ho3,rfl,hO,hg3,hu5⟩
 rotate_left
 ·exact⟨rfl,DP.Post.stopped (t:=qa7 E.n E.nl E.who es) (hkeep2.out.trans ho3) rfl hO hg3 hu5⟩
 have hfin:=waa (DP.Post.ended (t:=qa7 E.n E.nl E.who es) (R:=qbc) (v:= .tuple #[]) (hkeep2.out.trans ho3) rfl rfl hI5 hg3 hu5);clear hpost hI5 ho3 hg3 hu5 hfe;go_wp2_with fail;go_end0
 exact hfin.out
end
def wrL(b:Int)(ws:List Nat):List (Int×Nat):=(List.range ws.length).map λ(i:Nat)=>(b+(i:Int),ws.getD i 0)
theorem qpj(b:Int)(ws:List Nat):(wrL b ws).length=ws.length:=by simp[wrL]
theorem qx9(b:Int){ws:List Nat}{j x:Nat}(h:ws[j]? =some x):(wrL b ws).take (j+1)=(wrL b ws).take j++[(b+(j:Int),x)]:=by
 have hj:j<ws.length:=(was.1 h).1;have e:(wrL b ws)[j]? =some (b+(j:Int),x):=by
  unfold wrL;rw[way,wco hj];simp[h]
 rw[wbs,e];rfl
theorem qy8{V w4:World}{O:Obj}{bs:Nat}{t e:TypeId}{size k k':Nat}{v v':Value}{xs ys:List Value}(hb:Boxed V bs t v)(hrow:V.ownsRow (bs+1) e size v k xs)(hown:w4.ownsRow (bs+1) e size v' k' ys)(hg:(V.alloc O).grownBy w4 v.ownBlock):
  w4.heap[bs]? =some (.cells #[v] t (0,0))/\Boxed (w4.setCell ⟨bs,0,none⟩ v') bs t v'/\(w4.setCell ⟨bs,0,none⟩ v').ownsRow (bs+1) e size v' k' ys/\Upd (λq=>q=bs\/v.ownBlock=some q) V (w4.setCell ⟨bs,0,none⟩ v'):=by
 have h1:w4.heap[bs]? =some (.cells #[v] t (0,0)):=
  ((hg.block bs (by have:=hb.lt;simp;omega) (λe=>by have:=(hrow.lt bs e.symm).1;omega)).trans (wbc _ _ _ hb.lt)).trans hb
 have hu:Upd (λq=>q=bs\/v.ownBlock=some q) V w4:=((Upd.refl _ V).alloc O).grown hg (λk hk=> .inl (.inr hk));exact⟨h1,(show Boxed w4 bs t v from h1).set v',qa5 hown (qf5 (G:=λq=>q=bs) (p:=⟨bs,0,none⟩) rfl v') (λk hk e=>by have:=(hown.lt k hk).1;omega),hu.setCell (p:=⟨bs,0,none⟩) (.inl (.inl rfl)) v'⟩
theorem qow{V:World}{bs bw n c k j x:Nat}{v:Value}{A:Option Addr}{ws:List Nat}{xs:List (Int×Nat)}(a:Int)(hbS:Boxed V bs 155 v)(hrow:V.ownsRow (bs+1) 169 2 v k (eV xs))(hbW:Boxed V bw 22 (.slice A n c))(hR:Rd V A n (u64V ws))(hj:ws[j]? =some x)(hk:k<=1000):
  Calls Tryz.prog 386 #[.int .i64 (j:Int),.int .i64 a,.pointer (some ⟨bs,0,none⟩),.pointer (some ⟨bw,0,none⟩)] V λe V'=>e= .returned (.tuple #[])/\∃v',Boxed V' bs 155 v'/\V'.ownsRow (bs+1) 169 2 v' (k+1) (eV (xs++[(a,x)]))/\Upd (λq=>q=bs\/v.ownBlock=some q) V V':=by
 obtain⟨i0,ii,iz0,iz1,iz2⟩:=info_parts qc6;have hjn:j<n:=by have h1:=hR.1;rw[qat] at h1;rw[<-h1];exact(was.1 hj).1
 obtain⟨q,rfl,hq⟩:=hR.2 Zo;have c0:V.cell? (q.add j)=some (.int .u64 (x:Int)):=hq j _ (by simp[u64V,hj]);have hqb:(q.add j).block=q.block:=by cases j<;>rfl
 have hql:q.block<V.heap.size:=by rw[<-hqb];exact wal V _ c0
 have b0:=hbS.cell;have w0:=hbW.cell;have hbl:=hbS.lt;have hwl:=hbW.lt;obtain⟨AO,cO,rfl,-⟩:∃A cap,v= .slice A k cap/\True:=by
  obtain⟨A,cap,e,-⟩:=EsRd.of_own hrow;exact⟨A,cap,e,trivial⟩
 replace hrow:=waa hrow;have hbS':=waa hbS;have z0:(0:Int)<=(j:Int):=Zo
 have z1:(j:Int)<(n:Int):=Zo
 clear hbS hbW hR hq hj;go_enter Tryz.func386,Tryz.ntmps386;go_wp2_with fail;go_region_law ((refine step_append_lies _ Zr _ _ 155 Zr (bs+1) 169 i0 (.agg #[.int .i64 0,.int .u64 0]) 2 16 wcj ii iz0 iz1 iz2 Zr Zd _ _ _ Zr (qc1 (hrow.out.alloc _) 1) ⟨V.heap.size,0,none⟩ 1 1 [.int .i64 a,.int .u64 (x:Int)] Zr Zr (qdj Zr _ Zr _) (by simp[Value.oneCell']) Zd (by simp only[maxLen];omega) Zo Zx _ Zr ?_;intro g c w4 hown hgrow hat hlg;obtain⟨y1,y2,y3,y4⟩:=qy8 (w4:=w4) (O:= .cells #[.int .i64 a,.int .u64 (x:Int)] 169) hbS'.out hrow.out hown ⟨hgrow.os,hgrow.tape,hgrow.output,hgrow.size,hgrow.block⟩;have z4:w4.cell? ⟨bs,0,none⟩=some _:=(qab y1 0).trans rfl;have zf:=qah y1 0;replace y2:=waa y2;replace y3:=waa y3;replace y4:=waa y4;clear hown hgrow hat y1))
 all_goals
  go_wp2_with fail;go_end0
  exact⟨rfl,_,y2.out,by rw[qpb];exact y3.out,y4.out⟩
structure WrSt (V:World) (bg bw bs:Nat) (s l r:Int) (AW:Option Addr) (K cW B:Nat) (ws:List Nat):Prop where
 geo:Gi V bg s l r
 box:Boxed V bw 22 (.slice AW K cW)
 row:V.ownsRow B 40 1 (.slice AW K cW) K (u64V ws)
 store:Boxed V bs 155 (.slice none 0 0)
theorem WrSt.cells{V:World}{bg bw bs K cW B:Nat}{s l r:Int}{AW:Option Addr}{ws:List Nat}(h:WrSt V bg bw bs s l r AW K cW B ws):V.cell? ⟨bg,0,none⟩=some (.int .i64 s)/\V.cell? ⟨bg,1,none⟩=some (.int .i64 l)/\V.cell? ⟨bg,2,none⟩=some (.int .i64 r)/\V.cell? ⟨bw,0,none⟩=some (.slice AW K cW):=
 ⟨h.geo.cells.1,h.geo.cells.2.1,h.geo.cells.2.2.1,h.box.cell⟩
theorem WrSt.below{V V':World}{bg bw bs K cW B:Nat}{s l r:Int}{AW:Option Addr}{ws:List Nat}(h:WrSt V bg bw bs s l r AW K cW B ws)(hb:Below V.heap.size V V'):WrSt V' bg bw bs s l r AW K cW B ws:=
 ⟨h.geo.below hb h.geo.lt,(hb.block _ h.box.lt).trans h.box,qa1 h.row hb,(hb.block _ h.store.lt).trans h.store⟩
theorem WrSt.drew{V:World}{bg bw bs K cW B:Nat}{s l r:Int}{AW:Option Addr}{ws:List Nat}(h:WrSt V bg bw bs s l r AW K cW B ws):WrSt V.drew bg bw bs s l r AW K cW B ws:=⟨h.geo,h.box,h.row,h.store⟩
theorem qq7(s l r t:Int):-100000<=entN s l r t 0/\entN s l r t 0<=100000:=by
 unfold entN;split
 ·rename_i h
  have h4:=h.1;simp[mayB,cntB] at h4
  omega
 ·omega
theorem qo3{l:List (Int×Nat)}:(logW l).length<=32:=by
 unfold logW;cases h:logB l with
 |true=>
  have h1:l.length<=16:=by unfold logB at h;simp at h;exact h.1.2
  have:∀(k:Nat) (es:List (Int×Nat)),(qa2 k es).length=2*es.length:=by
   intro k es;induction es generalizing k with
   |nil=>rfl
   |cons e r ih=>simp only[qa2,waz,ih];omega
  simp[this]
  omega
 |false=>simp
theorem q1e{l:List (Int×Nat)}(hx:∀e∈l,e.2<18446744073709551616):∀y∈logW l,y<18446744073709551616:=by
 unfold logW;cases h:logB l with
 |true=>
  unfold logB at h;simp only[wbp,decide_eq_true_eq] at h;have key:∀(k:Nat) (es:List (Int×Nat)),k+es.length<=16->(∀e∈es,entB e=true)->(∀e∈es,e.2<18446744073709551616)->∀y∈qa2 k es,y<18446744073709551616:=by
   intro k es;induction es generalizing k with
   |nil=>intro _ _ _ y hy;cases hy
   |cons e r ih=>
    intro hk he hx y hy;simp only[qa2,wa1] at hy;rcases hy with rfl|rfl|hy
    ·have h1:=he e Zs
     rw[entB_iff] at h1;simp only[waz] at hk;omega
    ·exact hx e Zs
    ·exact ih (k+1) (by simp only[waz] at hk;omega) (λe' h'=>he e' (by simp[h'])) (λe' h'=>hx e' (by simp[h'])) y hy
  simp only[if_true];exact key 0 l Zo (λe he=>wb0.1 h.2 e he) hx
 |false=>simp
theorem qpp{V V':World}{bs base n base2 k sz:Nat}{e e2 t:TypeId}{v v2 v3:Value}{xs ys:List Value}(h:V.ownsRow base e 1 v n xs)(hb:Boxed V bs t v3)(h2:V.ownsRow base2 e2 sz v2 k ys)(hne:e≠e2)(hnt:t≠e)(hu:Upd (λq=>q=bs\/v2.ownBlock=some q) V V'):V'.ownsRow base e 1 v n xs:=
 qa5 h hu (λq hq=>by
  rintro(e'|e')
  ·exact qao hb hnt h (by rw[hq,e'])
  ·rcases qsk h h2 hne with h3|h3
   ·rw[h3] at hq;cases hq
   ·exact h3 (hq.trans e'.symm))
def WrJ(V:World)(bg bw bs ga B2:Nat)(s l r b:Int)(AW:Option Addr)(K cW:Nat)(ws:List Nat)(j:Nat)(U:World):Prop:=
 ∃vS,Boxed U bs 155 vS/\U.ownsRow (bs+1) 169 2 vS j (eV ((wrL b ws).take j))/\U.ownsRow B2 3 1 (.slice (some ⟨ga,0,none⟩) K K) K (i64V (qd9 b K))/\
  Boxed U bw 22 (.slice AW K cW)/\U.ownsRow bg 40 1 (.slice AW K cW) K (u64V ws)/\Gi U bg s l r/\Upd (λq=>bs<=q) V U
theorem qo7{U:World}{B n c:Nat}{A:Option Addr}{e:TypeId}{xs:List Value}(h:U.ownsRow B e 1 (.slice A n c) n xs):Rd U A n xs:=by
 obtain⟨A',c',e,hR⟩:=Rd.of_own h;injection e with e1 e2 e3;subst e1;exact hR
theorem qxd{V U:World}{bg bw bs ga B2 K cW j:Nat}{s l r b a:Int}{AW:Option Addr}{ws:List Nat}(hK:ws.length=K)(hK2:K<=32)(hj:j<K)(ha:(qd9 b K)[j]? =some a)(hU:WrJ V bg bw bs ga B2 s l r b AW K cW ws j U):
  Calls Tryz.prog 386 #[.int .i64 (j:Int),.int .i64 a,.pointer (some ⟨bs,0,none⟩),.pointer (some ⟨bw,0,none⟩)] U λe V'=>qmi (WrJ V bg bw bs ga B2 s l r b AW K cW ws (j+1)) (λ_ _=>False) e V':=by
 obtain⟨vS,k1,k2,k3,k4,k5,k6,k7⟩:=hU;have hjl:j<ws.length:=by rw[hK];exact hj
 obtain rfl:a=b+(j:Int):=by
  simp only[qd9,way,wco hj,wc5,Option.some.injEq] at ha;exact ha.symm
 refine(qow (b+(j:Int)) k1 k2 k4 (qo7 k5) (wan hjl) Zo).mono ?_;rintro e V' ⟨he,v',h1,h2,h3⟩;have hnb:¬(bw=bs\/vS.ownBlock=some bw):=by
  rintro(e|e)
  ·exact qaq k4 k1 Zd e
  ·exact qao k4 Zd k2 e.symm
 have hng:¬(bg=bs\/vS.ownBlock=some bg):=by
  rintro(e|e)
  ·exact qaq k6 k1 Zd e
  ·exact qao k6 Zd k2 e.symm
 have hgi:Gi V' bg s l r:=(h3.block _ k6.lt hng).trans k6;refine .inl ⟨he,v',h1,?_,qpp k3 k1 k2 Zd Zd h3,qac k4 h3 hnb,qpp k5 k1 k2 Zd Zd h3,hgi,k7.trans (h3.mono ?_)⟩
 ·rw[qx9 _ (wan hjl)];exact h2
 ·rintro q (rfl|hq)
  ·exact wah _
  ·have:=(k2.lt q hq).1;omega
theorem qu1{V:World}{bg bw bs ga B2 K cW:Nat}{s l r b:Int}{AW:Option Addr}{ws:List Nat}(hK:ws.length=K)(hK2:K<=32)(hV:WrSt V bg bw bs s l r AW K cW bg ws)(hA:V.ownsRow B2 3 1 (.slice (some ⟨ga,0,none⟩) K K) K (i64V (qd9 b K))):
  Calls Tryz.prog 365 #[.slice (some ⟨ga,0,none⟩) K K,.func (.func 386) #[] #[.pointer (some ⟨bs,0,none⟩),.pointer (some ⟨bw,0,none⟩)]] V λe U=>e= .returned (.tuple #[])/\∃vS,Boxed U bs 155 vS/\U.ownsRow (bs+1) 169 2 vS K (eV (wrL b ws))/\
   (U.cell? ⟨bg,0,none⟩=some (.int .i64 s)/\U.cell? ⟨bg,1,none⟩=some (.int .i64 l)/\U.cell? ⟨bg,2,none⟩=some (.int .i64 r)/\U.cell? ⟨bw,0,none⟩=some (.slice AW K cW))/\Upd (λq=>bs<=q) V U:=by
 refine(qkk (A:=some ⟨ga,0,none⟩) (cap:=K) (n:=K) (Fn:=386) (caps:=#[.pointer (some ⟨bs,0,none⟩),.pointer (some ⟨bw,0,none⟩)]) (zs:=qd9 b K) (w:=V) (λargs w=>by simp[go_sem]) (by simp[qd9]) Zo
  (WrJ V bg bw bs ga B2 s l r b AW K cW ws) (λ_ _=>False) ⟨_,hV.store,wbx _ _ _ _,hA,hV.box,hV.row,hV.geo,Upd.refl _ _⟩ (λj U hU=>?_) (λj a U hj ha hU=>qxd hK hK2 hj ha hU)).mono ?_
 ·obtain⟨vS,k1,k2,k3,k4⟩:=hU
  exact qo7 k3
 ·rintro e U (⟨he,vS,k1,k2,k3,k4,k5,k6,k7⟩|⟨ch,he,hF⟩)
  ·rw[wax (by rw[qpj,hK];exact wah _)] at k2
   exact⟨he,vS,k1,k2,⟨k6.cells.1,k6.cells.2.1,k6.cells.2.2.1,k4.cell⟩,k7⟩
  ·exact hF.elim
theorem qrl{A:Option Addr}{cap N:Nat}{es:List (Int×Nat)}{w:World}(s l r t:Int)(h:EsRd w A N es)(hm:N<=9223372036854775807)(hx:∀e∈es,e.2<18446744073709551616):
  Calls Tryz.prog 362 #[.agg #[.int .i64 s,.int .i64 l,.int .i64 r],.int .i64 t,.slice A N cap] w λe w'=>∃v,e= .returned v/\w'.ownsRow w.heap.size 169 2 v (logW es).length (eV (wrL (entN s l r t 0) (logW es)))/\Below w.heap.size w w':=by
 have hmf:∀(fn:Fn) (first cap:Array Value) (w:World),(Instr.makeFunc fn first cap).run Tryz.prog w= .ok (.func fn first cap) w:=λ_ _ _ _=>rfl
 obtain rfl:=h.1;have hB0:=(wai w.heap.size w).alloc (wah _) (.cells #[.int .i64 s,.int .i64 l,.int .i64 r] 36);have hg0:=waa (Gi.new w s l r);have hwd:=waa (qin A cap es (w.alloc (.cells #[.int .i64 s,.int .i64 l,.int .i64 r] 36)) (h.below hB0) hm hx);have hKl:=qo3 (l:=es);have hent:=waa (qq7 s l r t);replace hB0:=waa hB0;clear h hx;generalize logW es=ws at hwd hKl ⊢;generalize es.length=N at hwd hm ⊢;go_enter Tryz.func362,Tryz.ntmps362;go_wp2_with fail;refine hwd.out.mono ?_;rintro e w1 ⟨v,rfl,hrow,hB1⟩;obtain⟨AW,cW,rfl,-⟩:=Rd.of_own hrow;have hBa:=hB0.out.trans (hB1.mono hB0.out.size);have hg1:=hg0.out.below hB1 hg0.out.lt;have hrow0:=qbb hrow hB0.out.size;have hu2:Below w1.heap.size w1 ((w1.alloc (.cells #[.slice AW ws.length cW] 22)).alloc (.cells #[.slice none 0 0] 155)):=((wai _ w1).alloc (wah _) _).alloc Zs _;have hst:WrSt ((w1.alloc (.cells #[.slice AW ws.length cW] 22)).alloc (.cells #[.slice none 0 0] 155)) w.heap.size w1.heap.size (w1.heap.size+1) s l r AW ws.length cW w.heap.size ws:=
  ⟨hg1.below hu2 hg1.lt,qag (qad rfl _ _) _,qa1 hrow0 hu2,qad Zs _ _⟩
 have hBb:=waa (hBa.trans (hu2.mono hBa.size));have hsz:=waa hBa.size;replace hst:=waa hst;clear hrow hB1 hBa hg1 hrow0 hu2 hwd hg0;obtain⟨KN,hK⟩:∃KN,ws.length=KN:=⟨_,rfl⟩
 rw[hK] at hKl hst hBb ⊢;replace hK:=waa hK;go_wp2_with fail;generalize hW:(w1.alloc (.cells #[.slice AW KN cW] 22)).alloc (.cells #[.slice none 0 0] 155)=W at hst hBb ⊢;have hsz2:=waa (show w.heap.size<=w1.heap.size from hsz.out);generalize hbg:w.heap.size=bg at hst hBb hsz2 ⊢;replace hbg:=waa hbg;generalize w1.heap.size=bw at hst hsz2 ⊢;generalize hbs:bw+1=bs at hst ⊢;have hstd:=waa hst.out.drew;have hal:=waa (λ(ga B2:Nat) (V:World) (hV:WrSt V bg bw bs s l r AW KN cW bg ws) (hA:V.ownsRow B2 3 1 (.slice (some ⟨ga,0,none⟩) KN KN) KN (i64V (qd9 (entN s l r t 0) KN)))=>qu1 hK.out hKl hV hA);replace hbs:=waa hbs;clear hW;refine wp_region_noPanic ?_;refine wp_region_held_drew (S:=λV=>V.cell? ⟨bg,0,none⟩=some (.int .i64 s)/\V.cell? ⟨bg,1,none⟩=some (.int .i64 l)/\V.cell? ⟨bg,2,none⟩=some (.int .i64 r)/\V.cell? ⟨bw,0,none⟩=some (.slice AW KN cW)) Zk (hst.out.cells) (λhHeld=>?_);refine wpAnyH_take (i:=0) (v:=?_) rfl Zk Zk Zk (λ_ _ _ h=>h) (Or.inl ⟨by rfl,?_⟩) Za ?_;rotate_left;(·intro u h;(try dsimp only at h);(try simp only[wab,wac]);go_simp;try with_reducible rfl);try simp only[Act.put,waf,wae,wag,wab,wac]
 refine wpAnyH_take (i:=1) (v:=?_) rfl Zk Zk Zk (λ_ _ _ h=>h) (Or.inl ⟨by rfl,?_⟩) Za ?_;rotate_left;(·intro u h;(try dsimp only at h);(try simp only[wab,wac,wad]);go_simp;try with_reducible rfl);try simp only[Act.put,waf,wae,wag,wab,wac,wad]
 refine wpAnyH_take (i:=3) (v:=?_) rfl Zk Zk Zk (λ_ _ _ h=>h) (Or.inl ⟨by rfl,?_⟩) Za ?_;rotate_left;(·intro u h;(try dsimp only at h);(try simp only[wab,wac,wad]);go_simp;try with_reducible rfl);try simp only[Act.put,waf,wae,wag,wab,wac,wad]
 refine wpAnyH_take (i:=4) (v:=?_) rfl Zk Zk Zk (λ_ _ _ h=>h) (Or.inl ⟨by rfl,?_⟩) Za ?_;rotate_left;(·intro u h;(try dsimp only at h);(try simp only[wab,wac,wad]);go_simp;try with_reducible rfl);try simp only[Act.put,waf,wae,wag,wab,wac,wad]
 refine wpAnyH_take (i:=6) (v:=?_) rfl Zk Zk Zk (λ_ _ _ h=>h) (Or.inl ⟨by rfl,?_⟩) Za ?_;rotate_left;(·intro u h;(try dsimp only at h);(try simp only[wab,wac,wad]);go_simp;try with_reducible rfl);try simp only[Act.put,waf,wae,wag,wab,wac,wad]
 refine wpAnyH_ready (rs:=[2]) Zk Zs ?_;refine AllReadyH.cons rfl (λK hK=>?_) AllReadyH.nil
 (try simp only[wab,wac,wad])
 go_simp
 go_at_call 385
 refine(qtj s l r t 0 _).mono ?_;rintro e w2 ⟨rfl,hB2⟩;have hst2:=waa (hstd.out.below hB2);have x2:=hst2.out.cells;go_wp2_with fail;refine hK.out _ _ (x2) (λhHeld2=>?_);clear hK K hHeld;have hHeld:=hHeld2;clear hHeld2;try simp only[Act.put,waf,wae,wag,wab,wac,wad]
 refine wpAnyH_ready (rs:=[5]) Zk Zs ?_;refine AllReadyH.cons rfl (λK hK=>?_) AllReadyH.nil
 (try simp only[wab,wac,wad])
 go_simp
 go_at_call 384
 refine(qt2 (entN s l r t 0) KN w2 Zo hent.out).mono ?_;rintro e w3 ⟨ga,rfl,hrowA,hB3⟩;have hst3:=waa (hst2.out.below hB3);have x3:=hst3.out.cells;replace hrowA:=waa (qbb hrowA (show W.heap.size<=w2.heap.size from hB2.size));go_wp2_with fail;refine hK.out _ _ (x3) (λhHeld2=>?_);clear hK K hHeld;have hHeld:=hHeld2;clear hHeld2;try simp only[Act.put,waf,wae,wag,wab,wac,wad]
 refine wpAnyH_ready (rs:=[7]) Zk Zs ?_;refine AllReadyH.cons rfl (λK hK=>?_) AllReadyH.nil
 (try simp only[wab,wac,wad])
 go_simp
 go_at_call 365
 refine(hal.out ga _ w3 hst3.out hrowA.out).mono ?_;rintro e w4 ⟨rfl,vS,k1,k2,x4,k5⟩;go_wp2_with fail;refine hK.out _ _ (x4) (λhHeld2=>?_);clear hK K hHeld;have hHeld:=hHeld2;clear hHeld2;try simp only[Act.put,waf,wae,wag,wab,wac,wad]
 refine wpAnyH_done Zk ?_ _;refine NoPanic.normal ?_;have hbW:bg<=W.heap.size:=by have:=hBb.out.size;have:=hbg.out;omega
 have hb2:bg<=w2.heap.size:=wam hbW hB2.size;have hb3:bg<=w3.heap.size:=wam hb2 hB3.size;have hBf:Below bg w w4:=((hBb.out.drew.trans (hB2.mono hbW)).trans (hB3.mono hb2)).trans (k5.below (λq hq=>by have:=hsz2.out;have:=hbs.out;omega) hb3);have hrowf:=qbb k2 (show bg<=bs+1 by have:=hsz2.out;have:=hbs.out;omega);have y0:=k1.cell;obtain⟨AV,cV,rfl,-⟩:=EsRd.of_own hrowf;replace hBf:=waa hBf;replace hrowf:=waa hrowf;clear k1 k2 x4 k5 hB2 hB3 x2 x3 hHeld hst hal hstd;go_wp2_with fail;go_ret;exact⟨_,rfl,by rw[hK.out,hbg.out];exact hrowf.out,by rw[hbg.out];exact hBf.out⟩
end Go.Proofs.YtgjhkafggagniaaGreat
