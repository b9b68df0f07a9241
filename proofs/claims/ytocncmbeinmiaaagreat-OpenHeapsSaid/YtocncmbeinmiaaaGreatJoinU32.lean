/- Parts. No condition. -/
import Derived.Test.YtocncmbeinmiaaaGreatJoinU31
import Derived.Test.YtocncmbeinmiaaaGreatJoinU27
import Derived.Test.YtocncmbeinmiaaaGreatJoinU26
set_option linter.unusedVariables false
set_option maxRecDepth 100000
set_option maxHeartbeats 8000000
namespace Go.Proofs.YtocncmbeinmiaaaGreat
open Go Go.RowKit
def AP.fold{σ β γ:Type}(f:β->γ->AP σ γ):List β->γ->AP σ γ
 |[],c=>AP.ret c
 |b::r,c=>(f b c).bind λd=>AP.fold f r d
theorem AP.fold_append{σ β γ:Type}(f:β->γ->AP σ γ)(a b:List β)(c:γ):AP.fold f (a++b) c=(AP.fold f a c).bind λd=>AP.fold f b d:=by
 induction a generalizing c with
 |nil=>rfl
 |cons x r ih=>
  show(f x c).bind (λd=>AP.fold f (r++b) d)=((f x c).bind λd=>AP.fold f r d).bind λd=>AP.fold f b d
  rw[AP.bind_bind];congr 1
  funext d
  rw[ih]
theorem AP.fold_next{σ β γ:Type}(f:β->γ->AP σ γ){bs:List β}{j:Nat}{b:β}(h:bs[j]? =some b)(c:γ):AP.fold f (bs.take (j+1)) c=(AP.fold f (bs.take j) c).bind λd=>f b d:=by
 rw[wb4,h,we9,AP.fold_append];congr 1
 funext d
 show(f b d).bind (λe=>AP.ret e)=f b d
 exact AP.bind_ret (f b d)
theorem AP.fold_split{σ β γ:Type}(f:β->γ->AP σ γ){bs:List β}{j:Nat}{b:β}(h:bs[j]? =some b)(c:γ):AP.fold f bs c=(AP.fold f (bs.take j) c).bind λd=>(f b d).bind λe=>AP.fold f (bs.drop (j+1)) e:=by
 have hj:j<bs.length:=(wan.1 h).1;have hd:bs.drop j=b::bs.drop (j+1):=by
  rw[wbc hj];rw[waj hj] at h;injection h with h;rw[h]
 conv=>lhs;rw[<-whb j bs,hd]
 rw[AP.fold_append];rfl
section
variable {τ:Type} {E:DP τ} {i:Nat} {l:List Nat} {s:DM×τ} {F:Nat->Prop} {w w':World}
def qep(n nl:Nat)(who:Int)(gs gl gr gt:Int)(es:List (Int×Nat)):AP (DM×τ) Bool:=
 (if qgx gs gl gr es=true then qc9 n nl who es else AP.ret ()).bind λ_=>(qc9 n nl who [(qbl gs gl gr gt,0)]).bind λ_=>AP.ret (qgx gs gl gr es)
def qb6(n nl:Nat)(who:Int)(gs gl gr gt:Int):AP (DM×τ) Bool:=
 (qc3 n nl who gs gl gr gt).bind λp=>if p.1=0 then AP.ret false else qep n nl who gs gl gr gt p.2
theorem quz(h:E.In i l s F w)(gs gl gr gt:Int)(hl:0<=qbl gs gl gr gt)(hw:qb6 E.n E.nl E.who gs gl gr gt E.sp i l s≠ .wild):
  Calls Tryz.prog 164 #[.pointer (some ⟨E.eb,0,none⟩),.agg #[.int .i64 gs,.int .i64 gl,.int .i64 gr],.int .i64 gt] w λe w'=>E.Post (qb6 E.n E.nl E.who gs gl gr gt E.sp i l s) (λb v _=>v= .bool b) F w e w':=by
 have hu0:Upd (λ_=>False) w (w.alloc (.cells #[.int .i64 gs,.int .i64 gl,.int .i64 gr] 23)):=(Upd.refl _ w).alloc _;have hg0:=Gi.new w gs gl gr;have hI0:=h.new hu0;have hFl:=waa (λk (hk:F k)=>h.lt hk);have hld:=waa (q1o hI0 gs gl gr gt (AP.tame hw));have hli:=waa (qabj hl);obtain⟨c0,c1,c2,cf⟩:=hg0.cells;replace hu0:=waa hu0;replace hg0:=waa hg0;replace hw:=waa hw;clear h hI0 hl;go_enter Tryz.func164,Tryz.ntmps164;go_wp2_with fail;refine hld.out.mono ?_;rintro e w1 (⟨x,es,i1,l1,s1,F1,v,B,ho1,rfl,hI1,hg1,hu1,hrow,hvF,hin,hlen⟩|⟨bl,l1,s1,F1,ho1,rfl,hO1,hg1,hu1⟩);rotate_left
 ·exact⟨rfl,DP.Post.stopped (t:=qb6 E.n E.nl E.who gs gl gr gt) (AP.bind_stop ho1) rfl hO1 (λk hk=>(hg1 k hk).imp id (λe=>wap hu0.out.size e)) ((hu0.out.mono (λ_ e=>e.elim)).trans hu1)⟩
 have hgT:Grows F F1 w:=λk hk=>(hg1 k hk).imp id (λe=>wap hu0.out.size e)
 have huT:Upd F w w1:=(hu0.out.mono (λ_ e=>e.elim)).trans hu1;have hnFg:¬F w.heap.size:=λe=>by have:=hFl.out _ e;omega
 have hg2:Gi w1 w.heap.size gs gl gr:=(hu1.block _ hg0.out.lt hnFg).trans hg0.out;have hnFg1:¬F1 w.heap.size:=λe=>by
  rcases hg1 _ e with h1|h1
  ·exact hnFg h1
  ·have:=hg0.out.lt;omega
 obtain⟨AV,cV,rfl,hR⟩:=EsRd.of_own hrow;obtain⟨g0,g1',g2',gf⟩:=hg2.cells;have hmy:=waa (q7t (cap:=cV) gs gl gr hR Zo (λe he=>(hin e he).2.2) (λe he=>⟨by have:=(hin e he).1;omega,by have:=(hin e he).2.1;omega⟩));have hR1:=waa hR;have hvF1:=waa (show ∀q,AV=some q->0<es.length->¬F1 q.block from λq e h0=>by subst e;exact hvF q.block rfl);replace hin:=waa hin;replace hlen:=waa hlen;replace hI1:=waa hI1;replace hgT:=waa hgT;replace huT:=waa huT;replace hg2:=waa hg2;replace hnFg1:=waa hnFg1;replace ho1:=waa ho1;clear hg1 hu1 hrow hvF hR hnFg c0 c1 c2 cf hld;generalize hNL:es.length=NL at hmy hR1 hvF1 hlen ⊢;replace hNL:=waa hNL;by_cases hx:x=0
 ·subst hx
  have hfin:=waa (DP.Post.ended (t:=qb6 E.n E.nl E.who gs gl gr gt) (R:=λ(b:Bool) v _=>v= .bool b) (v:= .bool false) ((AP.bind_done ho1.out).trans (by rw[if_pos rfl];rfl)) rfl rfl hI1.out hgT.out huT.out);clear hmy;go_wp2_with fail;go_ret;exact hfin.out
 ·have hxne:¬(x:Int)=0:=Zo
  have heq:=waa (show qb6 E.n E.nl E.who gs gl gr gt E.sp i l s=qep E.n E.nl E.who gs gl gr gt es E.sp i1 l1 s1 from(AP.bind_done ho1.out).trans (by rw[if_neg hx]));have hw1:qep E.n E.nl E.who gs gl gr gt es E.sp i1 l1 s1≠ .wild:=by rw[<-heq.out];exact hw.out
  cases hb:qgx gs gl gr es with
  |true=>
   rw[hb] at hmy;have hput:qep (τ:=τ) E.n E.nl E.who gs gl gr gt es=(qc9 E.n E.nl E.who es).bind λ_=>(qc9 E.n E.nl E.who [(qbl gs gl gr gt,0)]).bind λ_=>AP.ret true:=by
    unfold qep;rw[hb,if_pos rfl]
   rw[hput] at heq hw1;have hlog:=waa (q9z (es:=es) (by unfold qgx at hb;simp at hb;exact hb.1));replace hw1:=waa hw1;clear hput hb;go_wp2_with fail;refine hmy.out.mono ?_;rintro e w2 ⟨rfl,hB2⟩;have hu2:Upd (λ_=>False) w1 w2:=Upd.of_below hB2 (wab _);have hkp:=waa (qkp (hI1.out.new hu2) (cap:=cV) (hR1.out.upd hu2 (λ_ _ _ e=>e)) hvF1.out hlog.out.2.2 (λe he=>(hin.out e he).2.2) (by have:=hlen.out;omega) (AP.tame hw1.out));have huT2:=waa (huT.out.trans (hu2.mono (G:=F) (λ_ e=>e.elim)));have hg3:=waa (hg2.out.below hB2 hg2.out.lt);clear hu2 hB2 hmy g0 g1' g2' gf;go_wp2_with fail;refine hkp.out.mono ?_;intro e w3 hpost;have hg4:Upd F1 w2 w3:=hpost.1;have hgx:=hg3.out;have hpost:=hpost.after huT2.out hgT.out;rcases hpost.done (AP.tame hw1.out) with ⟨u3,i3,l3,s3,v3,F3,ho3,rfl,rfl,hI3,hgr3,hu3⟩|⟨bl,l3,s3,F3,ho3,rfl,hO3,hgr3,hu3⟩
   rotate_left
   ·exact⟨rfl,DP.Post.stopped (t:=qb6 E.n E.nl E.who gs gl gr gt) (heq.out.trans (AP.bind_stop ho3)) rfl hO3 hgr3 hu3⟩
   have hgi:Gi w3 w.heap.size gs gl gr:=(hg4.block _ hgx.lt hnFg1.out).trans hgx;obtain⟨k0,k1,k2,kf⟩:=hgi.cells;have heq3:=waa (heq.out.trans (AP.bind_done ho3));have hw3:=waa (show((qc9 E.n E.nl E.who [(qbl gs gl gr gt,0)]).bind λ_=>AP.ret true) E.sp i3 l3 s3≠ .wild from by
    have h:=hw1.out;rw[AP.bind_done ho3] at h;exact h)
   replace hI3:=waa hI3;replace hgr3:=waa hgr3;replace hu3:=waa hu3;clear hpost ho3 hg4 hgx hgi hkp;have hmk:=waa (qpd gs gl gr gt 0 w3);go_wp2_with fail;refine hmk.out.mono ?_;rintro e w5 ⟨gm,rfl,hrow5,hB5⟩;have hu5:Upd (λ_=>False) w3 w5:=Upd.of_below hB5 (wab _);obtain⟨A5,c5,e5,hR5⟩:=EsRd.of_own hrow5;injection e5 with e51 e52 e53;subst e51 e53;have hk5:=waa (qkp (hI3.out.new hu5) (cap:=1) hR5 (λq e h0 hf=>by injection e with e;subst e;have h8:gm<w3.heap.size:=hI3.out.lt hf;have:=(hrow5.lt gm rfl).1;omega) (λe he=>by
    obtain rfl:e=_:=by simpa using he
    have:=hli.out
    simp only;omega) (λe he=>by
    obtain rfl:e=_:=by simpa using he
    simp) Zo (AP.tame hw3.out))
   have huT5:=waa (hu3.out.trans (hu5.mono (G:=F) (λ_ e=>e.elim)));clear hu5 hrow5 hB5 hR5 hmk;go_wp2_with fail;refine hk5.out.mono ?_;intro e w6 hpost;have hpost:=hpost.after huT5.out hgr3.out;rcases hpost.done (AP.tame hw3.out) with ⟨u6,i6,l6,s6,v6,F6,ho6,rfl,rfl,hI6,hg6,hu6⟩|⟨bl,l6,s6,F6,ho6,rfl,hO6,hg6,hu6⟩
   rotate_left
   ·exact⟨rfl,DP.Post.stopped (t:=qb6 E.n E.nl E.who gs gl gr gt) (heq3.out.trans (AP.bind_stop ho6)) rfl hO6 hg6 hu6⟩
   have hfin:=waa (DP.Post.ended (t:=qb6 E.n E.nl E.who gs gl gr gt) (R:=λ(b:Bool) v _=>v= .bool b) (v:= .bool true) (heq3.out.trans (AP.bind_done ho6)) rfl rfl hI6 hg6 hu6);clear hpost ho6 hI6 hg6 hu6 hk5;go_wp2_with fail;go_ret;exact hfin.out
  |false=>
   rw[hb] at hmy;have hput:qep (τ:=τ) E.n E.nl E.who gs gl gr gt es=(qc9 E.n E.nl E.who [(qbl gs gl gr gt,0)]).bind λ_=>AP.ret false:=by
    unfold qep;rw[hb,if_neg Zs];rfl
   rw[hput] at heq hw1;replace hw1:=waa hw1;clear hput hb;go_wp2_with fail;refine hmy.out.mono ?_;rintro e w2 ⟨rfl,hB2⟩;have hu2:Upd (λ_=>False) w1 w2:=Upd.of_below hB2 (wab _);have huT2:=waa (huT.out.trans (hu2.mono (G:=F) (λ_ e=>e.elim)));have hI2:=waa (hI1.out.new hu2);obtain⟨k0,k1,k2,kf⟩:=(hg2.out.below hB2 hg2.out.lt).cells;clear hu2 hB2 hmy g0 g1' g2' gf;have hmk:=waa (qpd gs gl gr gt 0 w2);go_wp2_with fail;refine hmk.out.mono ?_;rintro e w5 ⟨gm,rfl,hrow5,hB5⟩;have hu5:Upd (λ_=>False) w2 w5:=Upd.of_below hB5 (wab _);obtain⟨A5,c5,e5,hR5⟩:=EsRd.of_own hrow5;injection e5 with e51 e52 e53;subst e51 e53;have hk5:=waa (qkp (hI2.out.new hu5) (cap:=1) hR5 (λq e h0 hf=>by injection e with e;subst e;have h8:gm<w2.heap.size:=hI2.out.lt hf;have:=(hrow5.lt gm rfl).1;omega) (λe he=>by
    obtain rfl:e=_:=by simpa using he
    have:=hli.out
    simp only;omega) (λe he=>by
    obtain rfl:e=_:=by simpa using he
    simp) Zo (AP.tame hw1.out))
   have huT5:=waa (huT2.out.trans (hu5.mono (G:=F) (λ_ e=>e.elim)));clear hu5 hrow5 hB5 hR5 hmk;go_wp2_with fail;refine hk5.out.mono ?_;intro e w6 hpost;have hpost:=hpost.after huT5.out hgT.out;rcases hpost.done (AP.tame hw1.out) with ⟨u6,i6,l6,s6,v6,F6,ho6,rfl,rfl,hI6,hg6,hu6⟩|⟨bl,l6,s6,F6,ho6,rfl,hO6,hg6,hu6⟩
   rotate_left
   ·exact⟨rfl,DP.Post.stopped (t:=qb6 E.n E.nl E.who gs gl gr gt) (heq.out.trans (AP.bind_stop ho6)) rfl hO6 hg6 hu6⟩
   have hfin:=waa (DP.Post.ended (t:=qb6 E.n E.nl E.who gs gl gr gt) (R:=λ(b:Bool) v _=>v= .bool b) (v:= .bool false) (heq.out.trans (AP.bind_done ho6)) rfl rfl hI6 hg6 hu6);clear hpost ho6 hI6 hg6 hu6 hk5;go_wp2_with fail;go_ret;exact hfin.out
def qdy(n nl:Nat)(who:Int)(gs gl gr:Int):AP (DM×τ) Nat:=
 if mayB gs gl gr=true then AP.fold (λ(t c:Nat)=>(qb6 n nl who gs gl gr (t:Int)).bind λb=>AP.ret (if b then c+1 else c)) (List.range gl.toNat) 0 else AP.ret 0
def qis(n nl:Nat)(who:Int)(gs gl gr:Int)(t c:Nat):AP (DM×τ) Nat:=(qb6 n nl who gs gl gr (t:Int)).bind λb=>AP.ret (if b then c+1 else c)
theorem qj6{n nl:Nat}{who gs gl gr:Int}(h:mayB gs gl gr=true):qdy (τ:=τ) n nl who gs gl gr=AP.fold (qis n nl who gs gl gr) (List.range gl.toNat) 0:=by unfold qdy;rw[if_pos h];rfl
theorem qvu(h:E.In i l s F w)(gs gl gr:Int)(hw:qdy E.n E.nl E.who gs gl gr E.sp i l s≠ .wild):
  Calls Tryz.prog 120 #[.pointer (some ⟨E.eb,0,none⟩),.agg #[.int .i64 gs,.int .i64 gl,.int .i64 gr]] w λe w'=>E.Post (qdy E.n E.nl E.who gs gl gr E.sp i l s) (λ(c:Nat) v _=>v= .int .i64 (c:Int)/\c<=4) F w e w':=by
 have hu0:Upd (λ_=>False) w (w.alloc (.cells #[.int .i64 gs,.int .i64 gl,.int .i64 gr] 23)):=(Upd.refl _ w).alloc _;have hg0:=Gi.new w gs gl gr;have hI0:=h.new hu0;have hFl:=waa (λk (hk:F k)=>h.lt hk);have hmay:=waa (qd7 gs gl gr (w.alloc (.cells #[.int .i64 gs,.int .i64 gl,.int .i64 gr] 23)));obtain⟨c0,c1,c2,cf⟩:=hg0.cells;replace hu0:=waa hu0;replace hg0:=waa hg0;replace hI0:=waa hI0;replace hw:=waa hw;clear h;cases hm:mayB gs gl gr with
 |false=>
  rw[hm] at hmay;have hr:qdy (τ:=τ) E.n E.nl E.who gs gl gr=AP.ret 0:=by unfold qdy;rw[hm];rfl
  rw[hr] at hw ⊢;clear hr hm;go_enter Tryz.func120,Tryz.ntmps120;go_wp2_with fail;refine hmay.out.mono ?_;rintro e w1 ⟨rfl,hB1⟩;have hu1:Upd (λ_=>False) w w1:=hu0.out.trans (Upd.of_below hB1 (wab _));have hfin:=waa (DP.Post.ended (E:=E) (t:=AP.ret (0:Nat)) (R:=λ(c:Nat) v _=>v= .int .i64 (c:Int)/\c<=4) (v:= .int .i64 ((0:Nat):Int)) (i:=i) (l:=l) (s:=s) rfl rfl ⟨rfl,Zo⟩ (hI0.out.new (Upd.of_below (F:=λ_=>False) hB1 (wab _))) (Grows.refl F w) (hu1.mono (λ_ e=>e.elim)));clear hB1 hu1 hmay;go_wp2_with fail;go_ret;exact hfin.out
 |true=>
  rw[hm] at hmay;rw[qj6 hm] at hw ⊢;obtain⟨hg1,hg4⟩:1<=gl/\gl<=4:=by simp[mayB,cntB] at hm;omega
  obtain⟨L,hL⟩:∃L:Nat,gl=(L:Int):=⟨gl.toNat,Zo⟩
  subst hL;rw[wam] at hw ⊢;have hlane:=waa (λ(j:Nat) (hj:j<L)=>show 0<=qbl gs (L:Int) gr (j:Int) from by unfold qbl;rw[if_pos ⟨hm,Zo,Zo⟩];omega);replace hm:=waa hm;go_enter Tryz.func120,Tryz.ntmps120;go_wp2_with fail;refine hmay.out.mono ?_;rintro e w1 ⟨rfl,hB1⟩;have hu1:Upd F w w1:=(hu0.out.trans (Upd.of_below hB1 (wab _))).mono (λ_ e=>e.elim);have hI1:=waa (hI0.out.new (Upd.of_below (F:=λ_=>False) hB1 (wab _)));have hg2:=waa (hg0.out.below hB1 hg0.out.lt);replace hu1:=waa hu1;obtain⟨d0,d1,d2,df⟩:=hg2.out.cells;clear hB1 hmay c0 c1 c2 cf;go_wp2_with fail;go_loopg [5,16] L (λk s5 s16 wr=>∃(j c:Nat) (i':Nat) (l':List Nat) (s':DM×τ) (F':Nat->Prop),s16= .int .i64 (j:Int)/\s5= .int .i64 (c:Int)/\c<=j/\L - j<=k/\j<=L/\Hid (AP.fold (qis E.n E.nl E.who gs (L:Int) gr) ((List.range L).take j) 0 E.sp i l s= .done c i' l' s')/\Hid (E.In i' l' s' F' wr)/\Hid (Grows F F' w)/\Hid (Upd F w wr)/\Hid (Gi wr w.heap.size gs (L:Int) gr)/\Hid (¬F' w.heap.size))
  case atStart=>exact⟨0,0,i,l,s,F,rfl,rfl,wab _,Zo,Zo,waa rfl,hI1,waa (Grows.refl _ _),hu1,hg2,waa (λe=>by have:=hFl.out _ e;omega)⟩
  case round=>
   obtain⟨j,c,i',l',s',F',rfl,rfl,hcj,hkj,hj,he,hI,hg,hu,hgi,hnF⟩:=hrel;by_cases hlt:j<L
   ·have hp:(List.range L)[j]? =some j:=wdi hlt
    have hwk:qb6 E.n E.nl E.who gs (L:Int) gr (j:Int) E.sp i' l' s'≠ .wild:=by
     have h:=hw.out;rw[AP.fold_split _ hp,AP.bind_done he.out] at h;exact AP.tame (AP.tame h)
    have hrp:=waa (quz hI.out gs (L:Int) gr (j:Int) (hlane.out j hlt) hwk);obtain⟨k0,k1,k2,kf⟩:=hgi.out.cells;have hz0:(0:Int)<=(j:Int):=Zo
    have hcw:IntKind.i64.wrap ((c:Int)+1)=((c+1:Nat):Int):=(wao _ Zo).trans Zo;replace hwk:=waa hwk;replace hp:=waa hp;go_wp2_with fail;refine hrp.out.mono ?_;intro e V hpost;rcases hpost.done hwk.out with ⟨b,i2,l2,s2,v,F2,ho,rfl,rfl,hI4,hg4,hu4⟩|⟨bl,l2,s2,F2,ho,rfl,hO,hg4,hu4⟩
    rotate_left
    ·refine⟨rfl,DP.Post.stopped (t:=AP.fold (qis E.n E.nl E.who gs (L:Int) gr) (List.range L) 0) ?_ rfl hO (hg.out.trans hg4 hu.out.size) (hu.out.after hu4 hg.out)⟩
     rw[AP.fold_split _ hp.out,AP.bind_done he.out];exact AP.bind_stop (AP.bind_stop ho)
    have he2:=waa (show AP.fold (qis E.n E.nl E.who gs (L:Int) gr) ((List.range L).take (j+1)) 0 E.sp i l s= .done (if b then c+1 else c) i2 l2 s2 from by
     rw[AP.fold_next _ hp.out,AP.bind_done he.out];exact AP.bind_done ho)
    have hg5:=waa (hg.out.trans hg4 hu.out.size);have hu5:=waa (hu.out.after hu4 hg.out);have hnF2:=waa (show ¬F2 w.heap.size from λe=>by
     rcases hg4 _ e with h1|h1
     ·exact hnF.out h1
     ·have:=hgi.out.lt;omega)
    have hgi2:=waa (show Gi V w.heap.size gs (L:Int) gr from(hu4.block _ hgi.out.lt hnF.out).trans hgi.out);replace hI4:=waa hI4;clear hpost ho hg4 hu4 hrp k0 k1 k2 kf;cases b with
    |true=>
     go_wp2_with fail;go_roundg (L - (j+1))
     case measure=>omega
     case rel=>exact⟨j+1,c+1,i2,l2,s2,F2,by go_num,by go_num,Zo,Zo,Zo,he2,hI4,hg5,hu5,hgi2,hnF2⟩
    |false=>
     go_wp2_with fail;go_roundg (L - (j+1))
     case measure=>omega
     case rel=>exact⟨j+1,c,i2,l2,s2,F2,by go_num,rfl,Zo,Zo,Zo,he2,hI4,hg5,hu5,hgi2,hnF2⟩
   ·obtain rfl:j=L:=Zo
    have hall:(List.range j).take j=List.range j:=wa2 Zs;rw[hall] at he;have hfin:=waa (DP.Post.ended (t:=AP.fold (qis E.n E.nl E.who gs (j:Int) gr) (List.range j) 0) (R:=λ(c:Nat) v _=>v= .int .i64 (c:Int)/\c<=4) (v:= .int .i64 (c:Int)) he.out rfl ⟨rfl,Zo⟩ hI.out hg.out hu.out);go_wp2_with fail;go_ret;exact hfin.out
end
def qbp(es:List (Int×Nat)):List AskT:=es.map (λe=>((0,e.1,e.2):AskT))++((qb4 (es.map (·.1))).map (λa=>((2,a,0):AskT))++[((3,0,0):AskT)])
def qei(n:Nat)(D:DM)(e:AskT):DM:=
 if e.1=0 then {D with S:=if qay n e.2.1 then D.S.set e.2.1.toNat e.2.2 else D.S}
 else if e.1=2 then {D with N:=if qay n e.2.1 then qc2 D.N D.S (e.2.1.toNat/8*8) 8 else D.N,B:=if qay n e.2.1 then D.B.set (e.2.1.toNat/8) true else D.B}
 else {D with K:=fenL D.K D.N D.B (n*8),B:=List.replicate n false}
def runL(n:Nat)(D:DM)(qs:List AskT):DM:=qs.foldl (qei n) D
def qnh(e:AskT):Bool:=e.1==0||e.1==2||e.1==3
theorem qsa{e:AskT}(h:qnh e=true)(n nl:Nat)(who:Int)(D:DM):doF n nl who e.1 e.2.1 e.2.2 D=some (0,qei n D e):=by
 unfold qnh at h;simp only[wfn,beq_iff_eq] at h;obtain⟨k,a,x⟩:=e;simp only at h ⊢;rcases h with (rfl|rfl)|rfl<;>rfl
section
variable {τ:Type}
def askA(n nl:Nat)(who:Int)(e:AskT):AP (DM×τ) Unit:=AP.ask (onM (doF n nl who e.1 e.2.1 e.2.2)) (λ_=>())
theorem AP.each_map{σ β γ:Type}(f:γ->AP σ Unit)(g:β->γ)(l:List β):AP.each f (l.map g)=AP.each (λb=>f (g b)) l:=by
 induction l with
 |nil=>rfl
 |cons b r ih=>
  show(f (g b)).bind (λ_=>AP.each f (r.map g))=(f (g b)).bind λ_=>AP.each (λb=>f (g b)) r
  rw[ih]
theorem qzs(n nl:Nat)(who:Int)(es:List (Int×Nat)):qc9 (τ:=τ) n nl who es=AP.each (askA n nl who) (qbp es):=by
 unfold qbp;rw[AP.each_append,AP.each_append,AP.each_map,AP.each_map,AP.each_one];rfl
theorem qza{es:List (Int×Nat)}:∀e∈qbp es,qnh e=true:=by
 intro e he;simp only[qbp,wa6,wav,wbx] at he;rcases he with ⟨x,-,rfl⟩|⟨x,-,rfl⟩|rfl<;>rfl
theorem q1d(es:List (Int×Nat)):(qbp es).length=es.length+(qb4 (es.map (·.1))).length+1:=by
 simp[qbp]
 omega
end
def putS(es:List (Int×Nat))(S:List Nat):List Nat:=es.foldl (λS e=>S.set e.1.toNat e.2) S
theorem qie(es:List (Int×Nat))(S:List Nat):(putS es S).length=S.length:=by
 induction es generalizing S with
 |nil=>rfl
 |cons e r ih=>show(putS r (S.set e.1.toNat e.2)).length=_;rw[ih,wb1]
theorem q59(es:List (Int×Nat))(S:List Nat){i:Nat}(h:∀e∈es,e.1.toNat≠i):(putS es S)[i]? =S[i]?:=by
 induction es generalizing S with
 |nil=>rfl
 |cons e r ih=>
  show(putS r (S.set e.1.toNat e.2))[i]? =_
  rw[ih _ (λe' h'=>h e' (by simp[h'])),wbe (h e Zs)]
structure CleanD (n:Nat) (D:DM):Prop where
 kept:D.K=D.S
 len:D.S.length=n*8
 nlen:D.N.length=n*8
 none:D.B=List.replicate n false
theorem thereB_iff{n:Nat}{a:Int}:qay n a=true↔0<=a/\a<((n*8:Nat):Int):=by simp[qay]
theorem q25(n:Nat)(D:DM)(es:List (Int×Nat))(h:∀e∈es,0<=e.1/\e.1<((n*8:Nat):Int)):runL n D (es.map λe=>((0,e.1,e.2):AskT))={D with S:=putS es D.S}:=by
 induction es generalizing D with
 |nil=>rfl
 |cons e r ih=>
  show runL n (qei n D (0,e.1,e.2)) (r.map λe=>((0,e.1,e.2):AskT))=_
  rw[ih _ (λe' h'=>h e' (by simp[h']))];have ht:qay n e.1=true:=thereB_iff.2 (h e Zs);unfold qei;simp only[if_true,ht];try rfl
theorem q3y(n:Nat):∀(L:List Int) (D:DM),D.N.length=n*8->D.B.length=n->D.S.length=n*8->(∀a∈L,∃j,j<n/\a=((8*j:Nat):Int))->
  ∃N B,runL n D (L.map λa=>((2,a,0):AskT))={D with N:=N,B:=B}/\N.length=n*8/\B.length=n/\
   (∀i,i<n*8->N[i]? =if((8*(i/8):Nat):Int)∈L then D.S[i]? else D.N[i]?)/\∀j,j<n->B[j]? =if((8*j:Nat):Int)∈L then some true else D.B[j]?:=by
 intro L;induction L with
 |nil=>intro D h1 h2 h3 _;exact⟨D.N,D.B,rfl,h1,h2,λi _=>by simp,λj _=>by simp⟩
 |cons a r ih=>
  intro D h1 h2 h3 hL;obtain⟨j0,hj0,rfl⟩:=hL a Zs;have ht:qay n ((8*j0:Nat):Int)=true:=thereB_iff.2 ⟨Zo,Zo⟩;have hstep:qei n D (2,((8*j0:Nat):Int),0)={D with N:=qc2 D.N D.S (8*j0) 8,B:=D.B.set j0 true}:=by
   unfold qei;simp only[ht,if_true,wam];rw[if_neg Zo];have e1:8*j0/8=j0:=Zo
   rw[e1,wfd j0 8]
  obtain⟨N,B,e,k1,k2,k3,k4⟩:=ih {D with N:=qc2 D.N D.S (8*j0) 8,B:=D.B.set j0 true} (by simp[qc2,h1]) (by simpa using h2) h3 (λb hb=>hL b (by simp[hb]));refine⟨N,B,?_,k1,k2,λi hi=>?_,λj hj=>?_⟩
  ·show runL n (qei n D (2,((8*j0:Nat):Int),0)) _=_
   rw[hstep,e]
  ·rw[k3 i hi]
   by_cases hr:((8*(i/8):Nat):Int)∈r
   ·rw[if_pos hr,if_pos (wbg.2 (.inr hr))]
   ·rw[if_neg hr]
    show(qc2 D.N D.S (8*j0) 8)[i]? =_
    have hN:D.N[i]? =some D.N[i]:=waj Zo;have hS:D.S[i]? =some D.S[i]:=waj Zo;unfold qc2;rw[wd6,hN];by_cases hq:i/8=j0
    ·rw[if_pos (wbg.2 (.inl Zo))]
     simp only[wbo];rw[if_pos Zo,hS];rfl
    ·rw[if_neg (λe=>(wbg.1 e).elim (λe=>by omega) hr)]
     simp only[wbo];rw[if_neg Zo]
  ·rw[k4 j hj]
   by_cases hr:((8*j:Nat):Int)∈r
   ·rw[if_pos hr,if_pos (wbg.2 (.inr hr))]
   ·rw[if_neg hr]
    show(D.B.set j0 true)[j]? =_
    rw[wcx];by_cases hq:j0=j
    ·subst hq
     rw[if_pos rfl,if_pos Zo,if_pos (wbg.2 (.inl rfl))]
    ·rw[if_neg hq,if_neg (λe=>(wbg.1 e).elim (λe=>by omega) hr)]
theorem qui{n:Nat}{zs:List Int}(h:∀z∈zs,0<=z/\z<((n*8:Nat):Int))(hn:n<=2048):∀a∈qb4 zs,∃j,j<n/\a=((8*j:Nat):Int):=by
 intro a ha;obtain⟨z,hz,rfl⟩:=(qim (λz hz=>⟨(h z hz).1,by have:=(h z hz).2;omega⟩) a).1 ha;have:=h z hz
 exact⟨(z/8).toNat,Zo,Zo⟩
theorem q9f{n:Nat}{D:DM}{es:List (Int×Nat)}(hC:CleanD n D)(hn:n<=2048)(h:∀e∈es,0<=e.1/\e.1<((n*8:Nat):Int)):
  ∃N,runL n D (qbp es)={D with S:=putS es D.S,K:=putS es D.S,N:=N,B:=List.replicate n false}/\CleanD n {D with S:=putS es D.S,K:=putS es D.S,N:=N,B:=List.replicate n false}:=by
 have hz:∀z∈es.map (·.1),0<=z/\z<((n*8:Nat):Int):=λz hz=>by
  obtain⟨e,he,rfl⟩:=wav.1 hz;exact h e he
 obtain⟨N,B,e1,e2,e3,e4,e5⟩:=q3y n (qb4 (es.map (·.1))) {D with S:=putS es D.S} hC.nlen (by show D.B.length=n;rw[hC.none];simp) (by show(putS es D.S).length=_;rw[qie];exact hC.len) (qui hz hn);have hrun:runL n D (qbp es)={D with S:=putS es D.S,K:=fenL D.K N B (n*8),N:=N,B:=List.replicate n false}:=by
  unfold qbp;show List.foldl _ _ _=_
  rw[we7,we7];show qei n (runL n (runL n D (es.map λe=>((0,e.1,e.2):AskT))) ((qb4 (es.map (·.1))).map λa=>((2,a,0):AskT))) (3,0,0)=_
  rw[q25 n D es h,e1];rfl
 have hK:fenL D.K N B (n*8)=putS es D.S:=by
  apply wa3
  intro i;unfold fenL;rw[wd6,hC.kept];by_cases hi:i<n*8
  ·obtain⟨vS,hS⟩:∃v,D.S[i]? =some v:=⟨_,waj (by rw[hC.len];exact hi)⟩
   obtain⟨vP,hP⟩:∃v,(putS es D.S)[i]? =some v:=⟨_,waj (by rw[qie,hC.len];exact hi)⟩
   rw[hS];simp only[wbo];have hB:=e5 (i/8) Zo;have hN:=e4 i hi;by_cases hm:((8*(i/8):Nat):Int)∈qb4 (es.map (·.1))
   ·rw[if_pos hm] at hB hN
    have hN':N[i]? =some vP:=hN.trans hP;rw[hB,hN',hP];simp only[wa8];rw[if_pos ⟨hi,trivial⟩]
   ·rw[if_neg hm] at hB
    have hB0:D.B[i/8]? =some false:=by
     rw[hC.none,wcu,if_pos Zo]
    rw[hB];show some (if i<n*8/\(D.B[i/8]?.getD false)=true then _ else _)=_
    rw[hB0,if_neg Zs,<-hS];symm
    refine q59 es D.S (λe he hei=>hm ?_);have hr:=h e he;refine(qim (λz hz'=>⟨(hz z hz').1,by have:=(hz z hz').2;omega⟩) _).2 ⟨e.1,wav.2 ⟨e,he,rfl⟩,Zo⟩
  ·have hS:D.S[i]? =none:=wbp (by rw[hC.len];omega)
   have hP:(putS es D.S)[i]? =none:=wbp (by rw[qie,hC.len];omega);rw[hS,hP];rfl
 rw[hK] at hrun;exact⟨N,hrun,rfl,by show(putS es D.S).length=_;rw[qie];exact hC.len,e2,rfl⟩
def putP(ps:List (List (Int×Nat)))(S:List Nat):List Nat:=ps.foldl (λS p=>putS p S) S
theorem qj7{n:Nat}(hn:n<=2048):∀(ps:List (List (Int×Nat))) (D:DM),CleanD n D->(∀p∈ps,∀e∈p,0<=e.1/\e.1<((n*8:Nat):Int))->
  ∃N,runL n D ((ps.map qbp).flatten)={D with S:=putP ps D.S,K:=putP ps D.S,N:=N,B:=List.replicate n false}/\CleanD n {D with S:=putP ps D.S,K:=putP ps D.S,N:=N,B:=List.replicate n false}:=by
 intro ps;induction ps with
 |nil=>
  intro D hC _;have e:D={D with S:=putP [] D.S,K:=putP [] D.S,N:=D.N,B:=List.replicate n false}:=by
   have h1:=hC.kept;have h2:=hC.none;cases D
   simp only at h1 h2;subst h1 h2;rfl
  exact⟨D.N,e,by rw[<-e];exact hC⟩
 |cons p r ih=>
  intro D hC h;obtain⟨N1,e1,hC1⟩:=q9f hC hn (h p Zs);obtain⟨N2,e2,hC2⟩:=ih _ hC1 (λq hq=>h q (by simp[hq]));refine⟨N2,?_,hC2⟩;rw[wc5,wek];show List.foldl _ _ _=_
  rw[we7];show runL n (runL n D (qbp p)) _=_
  rw[e1,e2];rfl
def dbN(X p gs gk m n tp tg nl:Nat)(who:Int)(df:Value):DB Unit where
 X:=X
 p:=p
 gs:=gs
 gk:=gk
 m:=m
 n:=n
 tp:=tp
 tg:=tg
 nl:=nl
 who:=who
 df:=df
 Ex:=λ_ G _=>∀k,¬G k
 exUpd:=λ_ _ _ _ _ h _ _=>h
 exLt:=λ_ _ _ k h e=>absurd e (h k)
 exNot:=λ_ _ _ k _ _ _ h e _=>absurd e (h k)
def ofD(S:List Nat)(n nl:Nat):DM:=⟨S,S,List.replicate (n*8) 0,List.replicate n false,List.replicate nl (-1),0,[]⟩
theorem qkg{S:List Nat}{n nl:Nat}(h:S.length=n*8):CleanD n (ofD S n nl):=⟨rfl,h,by simp[ofD],rfl⟩
section
variable {w:World} {X p gs gk m n tp tg nl:Nat} {D:DM}
def lnF(X p gs gk m tp tg:Nat)(k:Nat):Prop:=psF p gs gk m tp tg k\/False\/k=X
end
section
variable {τ α β:Type} {s s' s2:DM×τ}
end
section
variable {τ:Type} {ws:List Nat} {s l r:Int} {n nl:Nat} {who:Int}
theorem q1x{t:Nat}(h:qak ws t≠[]):logB (qak ws t)=true/\ws.getD (16+40*t) 0≠0:=by
 have h0:ws.getD (16+40*t) 0≠0:=λe=>h (qfs e)
 refine⟨?_,h0⟩;unfold qak at h ⊢;cases hr:qbh (ws.getD (16+40*t) 0) ((ws.drop (24+40*t)).take 32) with
 |none=>rw[hr] at h;exact absurd rfl h
 |some L=>exact(qk3 h0 hr).1
theorem ql3{t:Nat}(h:(qak ws t).all (λe=>qbj s l r e.1)=true):qgx s l r (qak ws t)=decide (qak ws t≠[]):=by
 unfold qgx;rw[h,Bool.and_true];by_cases h0:qak ws t=[]
 ·rw[h0];rfl
 ·rw[decide_eq_true h0,(q1x h0).1]
def qk8(ws:List Nat)(t:Nat):Nat:=((List.range t).filter λt=>decide (qak ws t≠[])).length
theorem qxr(ws:List Nat)(t:Nat):qk8 ws (t+1)=if decide (qak ws t≠[])=true then qk8 ws t+1 else qk8 ws t:=by
 unfold qk8;rw[wcd,List.filter_append,was];by_cases h:qak ws t=[]
 ·simp[h]
 ·simp[h]
theorem qgr(hf:fitB s l r ws.length=true):∀{t:Nat} {o:List Nat},(t:Int)<=l->repF s l r ws t=some o->∀i,16+40*t<=i->(i:Int)<16+40*l->o[i]? =ws[i]?:=by
 intro t;induction t with
 |zero=>intro o _ h i _ _;injection h with h;rw[h]
 |succ t ih=>
  intro o ht h i h1 h2;have hb:=qaw hf;cases hp:repF s l r ws t with
  |none=>rw[qkw hp (wd7 t)] at h;cases h
  |some o'=>
   cases hm:(qak ws t).all (λe=>qbj s l r e.1) with
   |false=>rw[qgz hm] at h;cases h
   |true=>
    rw[qdw hp hm] at h;injection h with h;rw[<-h,wbe Zo,qid (λe he=>?_),ih Zo hp i Zo h2];have:=(imay_iff.1 (wcp.1 hm e he)).2
    omega
end
def PutI(S0:List Nat)(es:List (Int×Nat))(i x:Nat):Prop:=S0[i]? =some x\/∃e∈es,e.1.toNat=i/\e.2=x
structure MayI (n:Nat) (S0:List Nat) (es:List (Int×Nat)) (D:DM):Prop where
 klen:D.K.length=n*8
 slen:D.S.length=n*8
 nlen:D.N.length=n*8
 blen:D.B.length=n
 k:∀i x,D.K[i]? =some x->PutI S0 es i x
 s:∀i x,D.S[i]? =some x->PutI S0 es i x
 nn:∀i x,D.B[i/8]? =some true->D.N[i]? =some x->PutI S0 es i x
theorem qh0(n:Nat)(D:DM)(a b:List AskT):runL n D (a++b)=runL n (runL n D a) b:=by simp[runL]
end Go.Proofs.YtocncmbeinmiaaaGreat
