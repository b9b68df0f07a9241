/- Parts. No condition. -/
import Derived.Test.YtgjhkafggagniaaGreatJoinV18
set_option linter.unusedVariables false
set_option maxRecDepth 100000
set_option maxHeartbeats 8000000
namespace Go.Proofs.YtgjhkafggagniaaGreat
open Go Go.RowKit
def qck(s l r t:Int)(es:List (Int×Nat)):List (List (Int×Nat)):=[wrL (entN s l r t 0) (logW es),[(qa3 s l r t,qc5 es)],es,[(qa3 s l r t,0)]]
def qea(s l r t:Int)(es:List (Int×Nat)):Bool:=decide (0<=qa3 s l r t)&&qjf s l r es
def qcg{τ:Type}(n nl:Nat)(who:Int)(s l r t:Int)(es:List (Int×Nat)):AP (DM×τ) Bool:=
 if qea s l r t es=true then(AP.each (qa7 n nl who) (qck s l r t es)).bind λ_=>AP.ret true else AP.ret false
theorem q0r{s l r t:Int}(h:0<=qa3 s l r t):mayB s l r=true/\0<=t/\t<l/\l<=4/\qa3 s l r t=16+40*t/\entN s l r t 0=24+40*t:=by
 unfold qa3 at h ⊢;split at h
 ·rename_i h1
  have h4:=h1.1;simp[mayB,cntB] at h4
  refine⟨h1.1,h1.2.1,h1.2.2,Zo,by rw[if_pos h1],?_⟩;unfold entN;rw[if_pos ⟨h1.1,⟨h1.2.1,h1.2.2⟩,Zo,Zo⟩];omega
 ·omega
theorem q0p{es:List (Int×Nat)}(h:logB es=true):1<=es.length/\es.length<=16/\∀e∈es,0<=e.1/\e.1<16384:=by
 unfold logB at h;simp only[wbp,decide_eq_true_eq] at h;refine⟨h.1.1,h.1.2,λe he=>?_⟩;have:=wb0.1 h.2 e he
 rw[entB_iff] at this;exact⟨this.1,Zo⟩
theorem qpn{b:Int}{ws:List Nat}{e:Int×Nat}(h:e∈wrL b ws):b<=e.1/\e.1<b+(ws.length:Int)/\(e.2∈ws):=by
 unfold wrL at h;obtain⟨i,hi,rfl⟩:=wbb.1 h;have hi:=wcb.1 hi;refine⟨by simp;omega,by simp;omega,?_⟩;simp[List.getD_eq_getElem?_getD,List.getElem?_eq_getElem hi]
theorem qyr(es:List (Int×Nat)):qc5 es<18446744073709551616:=by
 unfold qc5;split
 ·exact qle _
 ·omega
theorem qym{s l r t:Int}{es:List (Int×Nat)}(hg:qea s l r t es=true)(hx:∀e∈es,e.2<18446744073709551616):∀p∈qck s l r t es,p.length<=32/\(∀e∈p,0<=e.1/\e.1<16384)/\∀e∈p,e.2<18446744073709551616:=by
 unfold qea qjf at hg;simp only[wbp,decide_eq_true_eq] at hg;obtain⟨h1,h2,h3⟩:=hg;obtain⟨k1,k2,k3,k4,k5,k6⟩:=q0r h1;obtain⟨m1,m2,m3⟩:=q0p h2;have hW:=qo3 (l:=es);have hWl:=q1e hx;intro p hp;simp only[qck,wa1,wci,or_false] at hp;rcases hp with rfl|rfl|rfl|rfl
 ·refine⟨by rw[qpj];exact hW,λe he=>?_,λe he=>hWl _ (qpn he).2.2⟩
  obtain⟨q1,q2,-⟩:=qpn he;omega
 ·refine⟨by simp,λe he=>?_,λe he=>?_⟩
  ·obtain rfl:e=_:=by simpa using he
   simp only;omega
  ·obtain rfl:e=_:=by simpa using he
   exact qyr es
 ·exact⟨Zo,m3,hx⟩
 ·refine⟨by simp,λe he=>?_,λe he=>?_⟩
  ·obtain rfl:e=_:=by simpa using he
   simp only;omega
  ·obtain rfl:e=_:=by simpa using he
   simp
section
variable {τ:Type} {E:DP τ} {i:Nat} {l:List Nat} {s:DM×τ} {F:Nat->Prop} {w w':World}
theorem q0m{V V0:World}{gs gl gr gt:Int}{A:Option Addr}{cap N:Nat}{es:List (Int×Nat)}{g B:Nat}{v1 v2 v4:Value}{j:Nat}{p:List (Int×Nat)}(h:PartsR B gs gl gr gt (.slice A N cap) es g v1 v2 v4 V0)(hes:EsRd V0 A N es)(hu:Upd F V0 V)(hF:∀k,F k->k<B)(hA:∀q,A=some q->0<N->¬F q.block)(hj:(qck gs gl gr gt es)[j]? =some p):∃A' n' c',V.cell? ⟨g,j,none⟩=some (.slice A' n' c')/\EsRd V A' n' p/\(∀q,A'=some q->0<n'->q.block<V0.heap.size/\¬F q.block):=by
 obtain⟨h0,h1,h2,h3,h4⟩:=h;have hg:V.heap[g]? =some (.cells #[v1,v2,.slice A N cap,v4] 155 (0,0)):=(hu.block g (waj.1 h1).1 (λe=>by have:=hF g e;omega)).trans h1;have own:∀{v:Value} {n:Nat} {p:List (Int×Nat)},V0.ownsRow B 169 2 v n (eV p)->∃A' c',v= .slice A' n c'/\EsRd V A' n p/\∀q,A'=some q->0<n->q.block<V0.heap.size/\¬F q.block:=by
  intro v n p ho;have ho':=qa5 ho hu (λk hk e=>by have:=hF k e;have:=(ho.lt k hk).1;omega);obtain⟨A',c',rfl,hR⟩:=EsRd.of_own ho';refine⟨A',c',rfl,hR,λq e h0=>?_⟩;subst e;have hl:=ho.lt q.block rfl;exact⟨hl.2,λe=>by have:=hF _ e;omega⟩
 have hc:=λk=>qab hg k
 match j,hj with
 |0,hj=>
  obtain rfl:wrL (entN gs gl gr gt 0) (logW es)=p:=by injection hj
  obtain⟨A',c',rfl,r⟩:=own h2;exact⟨A',_,c',by rw[hc];rfl,r⟩
 |1,hj=>
  obtain rfl:[(qa3 gs gl gr gt,qc5 es)]=p:=by injection hj
  obtain⟨A',c',rfl,r⟩:=own h3;exact⟨A',_,c',by rw[hc];rfl,r⟩
 |2,hj=>
  obtain rfl:es=p:=by injection hj
  refine⟨A,N,cap,by rw[hc];rfl,hes.upd hu hA,λq e h0=>?_⟩;obtain⟨q',e',hq⟩:=hes.2 h0;rw[e] at e';injection e' with e';subst e';obtain⟨x,hx⟩:∃x,es[0]? =some x:=⟨_,wan (by rw[hes.1];exact h0)⟩
  have hb:(q.add (0*2)).block=q.block:=rfl;exact⟨by rw[<-hb];exact wal V0 _ (hq 0 x hx).1,hA q e h0⟩
 |3,hj=>
  obtain rfl:[(qa3 gs gl gr gt,0)]=p:=by injection hj
  obtain⟨A',c',rfl,r⟩:=own h4;exact⟨A',_,c',by rw[hc];rfl,r⟩
 |k+4,hj=>simp[qck] at hj
theorem ql9(h:E.In i l s F w)(gs gl gr gt:Int){A:Option Addr}{cap N:Nat}{es:List (Int×Nat)}(hes:EsRd w A N es)(hA:∀q,A=some q->0<N->¬F q.block)(hN:N<=9223372036854775807)(hx:∀e∈es,e.2<18446744073709551616)(ha:∀e∈es,-9223372036854775808<=e.1/\e.1<=9223372036854775807)(hw:qcg E.n E.nl E.who gs gl gr gt es E.sp i l s≠ .wild):
  Calls Tryz.prog 276 #[.pointer (some ⟨E.eb,0,none⟩),.agg #[.int .i64 gs,.int .i64 gl,.int .i64 gr],.int .i64 gt,.slice A N cap] w λe w'=>E.Post (qcg E.n E.nl E.who gs gl gr gt es E.sp i l s) (λb v _=>v= .bool b) F w e w':=by
 have hu0:Upd (λ_=>False) w (w.alloc (.cells #[.int .i64 gs,.int .i64 gl,.int .i64 gr] 36)):=(Upd.refl _ w).alloc _;have hg0:=Gi.new w gs gl gr;have hI0:=h.new hu0;have hFl:=waa (λk (hk:F k)=>h.lt hk);have hes0:=hes.upd hu0 (λ_ _ _ e=>e);have hno:Hid (∀V,Upd (λ_=>False) w V->qea gs gl gr gt es=false->E.Post (qcg E.n E.nl E.who gs gl gr gt es E.sp i l s) (λb v _=>v= .bool b) F w (.returned (.bool false)) V):=waa (λV hV hb=>by
  have e:qcg E.n E.nl E.who gs gl gr gt es E.sp i l s= .done false i l s:=by unfold qcg;rw[hb];rfl
  exact DP.Post.ended (t:=qcg E.n E.nl E.who gs gl gr gt es) e rfl rfl (h.new hV) (Grows.refl _ _) (hV.mono (λ_ e=>e.elim)))
 generalize hW:w.alloc (.cells #[.int .i64 gs,.int .i64 gl,.int .i64 gr] 36)=W at hu0 hg0 hI0 hes0;obtain⟨g0,g1,g2,gf⟩:=hg0.cells;have hln:=waa (qez gs gl gr gt W);replace hW:=waa hW;replace hu0:=waa hu0;replace hg0:=waa hg0;replace hI0:=waa hI0;replace hes0:=waa hes0;replace hw:=waa hw;replace hx:=waa hx;replace ha:=waa ha;replace hA:=waa hA;have hN':=waa hN;clear h hes hN;by_cases hl:qa3 gs gl gr gt<0
 ·have hb:qea gs gl gr gt es=false:=by unfold qea;rw[decide_eq_false Zo];rfl
  replace hb:=waa hb;generalize qa3 gs gl gr gt=LN at hln hl;go_enter Tryz.func276,Tryz.ntmps276;go_wp2_with fail;rw[hW.out];refine hln.out.mono ?_;rintro e W1 ⟨rfl,hB1⟩;have hfin:=waa (hno.out W1 (hu0.out.trans (Upd.of_below hB1 (wah _))) hb.out);clear hB1 hln;go_wp2_with fail;go_ret;exact hfin.out
 ·have hmy:=waa (λV (hV:EsRd V A N es)=>qyd (cap:=cap) gs gl gr hV hN'.out hx.out ha.out)
  have hl0:0<=qa3 gs gl gr gt:=Zo
  cases hb:qjf gs gl gr es with
  |false=>
   have hb2:qea gs gl gr gt es=false:=by unfold qea;rw[hb,wes]
   rw[hb] at hmy;replace hb2:=waa hb2;generalize qa3 gs gl gr gt=LN at hln hl hl0;go_enter Tryz.func276,Tryz.ntmps276;go_wp2_with fail;rw[hW.out];refine hln.out.mono ?_;rintro e W1 ⟨rfl,hB1⟩;have hu1:Upd (λ_=>False) W W1:=Upd.of_below hB1 (wah _);have hg1:=hg0.out.below hB1 hg0.out.lt;obtain⟨k0,k1,k2,kf⟩:=hg1.cells;have hmy1:=waa (hmy.out W1 (hes0.out.upd hu1 (λ_ _ _ e=>e)));replace hu1:=waa hu1;clear hB1 hg1 g0 g1 g2 gf hln;go_wp2_with fail;refine hmy1.out.mono ?_;rintro e W2 ⟨rfl,hB2⟩;have hfin:=waa (hno.out W2 ((hu0.out.trans hu1.out).trans (Upd.of_below hB2 (wah _))) hb2.out);clear hB2 hmy1;go_wp2_with fail;go_ret;exact hfin.out
  |true=>
   have hb2:qea gs gl gr gt es=true:=by unfold qea;rw[hb,decide_eq_true hl0];rfl
   rw[hb] at hmy;have hth:qcg (τ:=τ) E.n E.nl E.who gs gl gr gt es=(AP.each (qa7 E.n E.nl E.who) (qck gs gl gr gt es)).bind λ_=>AP.ret true:=by unfold qcg;rw[if_pos hb2]
   rw[hth] at hw ⊢;have hpin:=waa (qym hb2 hx.out);replace hb2:=waa hb2;clear hth hb;generalize qa3 gs gl gr gt=LN at hln hl hl0;go_enter Tryz.func276,Tryz.ntmps276;go_wp2_with fail;rw[hW.out];refine hln.out.mono ?_;rintro e W1 ⟨rfl,hB1⟩;have hu1:Upd (λ_=>False) W W1:=Upd.of_below hB1 (wah _);have hg1:=hg0.out.below hB1 hg0.out.lt;obtain⟨k0,k1,k2,kf⟩:=hg1.cells;have hmy1:=waa (hmy.out W1 (hes0.out.upd hu1 (λ_ _ _ e=>e)));replace hg1:=waa hg1;replace hu1:=waa hu1;clear hB1 g0 g1 g2 gf hln;go_wp2_with fail;refine hmy1.out.mono ?_;rintro e W2 ⟨rfl,hB2⟩;have hu2:Upd (λ_=>False) w W2:=(hu0.out.trans hu1.out).trans (Upd.of_below hB2 (wah _));have hg2:=hg1.out.below hB2 hg1.out.lt;obtain⟨q0,q1,q2,qf⟩:=hg2.cells;have hes2:EsRd W2 A N es:=(hes0.out.upd hu1.out (λ_ _ _ e=>e)).upd (Upd.of_below (F:=λ_=>False) hB2 (wah _)) (λ_ _ _ e=>e);have hpa:=waa (qqm (cap:=cap) gs gl gr gt hes2 hN'.out hx.out);have hI2:=waa ((hI0.out.new hu1.out).new (Upd.of_below hB2 (wah _)));replace hes2:=waa hes2;replace hu2:=waa hu2;clear hB2 hg2 hmy1 k0 k1 k2 kf hmy;go_wp2_with fail;refine hpa.out.mono ?_;rintro e W3 ⟨g,v1,v2,v4,rfl,hP,hB3⟩;have hu3:Upd (λ_=>False) W2 W3:=Upd.of_below hB3 (wah _);have hI3:=waa (hI2.out.new hu3);have hes3:=waa (hes2.out.upd hu3 (λ_ _ _ e=>e));have huw:=waa ((hu2.out.trans hu3).mono (G:=F) (λ_ e=>e.elim));have hFB:=waa (show ∀k,F k->k<W2.heap.size from λk hk=>wak (hFl.out k hk) hu2.out.size);replace hP:=waa hP;clear hB3 hu3 hpa q0 q1 q2 qf;go_wp2_with fail;go_loopg [30] 4 (λk s30 wr=>∃(j:Nat) (i':Nat) (l':List Nat) (s':DM×τ) (F':Nat->Prop),s30= .int .i64 (j:Int)/\4 - j<=k/\j<=4/\Hid (AP.each (qa7 E.n E.nl E.who) ((qck gs gl gr gt es).take j) E.sp i l s= .done () i' l' s')/\Hid (E.In i' l' s' F' wr)/\Hid (Grows F F' W3)/\Hid (Upd F W3 wr))
   case atStart=>exact⟨0,i,l,s,F,rfl,Zo,Zo,waa rfl,hI3,waa (Grows.refl _ _),waa (Upd.refl _ _)⟩
   case round=>
    obtain⟨j,i',l',s',F',rfl,hkj,hj,he,hI,hg,hu⟩:=hrel;by_cases hlt:j<4
    ·obtain⟨p,hp⟩:∃p,(qck gs gl gr gt es)[j]? =some p:=⟨_,wan (by show j<4;exact hlt)⟩
     obtain⟨A',n',c',hc,hR,hq⟩:=q0m hP.out hes3.out hu.out hFB.out hA.out hp;obtain⟨hp1,hp2,hp3⟩:=hpin.out p (wb9 hp);have hn':p.length=n':=hR.1;have hF':∀q,A'=some q->0<n'->¬F' q.block:=λq e h0 hf=>by
      obtain⟨r1,r2⟩:=hq q e h0;rcases hg.out _ hf with hf|hf
      ·exact r2 hf
      ·omega
     have hwk:qa7 E.n E.nl E.who p E.sp i' l' s'≠ .wild:=by
      have h:=AP.tame hw.out;rw[AP.each_split _ hp] at h;exact AP.tame_next (f:=λ_=>qa7 E.n E.nl E.who p) (AP.tame h) he.out
     have hk:=waa (qwd hI.out (cap:=c') hR hF' hp2 hp3 Zo hwk);have hz0:(0:Int)<=(j:Int):=Zo
     have hz1:(j:Int)<4:=Zo
     replace hwk:=waa hwk;replace hp:=waa hp;clear hR hq hp1 hp2 hp3 hn' hF';go_wp2_with fail;refine hk.out.mono ?_;intro e V hpost;rcases hpost.done hwk.out with ⟨u,i2,l2,s2,v,F2,ho,rfl,rfl,hI4,hg4,hu4⟩|⟨bl,l2,s2,F2,ho,rfl,hO,hg4,hu4⟩
     rotate_left
     ·refine⟨rfl,DP.Post.stopped (t:=(AP.each (qa7 E.n E.nl E.who) (qck gs gl gr gt es)).bind λ_=>AP.ret true) (AP.bind_stop ?_) rfl hO (λk hk=>((hg.out.trans hg4 hu.out.size) k hk).imp id (λe=>wam huw.out.size e)) (huw.out.trans (hu.out.after hu4 hg.out))⟩
      rw[AP.each_split _ hp.out];exact AP.bind_stop (by rw[AP.bind_done he.out];exact ho)
     have he2:=waa (show AP.each (qa7 E.n E.nl E.who) ((qck gs gl gr gt es).take (j+1)) E.sp i l s= .done () i2 l2 s2 from by
      rw[AP.each_next _ hp.out,AP.bind_done he.out];exact ho)
     have hg5:=waa (hg.out.trans hg4 hu.out.size);have hu5:=waa (hu.out.after hu4 hg.out);replace hI4:=waa hI4;clear hpost ho hg4 hu4 hk;go_wp2_with fail;go_roundg (4 - (j+1))
     case measure=>omega
     case rel=>exact⟨j+1,i2,l2,s2,F2,by go_num,Zo,Zo,he2,hI4,hg5,hu5⟩
    ·obtain rfl:j=4:=Zo
     have hall:(qck gs gl gr gt es).take 4=qck gs gl gr gt es:=wax (by show 4<=4;omega);rw[hall] at he;have hfin:=waa (DP.Post.ended (t:=(AP.each (qa7 E.n E.nl E.who) (qck gs gl gr gt es)).bind λ_=>AP.ret true) (R:=λ(b:Bool) v _=>v= .bool b) (v:= .bool true) (AP.bind_done he.out) rfl rfl hI.out (λk hk=>(hg.out k hk).imp id (λe=>wam huw.out.size e)) (huw.out.trans hu.out));go_wp2_with fail;go_ret;exact hfin.out
end
theorem qj2{l:List (Int×Nat)}{e:Int×Nat}(h:e∈qbf l):e∈l:=by
 induction l with
 |nil=>exact h
 |cons a r ih=>
  unfold qbf at h;split at h
  ·exact wdo _ (ih h)
  ·rcases wa1.1 h with rfl|h
   ·exact wdn
   ·exact wdo _ (ih h)
theorem qyk(l:List (Int×Nat)):(qbf l).length<=l.length:=by
 induction l with
 |nil=>exact wah _
 |cons a r ih=>
  unfold qbf;split
  ·exact Nat.le_succ_of_le ih
  ·exact Nat.succ_le_succ ih
section
variable {τ:Type} {A:AC} {E:DP τ} {i i':Nat} {l l':List Nat} {s s':DM×τ} {F F':Nat->Prop} {v v':Value} {ws ws':List (Int×Nat)} {w w' w2:World} {e:Ending}
def pubA(A:AC)(E:DP τ)(ws:List (Int×Nat)):AP (DM×τ) Unit:=(qcg E.n E.nl E.who A.s A.l A.r A.who (qbf ws)).bind λ_=>AP.ret ()
theorem qgv(h:AIn A E i l s F v ws w)(hm:ws.length<=300)(hw:pubA A E ws E.sp i l s≠ .wild):
  Calls Tryz.prog 214 #[.pointer (some ⟨A.ab,0,none⟩)] w λe w'=>E.Post (pubA A E ws E.sp i l s) qbc F w e w':=by
 have hA0:=(AtF.start h).new ((Upd.refl (λ_=>False) w).drew);have hwd:=waa (qrb hA0.a.a hm);obtain⟨⟨c0,c1,c2,c3⟩,⟨-,c6,-⟩,-⟩:=h.a.cells;rw[h.eb] at c0;have heb:=h.eb;have hlt:=h.a.lt;have hFl:=waa (λk (hk:F k)=>h.i.lt hk);have hok:=h.a.ok;have hll:=qyk ws;replace hA0:=waa hA0;replace hw:=waa hw;clear h;go_enter Tryz.func214,Tryz.ntmps214;go_upto_region 0 with fail
 refine wp_region_held_drew (S:=(λU=>(U.cell? ⟨A.ab,0,none⟩=some (.pointer (some ⟨E.eb,0,none⟩))/\U.cell? ⟨A.ab,1,none⟩=some (.int .i64 A.s)/\U.cell? ⟨A.ab,2,none⟩=some (.int .i64 A.l)/\U.cell? ⟨A.ab,3,none⟩=some (.int .i64 A.r))/\U.cell? ⟨A.ab,6,none⟩=some (.int .i64 A.who))) Zk (⟨⟨c0,c1,c2,c3⟩,c6⟩) (λhHeld=>?_);refine wpAnyH_take (i:=0) (v:=?_) rfl Zk Zk Zk (λ_ _ _ h=>h) (Or.inl ⟨by rfl,?_⟩) Za ?_;rotate_left;(·intro u h;(try dsimp only at h);(try simp only[wab,wac]);go_simp;try with_reducible rfl);try simp only[Act.put,waf,wae,wag,wab,wac]
 refine wpAnyH_take (i:=1) (v:=?_) rfl Zk Zk Zk (λ_ _ _ h=>h) (Or.inl ⟨by rfl,?_⟩) Za ?_;rotate_left;(·intro u h;(try dsimp only at h);(try simp only[wab,wac,wad]);go_simp;try with_reducible rfl);try simp only[Act.put,waf,wae,wag,wab,wac,wad]
 refine wpAnyH_take (i:=2) (v:=?_) rfl Zk Zk Zk (λ_ _ _ h=>h) (Or.inl ⟨by rfl,?_⟩) Za ?_;rotate_left;(·intro u h;(try dsimp only at h);(try simp only[wab,wac,wad]);go_simp;try with_reducible rfl);try simp only[Act.put,waf,wae,wag,wab,wac,wad]
 refine wpAnyH_take (i:=3) (v:=?_) rfl Zk Zk Zk (λ_ _ _ h=>h) (Or.inl ⟨by rfl,?_⟩) Za ?_;rotate_left;(·intro u h;(try dsimp only at h);(try simp only[wab,wac,wad]);go_simp;try with_reducible rfl);try simp only[Act.put,waf,wae,wag,wab,wac,wad]
 refine wpAnyH_take (i:=4) (v:=?_) rfl Zk Zk Zk (λ_ _ _ h=>h) (Or.inl ⟨by rfl,?_⟩) Za ?_;rotate_left;(·intro u h;(try dsimp only at h);(try simp only[wab,wac,wad]);go_simp;try with_reducible rfl);try simp only[Act.put,waf,wae,wag,wab,wac,wad]
 refine wpAnyH_take (i:=5) (v:=?_) rfl Zk Zk Zk (λ_ _ _ h=>h) (Or.inl ⟨by rfl,?_⟩) Za ?_;rotate_left;(·intro u h;(try dsimp only at h);(try simp only[wab,wac,wad]);go_simp;try with_reducible rfl);try simp only[Act.put,waf,wae,wag,wab,wac,wad]
 refine wpAnyH_take (i:=6) (v:=?_) rfl Zk Zk Zk (λ_ _ _ h=>h) (Or.inl ⟨by rfl,?_⟩) Za ?_;rotate_left;(·intro u h;(try dsimp only at h);(try simp only[wab,wac,wad]);go_simp;try with_reducible rfl);try simp only[Act.put,waf,wae,wag,wab,wac,wad]
 refine wpAnyH_take (i:=7) (v:=?_) rfl Zk Zk Zk (λ_ _ _ h=>h) (Or.inl ⟨by rfl,?_⟩) Za ?_;rotate_left;(·intro u h;(try dsimp only at h);(try simp only[wab,wac,wad]);go_simp;try with_reducible rfl);try simp only[Act.put,waf,wae,wag,wab,wac,wad]
 refine wpAnyH_take (i:=8) (v:=?_) rfl Zk Zk Zk (λ_ _ _ h=>h) (Or.inl ⟨by rfl,?_⟩) Za ?_;rotate_left;(·intro u h;(try dsimp only at h);(try simp only[wab,wac,wad]);go_simp;try with_reducible rfl);try simp only[Act.put,waf,wae,wag,wab,wac,wad]
 refine wpAnyH_take (i:=9) (v:=?_) rfl Zk Zk Zk (λ_ _ _ h=>h) (Or.inl ⟨by rfl,?_⟩) Za ?_;rotate_left;(·intro u h;(try dsimp only at h);(try simp only[wab,wac,wad]);go_simp;try with_reducible rfl);try simp only[Act.put,waf,wae,wag,wab,wac,wad]
 refine wpAnyH_take (i:=10) (v:=?_) rfl Zk Zk Zk (λ_ _ _ h=>h) (Or.inl ⟨by rfl,?_⟩) Za ?_;rotate_left;(·intro u h;(try dsimp only at h);(try simp only[wab,wac,wad]);go_simp;try with_reducible rfl);try simp only[Act.put,waf,wae,wag,wab,wac,wad]
 refine wpAnyH_take (i:=11) (v:=?_) rfl Zk Zk Zk (λ_ _ _ h=>h) (Or.inl ⟨by rfl,?_⟩) Za ?_;rotate_left;(·intro u h;(try dsimp only at h);(try simp only[wab,wac,wad]);go_simp;try with_reducible rfl);try simp only[Act.put,waf,wae,wag,wab,wac,wad]
 refine wpAnyH_take (i:=12) (v:=?_) rfl Zk Zk Zk (λ_ _ _ h=>h) (Or.inl ⟨by rfl,?_⟩) Za ?_;rotate_left;(·intro u h;(try dsimp only at h);(try simp only[wab,wac,wad]);go_simp;try with_reducible rfl);try simp only[Act.put,waf,wae,wag,wab,wac,wad]
 refine wpAnyH_take (i:=13) (v:=?_) rfl Zk Zk Zk (λ_ _ _ h=>h) (Or.inl ⟨by rfl,?_⟩) Za ?_;rotate_left;(·intro u h;(try dsimp only at h);(try simp only[wab,wac,wad]);go_simp;try with_reducible rfl);try simp only[Act.put,waf,wae,wag,wab,wac,wad]
 refine wpAnyH_ready (rs:=[14]) Zk Zs ?_;refine AllReadyH.cons rfl (λK hK=>?_) AllReadyH.nil
 (try simp only[wab,wac,wad])
 go_simp
 refine hwd.out.mono ?_;rintro e V ⟨u,rfl,hrow,hB⟩;obtain⟨X,cap,rfl,hR⟩:=EsRd.of_own hrow;have hA1:=waa (hA0.out.below hB);have hX:∀q,X=some q->0<(qbf ws).length->¬F q.block:=λq hq hn e=>by
  subst hq;have h1:=hFl.out _ e;have h2:=(hrow.lt q.block rfl).1;have h3:w.drew.heap.size=w.heap.size:=rfl;omega
 have hth:=waa (ql9 (cap:=cap) hA1.out.a.i A.s A.l A.r A.who hR hX Zo (λe he=>(hok e (qj2 he)).2) (λe he=>(hok e (qj2 he)).1) (AP.tame hw.out));have k0:=((hB.cell (wal _ _ c0)).trans c0)
 have k1:=((hB.cell (wal _ _ c1)).trans c1)
 have k2:=((hB.cell (wal _ _ c2)).trans c2)
 have k3:=((hB.cell (wal _ _ c3)).trans c3)
 have k6:=((hB.cell (wal _ _ c6)).trans c6)
 clear hwd hA0 hrow hR hB;go_wp2_with fail;refine hK.out _ _ (⟨⟨k0,k1,k2,k3⟩,k6⟩) (λhHeld2=>?_);clear hK K hHeld;have hHeld:=hHeld2;clear hHeld2;try simp only[Act.put,waf,wae,wag,wab,wac,wad]
 refine wpAnyH_ready (rs:=[15]) Zk Zs ?_;refine AllReadyH.cons rfl (λK hK=>?_) AllReadyH.nil
 (try simp only[wab,wac,wad])
 go_simp
 refine hth.out.mono ?_;intro e V2 hpost;rcases hpost.done (AP.tame hw.out) with ⟨b,i2,l2,s2,x2,F2,ho2,rfl,rfl,hI2,hg2,hu2⟩|⟨bl,l2,s2,F2,ho2,rfl,hO2,hg2,hu2⟩
 rotate_left
 ·exact⟨rfl,qba (hA1.out.off hO2 hg2 hu2) (by unfold pubA;rw[AP.bind_stop ho2])⟩
 have hA2:=hA1.out.step hI2 hg2 hu2;have hfin:=waa (AtF.done (t:=pubA A E ws) (R:=qbc) (a:=()) (x:= .tuple #[]) hA2 (by unfold pubA;rw[AP.bind_done ho2];rfl) rfl);have hS:(λU=>(U.cell? ⟨A.ab,0,none⟩=some (.pointer (some ⟨E.eb,0,none⟩))/\U.cell? ⟨A.ab,1,none⟩=some (.int .i64 A.s)/\U.cell? ⟨A.ab,2,none⟩=some (.int .i64 A.l)/\U.cell? ⟨A.ab,3,none⟩=some (.int .i64 A.r))/\U.cell? ⟨A.ab,6,none⟩=some (.int .i64 A.who)) V2:=⟨⟨(hu2.cell (p:=⟨A.ab,0,none⟩) (wal _ _ k0) hA1.out.a.nF).trans k0,(hu2.cell (p:=⟨A.ab,1,none⟩) (wal _ _ k1) hA1.out.a.nF).trans k1,(hu2.cell (p:=⟨A.ab,2,none⟩) (wal _ _ k2) hA1.out.a.nF).trans k2,(hu2.cell (p:=⟨A.ab,3,none⟩) (wal _ _ k3) hA1.out.a.nF).trans k3⟩,(hu2.cell (p:=⟨A.ab,6,none⟩) (wal _ _ k6) hA1.out.a.nF).trans k6⟩
 clear hpost hI2 hg2 hu2 ho2 hA1 hth hA2;go_wp2_with fail;refine hK.out _ _ (hS) (λhHeld2=>?_);clear hK K hHeld;have hHeld:=hHeld2;clear hHeld2;try simp only[Act.put,waf,wae,wag,wab,wac,wad]
 refine wpAnyH_done Zk ?_ _;go_wp2_with fail;go_end0
 exact hfin.out
end
section
variable {τ:Type} {A:AC} {E:DP τ} {i i':Nat} {l l':List Nat} {s s':DM×τ} {F F':Nat->Prop} {v v':Value} {ws ws' es:List (Int×Nat)} {w w' w2:World} {e:Ending}
def fluA(E:DP τ)(es:List (Int×Nat)):AP (DM×τ) Unit:=(AP.each (qb4 E.n E.nl E.who) (qd4 (es.map (·.1)))).bind λ_=>qcs E.n E.nl E.who
def FluI(A:AC)(E:DP τ)(F:Nat->Prop)(v:Value)(ws:List (Int×Nat))(w:World)(i:Nat)(l:List Nat)(s:DM×τ)(X:Option Addr)(L:List Int)(j:Nat)(wr:World):Prop:=
 ∃i' l' s' F',AP.each (qb4 E.n E.nl E.who) (L.take j) E.sp i l s= .done () i' l' s'/\AtF A E F v ws w i' l' s' F' wr/\Rd wr X L.length (i64V L)/\∀p,X=some p->0<L.length->¬F' p.block/\p.block<wr.heap.size
theorem qqg(h:AIn A E i l s F v ws w){X:Option Addr}{cap N:Nat}(hes:EsRd w X N es)(hr:∀e∈es,0<=e.1/\e.1<16384)(hN:N<=60000)(hw:fluA E es E.sp i l s≠ .wild):
  Calls Tryz.prog 223 #[.pointer (some ⟨A.ab,0,none⟩),.slice X N cap] w λe w'=>E.Post (fluA E es E.sp i l s) qbc F w e w':=by
 have hli:=waa (qr9 (cap:=cap) hes hN);have hA0:=waa (AtF.start h);have hFl:=waa (λk (hk:F k)=>h.i.lt hk);have heb:=h.eb;replace hr:=waa hr;replace hw:=waa hw;clear h hes;go_enter Tryz.func223,Tryz.ntmps223;go_wp2_with fail;refine hli.out.mono ?_;rintro e V ⟨u,L,rfl,⟨hL1,hL2,hL3⟩,hrow,hB⟩;obtain⟨Y,cY,rfl,hR⟩:=Rd.of_own hrow;have hLc:L=qd4 (es.map (·.1)):=qlx (λz hz=>by
  obtain⟨e,he,rfl⟩:=wbb.1 hz;exact hr.out e he) hL1 hL2
 have hLn:L.length<=60000:=Zo
 have hw0:((AP.each (qb4 E.n E.nl E.who) L).bind λ_=>qcs E.n E.nl E.who) E.sp i l s≠ .wild:=by
  rw[hLc];exact hw.out
 have hob:fluA E es E.sp i l s=((AP.each (qb4 E.n E.nl E.who) L).bind λ_=>qcs E.n E.nl E.who) E.sp i l s:=by
  rw[hLc];rfl
 have hI0:Hid (FluI A E F v ws w i l s Y L 0 V):=waa ⟨i,l,s,F,rfl,hA0.out.below hB,hR,λp hp hn=>by
  subst hp;have h1:=hrow.lt p.block rfl;exact⟨λe=>by have:=hFl.out _ e;omega,h1.2⟩⟩
 replace hw0:=waa hw0;replace hob:=waa hob;clear hB hR hrow hL1 hL2 hL3 hLc hA0 hli hw hr hFl;generalize hlen:L.length=M at hLn ⊢;replace hlen:=waa hlen;go_wp2_with fail;go_loopg [9] M (λk s9 wr=>∃j:Nat,s9= .int .i64 (j:Int)/\M - j<=k/\j<=M/\Hid (FluI A E F v ws w i l s Y L j wr))
 case atStart=>exact⟨0,rfl,Zo,Zo,hI0⟩
 case round=>
  obtain⟨j,rfl,hk,hj,hI⟩:=hrel;obtain⟨i1,l1,s1,F1,hd1,hA1,hR1,hX1⟩:=hI.out;by_cases hlt:j<M
  ·have z1:(j:Int)<(M:Int):=Zo
   have z2:(0:Int)<=(j:Int):=Zo
   obtain⟨b,hb⟩:∃b,L[j]? =some b:=⟨_,wan (by rw[hlen.out];exact hlt)⟩
   obtain⟨p,rfl,hc⟩:=hR1.2 (by rw[hlen.out];omega);have cj:wr.cell? (p.add j)=some (.int .i64 b):=hc j _ (by unfold i64V;rw[way,hb];rfl);have hwf:qb4 E.n E.nl E.who b E.sp i1 l1 s1≠ .wild:=by
    have h:=AP.tame hw0.out;rw[AP.each_split _ hb] at h;exact AP.tame_next (f:=λ_=>qb4 E.n E.nl E.who b) (AP.tame h) hd1
   have hfl:=waa (ql8 hA1.a.i b hwf);obtain⟨⟨c0,-⟩,-⟩:=hA1.a.a.cells;rw[heb] at c0;have hI:=waa (And.intro hd1 (And.intro hA1 (And.intro hR1 (hX1 p rfl (by rw[hlen.out];omega)))));replace hb:=waa hb;clear hd1 hA1 hR1 hX1 hc hI0;go_wp2_with fail;refine hfl.out.mono ?_;intro e V2 hpost;obtain⟨hd1,hA1,hR1,hX1,hX2⟩:=hI.out;rcases DP.Post.done (t:=qb4 E.n E.nl E.who b) hpost hwf with ⟨u2,i2,l2,s2,x2,F2,ho2,rfl,rfl,hI2,hg2,hu2⟩|⟨bl,l2,s2,F2,ho2,rfl,hO2,hg2,hu2⟩
   rotate_left
   ·exact⟨rfl,qba (hA1.off hO2 hg2 hu2) (by rw[hob.out,AP.each_split _ hb.out];exact AP.bind_stop (AP.bind_stop (by rw[AP.bind_done hd1];exact ho2)))⟩
   have hJ:Hid (FluI A E F v ws w i l s (some p) L (j+1) V2):=waa ⟨i2,l2,s2,F2,by rw[AP.each_next _ hb.out,AP.bind_done hd1];exact ho2,hA1.step hI2 hg2 hu2,⟨hR1.1,λhn=>by
    obtain⟨q,hq,hc⟩:=hR1.2 hn;injection hq with hq;subst hq;refine⟨p,rfl,λk u hk=>?_⟩;have hpb:(p.add k).block=p.block:=by cases k<;>rfl
    rw[hu2.cell (by rw[hpb];exact hX2) (by rw[hpb];exact hX1)];exact hc k u hk⟩,λq hq hn=>by
    injection hq with hq;subst hq;exact⟨hg2.no hX2 hX1,wak hX2 hu2.size⟩⟩
   clear hpost hI2 hg2 hu2 hd1 hA1 hR1 hX1 hX2 hfl hI ho2;go_wp2_with fail;go_roundg (M - (j+1))
   case measure=>omega
   case rel=>exact⟨j+1,by go_num,wah _,Zo,hJ⟩
  ·have z1:¬(j:Int)<(M:Int):=Zo
   rw[wax (by rw[hlen.out];omega)] at hd1;have hwn:qcs E.n E.nl E.who E.sp i1 l1 s1≠ .wild:=AP.tame_next (f:=λ_=>qcs E.n E.nl E.who) hw0.out hd1;have hfe:=waa (qml hA1.a.i hwn);obtain⟨⟨c0,-⟩,-⟩:=hA1.a.a.cells;rw[heb] at c0;replace hA1:=waa hA1;clear hI hI0 hR1 hX1;go_wp2_with fail;refine hfe.out.mono ?_;intro e V2 hpost;rcases DP.Post.done (t:=qcs E.n E.nl E.who) hpost hwn with ⟨u2,i2,l2,s2,x2,F2,ho2,rfl,rfl,hI2,hg2,hu2⟩|⟨bl,l2,s2,F2,ho2,rfl,hO2,hg2,hu2⟩
   rotate_left
   ·exact⟨rfl,qba (hA1.out.off hO2 hg2 hu2) (by rw[hob.out,AP.bind_done hd1];exact ho2)⟩
   have hfin:=waa (AtF.done (t:=fluA E es) (R:=qbc) (a:=()) (x:= .tuple #[]) (hA1.out.step hI2 hg2 hu2) (by rw[hob.out,AP.bind_done hd1];exact ho2) rfl);clear hpost hI2 hg2 hu2 ho2 hA1 hfe hd1;go_wp2_with fail;go_end0
   exact hfin.out
end
end Go.Proofs.YtgjhkafggagniaaGreat
