/- Parts. No condition. -/
import Derived.Orders
import Derived.Deep.RegionLawGrows
import Derived.Test.YtgjhkafggagniaaGreatJoinV17
set_option linter.unusedVariables false
set_option maxRecDepth 100000
set_option maxHeartbeats 8000000
namespace Go.Proofs.YtgjhkafggagniaaGreat
open Go Go.RowKit
def qf0:Value->Option Nat
 | .slice (some p) _ _=>some p.block
 | .pointer (some p)=>some p.block
 |_=>none
def qfu(ops:Array Oper)(N:Nat):Bool:=
 (List.range ops.size).all λi=>match ops[i]? with
  |none=>true
  |some o=>o.guard.isNone&&o.after.all (λe=>!(Region.binds .any e)||decide (e.on<i))&&(match o.dst with
   |none=>false
   |some d=>decide (d<N)&&(List.range ops.size).all λj=>decide (j=i)||(ops[j]?).bind (·.dst) !=some d)
section
variable {P:Program} {ops:Array Oper} {Q:Exit->Act->World->Prop} {N:Nat}
theorem qgq(h:qfu ops N=true){i:Nat}{o:Oper}(ho:ops[i]? =some o):
  o.guard=none/\(∀e∈o.after,Region.binds .any e=true->e.on<i)/\∃d,o.dst=some d/\d<N/\∀j,j≠i->(ops[j]?).bind (·.dst)≠some d:=by
 have hi:i<ops.size:=(waj.1 ho).1;have h1:=wb0.1 h i (wcb.2 hi);rw[ho] at h1;simp only[wbp] at h1;obtain⟨⟨h2,h3⟩,h4⟩:=h1;refine⟨by simpa using h2,λe he hb=>?_,?_⟩
 ·obtain⟨k,hk,rfl⟩:=Array.mem_iff_getElem.1 he
  have:=Array.all_eq_true.1 h3 k hk
  rw[hb] at this;simpa using this
 ·cases hd:o.dst with
  |none=>rw[hd] at h4;cases h4
  |some d=>
   rw[hd] at h4;simp only[wbp] at h4;refine⟨d,rfl,by simpa using h4.1,λj hj=>?_⟩;by_cases hjs:j<ops.size
   ·have h5:=wb0.1 h4.2 j (wcb.2 hjs)
    simp only[Bool.or_eq_true,decide_eq_true_eq] at h5;rcases h5 with h5|h5
    ·exact absurd h5 hj
    ·exact bne_iff_ne.1 h5
   ·rw[wd5 Zo]
    simp
theorem qlj(h:qfu ops N=true){listed:Array Bool}(hs:listed.size=ops.size)(hr:Region.ready .any ops listed=[]):∀i,i<ops.size->listed.getD i false=true:=by
 intro i;induction i using Nat.strongRecOn with
 |ind i ih=>
  intro hi;have ho:=wb5 hi;obtain⟨-,h2,-⟩:=qgq h ho;cases hb:listed.getD i false with
  |true=>rfl
  |false=>
   have hb':listed.getD i true=false:=by
    have hl:i<listed.size:=Zo
    simp[Array.getD,hl] at hb ⊢
    exact hb
   have:i∈Region.ready .any ops listed:=mem_ready.2 ⟨hb',ops[i],ho,λe he hb=>ih e.on (h2 e he hb) (by have:=h2 e he hb;omega)⟩
   rw[hr] at this;cases this
theorem qs1{J:Array Bool->Act->World->Prop}(hok:qfu ops N=true)(hstep:∀listed a w i,J listed a w->listed.size=ops.size->i∈Region.ready .any ops listed->wpOp P ops Q i (λa' w'=>J (listed.setIfInBounds i true) a' w') a w)(hend:∀listed a w,J listed a w->(∀i,i<ops.size->listed.getD i false=true)->Q .normal a w):
  ∀(fuel:Nat) (listed:Array Bool) (a:Act) (w:World),listed.size=ops.size->listed.toList.countP (λb=>!b)<=fuel->J listed a w->wpAny P .any ops Q fuel listed a w:=by
 intro fuel;induction fuel with
 |zero=>
  intro listed a w hs hc hJ;have hr:Region.ready .any ops listed=[]:=by
   cases hr:Region.ready .any ops listed with
   |nil=>rfl
   |cons i r=>
    have hi:i∈Region.ready .any ops listed:=by rw[hr];exact wdn
    have h0:=(mem_ready.1 hi).1;have hl:i<listed.size:=by
     rcases wc6 i listed.size with h|h
     ·exact h
     ·simp[Array.getD,Nat.not_lt.2 h] at h0
    have h1:=List.countP_eq_zero.1 (Nat.le_zero.1 hc) listed[i] Zs;simp[Array.getD,hl] at h0
    rw[h0] at h1;simp at h1
  exact⟨hr,hend listed a w hJ (qlj hok hs hr)⟩
 |succ fuel ih=>
  intro listed a w hs hc hJ;refine⟨λhr=>hend listed a w hJ (qlj hok hs hr),λi hi=>?_⟩;refine wpOp_mono (λa' w' hJ'=>ih _ a' w' (by simp;exact hs) ?_ hJ') (hstep listed a w i hJ hs hi);have h0:=(mem_ready.1 hi).1;have hl:i<listed.size:=by
   rcases wc6 i listed.size with h|h
   ·exact h
   ·simp[Array.getD,Nat.not_lt.2 h] at h0
  simp[Array.getD,hl] at h0
  rw[wd6,List.countP_set (by simpa using hl)];simp only[Array.getElem_toList,h0,Bool.not_false,Bool.not_true,if_true,Bool.false_eq_true,if_false];omega
structure Each (ops:Array Oper) (R:Nat->Value->World->Prop) (mk:Nat->Bool) (a0:Act) (w0:World) (listed:Array Bool) (a:Act) (w:World):Prop where
 size:a.tmps.size=a0.tmps.size
 defers:a.defers=a0.defers
 keep:∀s,(∀i,listed.getD i false=true->(ops[i]?).bind (·.dst)≠some s)->a.tmps.getD s undef=a0.tmps.getD s undef
 below:Below w0.heap.size w0 w
 rel:∀i d,listed.getD i false=true->(ops[i]?).bind (·.dst)=some d->R i (a.tmps.getD d undef) w
 new:∀i d,listed.getD i false=true->mk i=true->(ops[i]?).bind (·.dst)=some d->∃b,qf0 (a.tmps.getD d undef)=some b/\w0.heap.size<=b/\b<w.heap.size
 apart:∀i j d e,i≠j->listed.getD i false=true->listed.getD j false=true->mk i=true->mk j=true->(ops[i]?).bind (·.dst)=some d->(ops[j]?).bind (·.dst)=some e->qf0 (a.tmps.getD d undef)≠qf0 (a.tmps.getD e undef)
variable {R:Nat->Value->World->Prop} {mk:Nat->Bool} {a0 a:Act} {w0 w w':World} {listed:Array Bool}
theorem qk3{a:Act}{d:Nat}(hd:d<a.tmps.size)(v:Value):(a.put (some d) v).tmps.getD d undef=v:=by
 simp[Act.put,Array.getD,hd]
theorem qfn{a:Act}{d s:Nat}(hd:d≠s)(v:Value):(a.put (some d) v).tmps.getD s undef=a.tmps.getD s undef:=by
 simp only[Act.put,wd7];rw[wbf hd]
theorem Each.step(h:Each ops R mk a0 w0 listed a w)(hok:qfu ops a0.tmps.size=true)(hmono:∀i v w w',R i v w->Below w.heap.size w w'->R i v w'){i:Nat}{o:Oper}(ho:ops[i]? =some o)(hl:i<listed.size){v:Value}(hR:R i v w')(hB:Below w.heap.size w w')(hn:mk i=true->∃b,qf0 v=some b/\w.heap.size<=b/\b<w'.heap.size):
  Each ops R mk a0 w0 (listed.setIfInBounds i true) (a.put o.dst v) w':=by
 obtain⟨-,-,d,hd,hdN,hdo⟩:=qgq hok ho;have hdi:(ops[i]?).bind (·.dst)=some d:=by rw[ho];exact hd
 have hda:d<a.tmps.size:=by rw[h.size];exact hdN
 rw[hd];have hli:∀j,j≠i->(listed.setIfInBounds i true).getD j false=listed.getD j false:=λj hj=>by
  simp only[wd7];rw[wbf (Ne.symm hj)]
 have hsl:∀j e,j≠i->(ops[j]?).bind (·.dst)=some e->(a.put (some d) v).tmps.getD e undef=a.tmps.getD e undef:=λj e hj he=>qfn (λhde=>hdo j hj (by rw[he,hde])) v
 have hsame:=qk3 hda v;refine⟨by simp[Act.put,h.size],by simp[Act.put,h.defers],λs hs=>?_,h.below.trans (hB.mono h.below.size),λj e hj he=>?_,λj e hj hm he=>?_,λj k e f hjk hj hk hm hm' he hf=>?_⟩
 ·have hsd:d≠s:=λe=>hs i (by simp[Array.getD,hl]) (by rw[hdi,e])
  rw[qfn hsd];refine h.keep s (λj hj=>?_);by_cases hji:j=i
  ·subst hji;rw[hdi];exact λe=>hsd (by injection e)
  ·exact hs j (by rw[hli j hji];exact hj)
 ·by_cases hji:j=i
  ·subst hji
   obtain rfl:d=e:=by rw[hdi] at he;injection he
   rw[hsame];exact hR
  ·rw[hli j hji] at hj
   rw[hsl j e hji he];exact hmono j _ w w' (h.rel j e hj he) hB
 ·by_cases hji:j=i
  ·subst hji
   obtain rfl:d=e:=by rw[hdi] at he;injection he
   rw[hsame];obtain⟨b,b1,b2,b3⟩:=hn hm;exact⟨b,b1,wam h.below.size b2,b3⟩
  ·rw[hli j hji] at hj
   rw[hsl j e hji he];obtain⟨b,b1,b2,b3⟩:=h.new j e hj hm he;exact⟨b,b1,b2,wak b3 hB.size⟩
 ·have key:∀j e,j≠i->listed.getD j false=true->mk j=true->mk i=true->(ops[j]?).bind (·.dst)=some e->qf0 v≠qf0 (a.tmps.getD e undef):=λj e _ hj hm hm' he=>by
   obtain⟨b,b1,b2,b3⟩:=hn hm';obtain⟨c,c1,c2,c3⟩:=h.new j e hj hm he;rw[b1,c1];exact λx=>by injection x with x;omega
  by_cases hji:j=i
  ·subst hji
   have hki:k≠j:=Ne.symm hjk;obtain rfl:d=e:=by rw[hdi] at he;injection he
   rw[hsame,hsl k f hki hf];exact key k f hki (by rw[<-hli k hki];exact hk) hm' hm hf
  ·by_cases hki:k=i
   ·subst hki
    obtain rfl:d=f:=by rw[hdi] at hf;injection hf
    rw[hsame,hsl j e hji he];exact Ne.symm (key j e hji (by rw[<-hli j hji];exact hj) hm hm' he)
   ·rw[hsl j e hji he,hsl k f hki hf]
    exact h.apart j k e f hjk (by rw[<-hli j hji];exact hj) (by rw[<-hli k hki];exact hk) hm hm' he hf
theorem qju{id:Nat}{a0:Act}{w0:World}(hm:P.follows .mixedOrders=true)(R:Nat->Value->World->Prop)(mk:Nat->Bool)(hok:qfu ops a0.tmps.size=true)(hmono:∀i v w w',R i v w->Below w.heap.size w w'->R i v w')(hstep:∀i o listed a w,ops[i]? =some o->Each ops R mk a0 w0.drew listed a w->(∀e∈o.after,Region.binds .any e=true->listed.getD e.on false=true)->
   ∀K:Act->World->Prop,(∀v w',R i v w'->Below w.heap.size w w'->(mk i=true->∃b,qf0 v=some b/\w.heap.size<=b/\b<w'.heap.size)->K (a.put o.dst v) w')->Oper.wp P o a w K Q)(hend:∀listed a w,Each ops R mk a0 w0.drew listed a w->(∀i,i<ops.size->listed.getD i false=true)->Q .normal a w):(Code.region id ops true).wp P Q a0 w0:=by
 refine wp_region_any hm (qs1 (J:=λlisted a w=>Each ops R mk a0 w0.drew listed a w) hok ?_ (λlisted a w hJ hall=>hend listed a w hJ hall) ops.size _ a0 w0.drew Zs ?_ ?_)
 ·intro listed a w i hJ hs hi
  obtain⟨h0,o,ho,hdeps⟩:=mem_ready.1 hi;have hl:i<listed.size:=by
   rcases wc6 i listed.size with h|h
   ·exact h
   ·simp[Array.getD,Nat.not_lt.2 h] at h0
  unfold wpOp;simp only[ho];rw[if_pos (by simp[Region.wanted,(qgq hok ho).1])];exact .inl (hstep i o listed a w ho hJ hdeps _ (λv w' hR hB hn=>hJ.step hok hmono ho hl hR hB hn))
 ·exact wam (List.countP_le_length) Zs
 ·have hno:∀i,(Array.replicate ops.size false).getD i false=false:=λi=>by
   simp only[wd7,Array.getElem?_replicate];split<;>rfl
  exact⟨rfl,rfl,λ_ _=>rfl,wai _ _,λi d h _=>(by rw[hno] at h;cases h),λi d h _ _=>(by rw[hno] at h;cases h),λi j d e _ h _ _ _ _ _=>(by rw[hno] at h;cases h)⟩
end
theorem qev{P:Program}{o:Oper}{a:Act}{w w':World}{v:Value}{K:Act->World->Prop}{Q:Exit->Act->World->Prop}(h:(execOp a.eval o).run P w= .ok (.value v) w')(hK:K (a.put o.dst v) w'):Oper.wp P o a w K Q:=by
 unfold Oper.wp;rw[h];exact hK
def q2m(ops:Array Oper)(s:Nat):Bool:=(List.range ops.size).all λi=>(ops[i]?).bind (·.dst) !=some s
theorem Each.kept{ops:Array Oper}{R:Nat->Value->World->Prop}{mk:Nat->Bool}{a0 a:Act}{w0 w:World}{listed:Array Bool}(h:Each ops R mk a0 w0 listed a w){s:Nat}(hs:q2m ops s=true):a.tmps.getD s undef=a0.tmps.getD s undef:=
 h.keep s (λi _=>by
  by_cases hi:i<ops.size
  ·exact bne_iff_ne.1 (wb0.1 hs i (wcb.2 hi))
  ·rw[wd5 Zo]
   simp)
def PartsR(B:Nat)(s l r t:Int)(ev:Value)(es:List (Int×Nat))(g:Nat)(v1 v2 v4:Value)(V:World):Prop:=
 B<=g/\V.heap[g]? =some (.cells #[v1,v2,ev,v4] 155 (0,0))/\V.ownsRow B 169 2 v1 (logW es).length (eV (wrL (entN s l r t 0) (logW es)))/\V.ownsRow B 169 2 v2 1 (eV [(qa3 s l r t,qc5 es)])/\V.ownsRow B 169 2 v4 1 (eV [(qa3 s l r t,0)])
theorem PartsR.below{B:Nat}{s l r t:Int}{ev:Value}{es:List (Int×Nat)}{g:Nat}{v1 v2 v4:Value}{V V':World}(h:PartsR B s l r t ev es g v1 v2 v4 V)(hb:Below V.heap.size V V'):PartsR B s l r t ev es g v1 v2 v4 V':=
 ⟨h.1,(hb.block g (waj.1 h.2.1).1).trans h.2.1,qa1 h.2.2.1 hb,qa1 h.2.2.2.1 hb,qa1 h.2.2.2.2 hb⟩
def qsf(B:Nat)(s l r t:Int)(ev:Value)(es:List (Int×Nat)):Nat->Value->World->Prop
 |0,v,_=>v= .agg #[.int .i64 s,.int .i64 l,.int .i64 r]
 |1,v,_=>v= .int .i64 t
 |2,v,_=>v=ev
 |3,v,V=>V.ownsRow B 169 2 v (logW es).length (eV (wrL (entN s l r t 0) (logW es)))
 |4,v,_=>v= .agg #[.int .i64 s,.int .i64 l,.int .i64 r]
 |5,v,_=>v= .int .i64 t
 |6,v,_=>v=ev
 |7,v,_=>v= .int .u64 ((qc5 es:Nat):Int)
 |8,v,V=>V.ownsRow B 169 2 v 1 (eV [(qa3 s l r t,qc5 es)])
 |9,v,_=>v=ev
 |10,v,_=>v= .agg #[.int .i64 s,.int .i64 l,.int .i64 r]
 |11,v,_=>v= .int .i64 t
 |12,v,V=>V.ownsRow B 169 2 v 1 (eV [(qa3 s l r t,0)])
 |_,v,V=>∃g v1 v2 v4,v= .slice (some ⟨g,0,none⟩) 4 4/\PartsR B s l r t ev es g v1 v2 v4 V
theorem qqo{B:Nat}{s l r t:Int}{ev:Value}{es:List (Int×Nat)}:∀(i:Nat) (v:Value) (w w':World),qsf B s l r t ev es i v w->Below w.heap.size w w'->qsf B s l r t ev es i v w':=by
 intro i v w w' h hB;have last:(∃g v1 v2 v4,v= .slice (some ⟨g,0,none⟩) 4 4/\PartsR B s l r t ev es g v1 v2 v4 w)->(∃g v1 v2 v4,v= .slice (some ⟨g,0,none⟩) 4 4/\PartsR B s l r t ev es g v1 v2 v4 w'):=by
  rintro⟨g,v1,v2,v4,h1,h2⟩;exact⟨g,v1,v2,v4,h1,h2.below hB⟩
 match i,h with
 |0,h=>exact h
 |1,h=>exact h
 |2,h=>exact h
 |3,h=>exact qa1 h hB
 |4,h=>exact h
 |5,h=>exact h
 |6,h=>exact h
 |7,h=>exact h
 |8,h=>exact qa1 h hB
 |9,h=>exact h
 |10,h=>exact h
 |11,h=>exact h
 |12,h=>exact qa1 h hB
 |13,h=>exact last h
 |k+14,h=>exact last h
theorem qqm{A:Option Addr}{cap N:Nat}{es:List (Int×Nat)}{w:World}(s l r t:Int)(h:EsRd w A N es)(hm:N<=9223372036854775807)(hx:∀e∈es,e.2<18446744073709551616):
  Calls Tryz.prog 322 #[.agg #[.int .i64 s,.int .i64 l,.int .i64 r],.int .i64 t,.slice A N cap] w λe w'=>∃g v1 v2 v4,e= .returned (.slice (some ⟨g,0,none⟩) 4 4)/\PartsR w.heap.size s l r t (.slice A N cap) es g v1 v2 v4 w'/\Below w.heap.size w w':=by
 have hN:=h.1;have hB0:=(wai w.heap.size w).alloc (wah _) (.cells #[.int .i64 s,.int .i64 l,.int .i64 r] 36);have hg0:=waa (Gi.new w s l r);have h0:=waa (h.below hB0);have hseal:=waa (λV (hV:EsRd V A N es)=>show Calls Tryz.prog 364 #[.slice A N cap] V λe w'=>e= .returned (.int .u64 ((qc5 es:Nat):Int))/\Below V.heap.size V w' from by
  subst hN;exact qut A cap es V hV hm hx)
 replace hB0:=waa hB0;replace hN:=waa hN;have hx':=waa hx;clear h hx;go_enter Tryz.func322,Tryz.ntmps322;go_wp2_with fail;generalize hW:w.alloc (.cells #[.int .i64 s,.int .i64 l,.int .i64 r] 36)=W at hB0 hg0 h0 ⊢;clear hW;have hgd:=waa (show Gi W.drew w.heap.size s l r from hg0.out);have h0d:=waa (show EsRd W.drew A N es from h0.out);have hBd:=waa hB0.out.drew;refine qju Zk (qsf w.heap.size s l r t (.slice A N cap) es) (λ_=>false) (by show qfu _ 21=true;kernel_rfl) qqo ?_ ?_
 ·intro i o listed a w1 ho hE hd K hK
  have e0:a.tmps.getD 3 undef= .pointer (some ⟨w.heap.size,0,none⟩):=hE.kept Zk;have e1:a.tmps.getD 1 undef= .int .i64 t:=hE.kept Zk;have e2:a.tmps.getD 2 undef= .slice A N cap:=hE.kept Zk;have hi:i<15:=(waj.1 ho).1;have hBw:=hE.below;have hle:w.heap.size<=w1.heap.size:=wam hBd.out.size hBw.size;have hg1:=hgd.out.below hBw hgd.out.lt;obtain⟨c0,c1,c2,cf⟩:=hg1.cells;have hes:=waa (h0d.out.below hBw);match i,hi with
  |0,_=>
   simp at ho
   subst ho;clear hE hd;unfold Oper.wp;go_simp
   exact hK _ _ rfl (wai _ _) (λh=>by cases h)
  |1,_=>
   simp at ho
   subst ho;exact qev (v:= .int .i64 t) (w':=w1) (by rw[<-e1];rfl) (hK _ _ rfl (wai _ _) (λh=>by cases h))
  |2,_=>
   simp at ho
   subst ho;exact qev (v:= .slice A N cap) (w':=w1) (by rw[<-e2];rfl) (hK _ _ rfl (wai _ _) (λh=>by cases h))
  |3,_=>
   simp at ho
   subst ho;have d0:a.tmps.getD 7 undef=_:=hE.rel 0 7 (hd ⟨0,.data⟩ Zs rfl) rfl;have d1:a.tmps.getD 8 undef=_:=hE.rel 1 8 (hd ⟨1,.data⟩ Zs rfl) rfl;have d2:a.tmps.getD 9 undef=_:=hE.rel 2 9 (hd ⟨2,.data⟩ Zs rfl) rfl;clear hE hd;unfold Oper.wp;go_simp
   refine(qrl s l r t hes.out hm hx'.out).mono ?_;rintro e w2 ⟨v,rfl,hrow,hB2⟩;exact hK _ _ (qbb hrow hle) hB2 (λh=>by cases h)
  |4,_=>
   simp at ho
   subst ho;clear hE hd;unfold Oper.wp;go_simp
   exact hK _ _ rfl (wai _ _) (λh=>by cases h)
  |5,_=>
   simp at ho
   subst ho;exact qev (v:= .int .i64 t) (w':=w1) (by rw[<-e1];rfl) (hK _ _ rfl (wai _ _) (λh=>by cases h))
  |6,_=>
   simp at ho
   subst ho;exact qev (v:= .slice A N cap) (w':=w1) (by rw[<-e2];rfl) (hK _ _ rfl (wai _ _) (λh=>by cases h))
  |7,_=>
   simp at ho
   subst ho;have d0:a.tmps.getD 13 undef=_:=hE.rel 6 13 (hd ⟨6,.data⟩ Zs rfl) rfl;clear hE hd;unfold Oper.wp;go_simp
   refine(hseal.out _ hes.out).mono ?_;rintro e w2 ⟨rfl,hB2⟩;exact hK _ _ rfl hB2 (λh=>by cases h)
  |8,_=>
   simp at ho
   subst ho;have d0:a.tmps.getD 11 undef=_:=hE.rel 4 11 (hd ⟨4,.data⟩ Zs rfl) rfl;have d1:a.tmps.getD 12 undef=_:=hE.rel 5 12 (hd ⟨5,.data⟩ Zs rfl) rfl;have d2:a.tmps.getD 14 undef=_:=hE.rel 7 14 (hd ⟨7,.data⟩ Zs rfl) rfl;clear hE hd;unfold Oper.wp;go_simp
   refine(qka s l r t (qc5 es) w1).mono ?_;rintro e w2 ⟨g,rfl,hrow,hB2⟩;exact hK _ _ (qbb hrow hle) hB2 (λh=>by cases h)
  |9,_=>
   simp at ho
   subst ho;exact qev (v:= .slice A N cap) (w':=w1) (by rw[<-e2];rfl) (hK _ _ rfl (wai _ _) (λh=>by cases h))
  |10,_=>
   simp at ho
   subst ho;clear hE hd;unfold Oper.wp;go_simp
   exact hK _ _ rfl (wai _ _) (λh=>by cases h)
  |11,_=>
   simp at ho
   subst ho;exact qev (v:= .int .i64 t) (w':=w1) (by rw[<-e1];rfl) (hK _ _ rfl (wai _ _) (λh=>by cases h))
  |12,_=>
   simp at ho
   subst ho;have d0:a.tmps.getD 17 undef=_:=hE.rel 10 17 (hd ⟨10,.data⟩ Zs rfl) rfl;have d1:a.tmps.getD 18 undef=_:=hE.rel 11 18 (hd ⟨11,.data⟩ Zs rfl) rfl;clear hE hd;unfold Oper.wp;go_simp
   refine(qka s l r t 0 w1).mono ?_;rintro e w2 ⟨g,rfl,hrow,hB2⟩;exact hK _ _ (qbb hrow hle) hB2 (λh=>by cases h)
  |13,_=>
   simp at ho
   subst ho;have r1:=hE.rel 3 10 (hd ⟨3,.data⟩ Zs rfl) rfl;have r2:=hE.rel 8 15 (hd ⟨8,.data⟩ Zs rfl) rfl;have d2:a.tmps.getD 16 undef=_:=hE.rel 9 16 (hd ⟨9,.data⟩ Zs rfl) rfl;have r4:=hE.rel 12 19 (hd ⟨12,.data⟩ Zs rfl) rfl;clear hE hd;obtain⟨A1,c1',q1,-⟩:=EsRd.of_own r1;obtain⟨A2,c2',q2,-⟩:=EsRd.of_own r2;obtain⟨A4,c4',q4,-⟩:=EsRd.of_own r4;have r1:w1.ownsRow w.heap.size 169 2 (a.tmps.getD 10 undef) (logW es).length (eV (wrL (entN s l r t 0) (logW es))):=r1;have r2:w1.ownsRow w.heap.size 169 2 (a.tmps.getD 15 undef) 1 (eV [(qa3 s l r t,qc5 es)]):=r2;have r4:w1.ownsRow w.heap.size 169 2 (a.tmps.getD 19 undef) 1 (eV [(qa3 s l r t,0)]):=r4;rw[q1] at r1;rw[q2] at r2;rw[q4] at r4;replace r1:=waa r1;replace r2:=waa r2;replace r4:=waa r4;have hP:PartsR w.heap.size s l r t (.slice A N cap) es w1.heap.size (.slice A1 (logW es).length c1') (.slice A2 1 c2') (.slice A4 1 c4') (w1.alloc (.cells #[.slice A1 (logW es).length c1',.slice A2 1 c2',.slice A N cap,.slice A4 1 c4'] 155)):=
    ⟨hle,qad rfl _ _,r1.out.alloc _,r2.out.alloc _,r4.out.alloc _⟩
   replace hP:=waa hP;clear r1 r2 r4;generalize (logW es).length=M1 at q1 hP;rw[wd7] at q1 q2 d2 q4;unfold Oper.wp;go_simp
   exact hK _ _ ⟨_,_,_,_,rfl,hP.out⟩ ((wai _ _).alloc (wah _) _) (λh=>by cases h)
  |14,_=>
   simp at ho
   subst ho;obtain⟨g,v1,v2,v4,q,hP⟩:=hE.rel 13 20 (hd ⟨13,.data⟩ Zs rfl) rfl;clear hE hd;exact qev (v:= .slice (some ⟨g,0,none⟩) 4 4) (w':=w1) (by rw[<-q];rfl) (hK _ _ ⟨g,v1,v2,v4,rfl,hP⟩ (wai _ _) (λh=>by cases h))
 ·intro listed a w2 hE hall
  have hs:a.tmps.size=21:=hE.size;have hdf:a.defers=[]:=hE.defers;obtain⟨g,v1,v2,v4,q,hP⟩:=hE.rel 14 6 (hall 14 Zd) rfl;have hBf:=waa (hBd.out.trans (hE.below.mono hBd.out.size));clear hE hall;replace hP:=waa hP;obtain⟨⟨L⟩,df⟩:=a;have hs:L.length=21:=hs;have hdf:df=[]:=hdf;subst hdf;match L,hs with
  |[x0,x1,x2,x3,x4,x5,x6,x7,x8,x9,x10,x11,x12,x13,x14,x15,x16,x17,x18,x19,x20],_=>
   have q:x6=_:=q;subst q;go_wp2_with fail;go_ret;exact⟨g,rfl,⟨v1,v2,v4,hP.out⟩,hBf.out⟩
theorem qou(v:Value)(w:World):(Instr.typeAssert (.iface 163 v) 20 163 true).run Tryz.prog w= .ok (.tuple #[v,.bool true]) w:=by
 simp[Instr.typeAssert,Sem.run_bind,run_underlying Tryz.underlying163,Result.andThen]
theorem qwy(a:Addr)(w:World):(Go.binOp .neq 153 (.pointer (some a)) (.pointer (some a))).run Tryz.prog w= .ok (.bool false) w:=by
 have h:∀d:Nat,(Op.equalIn (d+1) 153 (.pointer (some a)) (.pointer (some a))).run Tryz.prog w= .ok true w:=λd=>by
  simp[Op.equalIn,run_underlying Tryz.underlying153,sameAddr]
 simp[Go.binOp,Op.equal,Op.maxDepth,h 9999]
section
variable {w w':World} {i:Nat}
theorem qgh{o:Option Nat}{who:Int}{fs:Value}{st bl b0:Bool}{eb be bb:Nat}(hE:EvR w eb o who i fs st bl)(he:Boxed w be 153 (.pointer (some ⟨eb,0,none⟩)))(hb:Boxed w bb 4 (.bool b0)):
  CallsD Tryz.prog 72 #[.pointer (some ⟨be,0,none⟩),.pointer (some ⟨bb,0,none⟩)] .returning w λe u' w'=>e= .returned (.tuple #[])/\u'= .returning/\Boxed w' bb 4 (.bool bl)/\Upd (λk=>k=eb\/k=bb) w w':=by
 obtain⟨c0,-,-,-,-,c5,cf⟩:=hE.cells;have e0:=he.cell;have b0':=hb.cell;have bf:=hb.frozen;have hne:¬be=eb:=qaq he hE Zd;have hne2:¬bb=eb:=qaq hb hE Zd;have hne3:¬be=bb:=qaq he hb Zd;refine callsD_of_wpS Tryz.func72 rfl λc₀ cs hu=>?_
 simp only[Tryz.ntmps72,wa8,waz,wb2,Nat.reduceAdd,Nat.reduceSub,wcr,wcs,wct,wcu,wa7,wbt];apply wpS_seq
 apply wpS_region
 simp[wpOpsS,go_sem,Exit.thenS, *]
 apply wpS_seq
 apply wpS_region
 simp[wpOpsS,go_sem,Exit.thenS, *]
 apply wpS_seq
 apply wpS_region
 simp[wpOpsS,go_sem,recoverD,Exit.thenS, *]
 apply wpS_seq
 apply wpS_region
 simp[wpOpsS,go_sem,Exit.thenS]
 refine wpS_cond (t:=false) (by simp[Act.eval]) ?_;simp only[Bool.false_eq_true,if_false];refine wpS_of_wp (wp_skip ?_);have hu2:Upd (λk=>k=eb\/k=bb) w ((w.setCell ⟨eb,0,none⟩ (.pointer none)).setCell ⟨bb,0,none⟩ (.bool bl)):=((Upd.refl (λk=>k=eb\/k=bb) w).setCell (p:=⟨eb,0,none⟩) (.inl (.inl rfl)) _).setCell (p:=⟨bb,0,none⟩) (.inl (.inr rfl)) _;have hb1:Boxed (w.setCell ⟨eb,0,none⟩ (.pointer none)) bb 4 (.bool b0):=qac hb ((Upd.refl (λk=>k=eb) w).setCell (p:=⟨eb,0,none⟩) (.inl rfl) _) hne2;cases c₀
 simp at hu
 subst hu;simp[bodyPostS,results,Tryz.results72]
 exact⟨hb1.set _,hu2⟩
theorem qgr{o:Option Nat}{who:Int}{fs:Value}{st bl b0:Bool}{eb be bb:Nat}(hE:EvR w eb o who i fs st bl)(he:Boxed w be 153 (.pointer (some ⟨eb,0,none⟩)))(hb:Boxed w bb 4 (.bool b0)):
  CallsD Tryz.prog 72 #[.pointer (some ⟨be,0,none⟩),.pointer (some ⟨bb,0,none⟩)] (.panicking (qbs eb)) w λe u' w'=>e= .returned (.tuple #[])/\settle u'= .returning/\Boxed w' bb 4 (.bool bl)/\Upd (λk=>k=eb\/k=bb) w w':=by
 obtain⟨c0,-,-,-,-,c5,cf⟩:=hE.cells;have e0:=he.cell;have b0':=hb.cell;have bf:=hb.frozen;have hne:¬be=eb:=qaq he hE Zd;have hne2:¬bb=eb:=qaq hb hE Zd;have hne3:¬be=bb:=qaq he hb Zd;refine callsD_of_wpS Tryz.func72 rfl λc₀ cs hu=>?_
 simp only[Tryz.ntmps72,wa8,waz,wb2,Nat.reduceAdd,Nat.reduceSub,wcr,wcs,wct,wcu,wa7,wbt];unfold qbs at hu;apply wpS_seq
 apply wpS_region
 simp[wpOpsS,go_sem,Exit.thenS, *]
 apply wpS_seq
 apply wpS_region
 simp[wpOpsS,go_sem,Exit.thenS, *]
 apply wpS_seq
 apply wpS_region
 simp[wpOpsS,go_sem,recoverD,Exit.thenS, *]
 have hta:=λV=>qou (.agg #[.pointer (some ⟨eb,0,none⟩)]) V
 have hu1:Upd (λk=>k=eb) w (w.setCell ⟨eb,0,none⟩ (.pointer none)):=(Upd.refl (λk=>k=eb) w).setCell (p:=⟨eb,0,none⟩) (.inl rfl) _;have hb1:Boxed (w.setCell ⟨eb,0,none⟩ (.pointer none)) bb 4 (.bool b0):=qac hb hu1 hne2;have hu2:Upd (λk=>k=eb\/k=bb) w ((w.setCell ⟨eb,0,none⟩ (.pointer none)).setCell ⟨bb,0,none⟩ (.bool bl)):=((Upd.refl (λk=>k=eb\/k=bb) w).setCell (p:=⟨eb,0,none⟩) (.inl (.inl rfl)) _).setCell (p:=⟨bb,0,none⟩) (.inl (.inr rfl)) _;have hb3:Boxed ((w.setCell ⟨eb,0,none⟩ (.pointer none)).setCell ⟨bb,0,none⟩ (.bool bl)) bb 4 (.bool bl):=hb1.set _;have he3:=qac he hu2 (λe=>e.elim hne hne3);generalize (w.setCell ⟨eb,0,none⟩ (.pointer none)).setCell ⟨bb,0,none⟩ (.bool bl)=W3 at hu2 hb3 he3 ⊢;have he4:=qac he3 ((Upd.refl (λ_=>False) W3).alloc (.cells #[.pointer (some ⟨eb,0,none⟩)] 163)) (λe=>e);have z1:=he4.cell;have hb4:=waa (qac hb3 ((Upd.refl (λ_=>False) W3).alloc (.cells #[.pointer (some ⟨eb,0,none⟩)] 163)) (λe=>e));have hu4:=waa (hu2.alloc (.cells #[.pointer (some ⟨eb,0,none⟩)] 163));clear hu1 hb1 c0 c5 cf e0 b0' bf hne hne2 hne3 hE he hb he4 hb3 hu2 he3;have hpq:=λV=>qwy ⟨eb,0,none⟩ V
 refine wpS_of_wp ?_;go_wp2_with fail;simp[bodyPostS,results,Tryz.results72]
 exact⟨rfl,hb4.out,hu4.out⟩
end
theorem qna(k:FuncId)(cs:Array Value)(w:World):(Go.binOp .neq 93 (.func (.func k) #[] cs) .nilFunc).run Tryz.prog w= .ok (.bool true) w:=by
 have h:∀d:Nat,(Op.equalIn (d+1) 93 (.func (.func k) #[] cs) .nilFunc).run Tryz.prog w= .ok false w:=λd=>by
  simp[Op.equalIn,run_underlying Tryz.underlying93]
 simp[Go.binOp,Op.equal,Op.maxDepth,h 9999]
theorem qii{w:World}{v:Value}{base:Nat}{T:List Nat}(h:w.ownsRow base 40 1 v T.length (u64V T))(hz:T.length=0->v= .slice none 0 0)(hT:T.length<=2000):
  Calls Tryz.prog 43 #[v] w λe w'=>∃v',e= .returned v'/\w'.ownsRow w.heap.size 40 1 v' T.length (u64V T)/\(T.length=0->v'= .slice none 0 0)/\Below w.heap.size w w':=by
 by_cases h0:T.length=0
 ·rw[hz h0]
  refine(qp9 w).mono ?_;rintro e w' ⟨he,rfl⟩;exact⟨_,he,⟨by rw[qat,wbr],.inl ⟨rfl,h0⟩⟩,λ_=>rfl,wai _ _⟩
 ·obtain⟨A,cap,rfl,hcap,hR⟩:=qr2 h
  obtain⟨p,rfl,-⟩:=hR.2 Zo;refine(qoo p T.length cap T w hR rfl Zo hT hcap).mono ?_;rintro e w' ⟨g,c,he,ho,hB⟩;exact⟨_,he,ho,λe=>absurd e h0,hB⟩
theorem RnP.ended{w:World}{lv:Value}{l:List Nat}{X rp tp:Nat}{who:Int}{df an0 an:Value}(h:RnP w X rp tp who df lv l false an0):RnP ((w.setCell ⟨X,5,none⟩ (.bool true)).setCell ⟨X,6,none⟩ an) X rp tp who df lv l true an:=by
 obtain⟨h1,h2⟩:=h;refine⟨by rw[qaj (qaj h1 _ _)];rfl,?_⟩;have hX:∀{W:World} {j:Nat} {u:Value},W.ownsRow (X+1) 324 2 lv l.length (qd3 l)->(W.setCell ⟨X,j,none⟩ u).ownsRow (X+1) 324 2 lv l.length (qd3 l):=λ{W j u} h=>h.kept (qd2 W ⟨X,j,none⟩ u) (by
  cases hb:lv.ownBlock with
  |none=>exact .inl rfl
  |some g=>exact .inr (λe=>by injection e with e;have:=(h.lt g hb).1;simp at e;omega))
 exact hX (hX h2)
section
variable {τ:Type} {E:DP τ} {i:Nat} {l:List Nat} {s:DM×τ} {F:Nat->Prop} {w w':World}
def ansR(T:List Nat)(v:Value)(w:World):Prop:=(∃base,w.ownsRow base 40 1 v T.length (u64V T))/\(T.length=0->v= .slice none 0 0)/\T.length<=2000
def DP.Done(E:DP τ)(l:List Nat)(s:DM×τ)(T:List Nat)(F:Nat->Prop)(w:World):Prop:=
 ∃lv G an,(∃i,EvR w E.eb (some E.X) E.who i E.fs false false)/\RnP w E.X E.p E.tp E.who E.df lv l true an/\E.Mem (E.c0+l.length) s G w/\E.Cov lv G F w/\(∀k,an.ownBlock=some k->F k)/\
  w.ownsRow (E.X+1) 40 1 an T.length (u64V T)/\(T.length=0->an= .slice none 0 0)/\∀y∈l,y<18446744073709551616
def DP.EndO(E:DP τ)(F:Nat->Prop)(w:World)(e:Ending)(w':World):Out (DM×τ) (List Nat)->Prop
 | .done T i l s=>e= .returned (.tuple #[])/\∃F',E.Done l s T F' w'/\Grows F F' w
 | .stop bl l s=>∃F',e= .panicked (qbs E.eb)/\E.Off bl l s F' w'/\Grows F F' w
 | .wild=>True
def DP.End(E:DP τ)(o:Out (DM×τ) (List Nat))(F:Nat->Prop)(w:World)(e:Ending)(w':World):Prop:=Upd F w w'/\E.EndO F w e w' o
theorem qh5{DF:Nat}{caps:Array Value}{t:AP (DM×τ) (List Nat)}(hen:∀(args:Array Value) (w:World),(callFunc DF args).run Tryz.prog w= .ok (.enter DF args) w)(h:E.In i l s F w)(hdf:E.df= .func (.func DF) #[] caps)(hw:t E.sp i l s≠ .wild)(hdeed:Calls Tryz.prog DF (#[.pointer (some ⟨E.eb,0,none⟩)]++caps) w λe w'=>E.Post (t E.sp i l s) ansR F w e w'):
  Calls Tryz.prog 73 #[.pointer (some ⟨E.X,0,none⟩),.pointer (some ⟨E.eb,0,none⟩)] w λe w'=>E.End (t E.sp i l s) F w e w':=by
 have hnil:=λV=>qna DF caps V
 have hdeed:=waa hdeed;have hw:=waa hw;obtain⟨lv0,G0,-,-,hR0,-⟩:=h;obtain⟨-,-,-,x3,-,-,-,-⟩:=hR0.cells;rw[hdf] at x3;clear hR0 hdf;go_enter Tryz.func73,Tryz.ntmps73;go_wp2_with fail;refine hdeed.out.mono ?_;rintro e V hpost;rcases hpost.done hw.out with ⟨T,i',l',s',v,F',ho,rfl,hA,hI,hg,hu⟩|⟨bl,l',s',F',ho,rfl,hO,hg,hu⟩
 ·obtain⟨⟨base,hrow⟩,hz,hT⟩:=hA
  have hcl:=waa (qii hrow hz hT);have hEv:=hI;obtain⟨lv,G,hEv,-⟩:=hEv;obtain⟨-,-,-,-,e4,-,-⟩:=hEv.cells;have hI:=waa hI;have ho:=waa ho;have hg:=waa hg;have hu:=waa hu;clear hrow hz hT hEv hpost;go_wp2_with fail;refine hcl.out.mono ?_;rintro e V2 ⟨v',rfl,hrow2,hz2,hB⟩;obtain⟨AV,cV,hv',-⟩:=Rd.of_own hrow2;generalize hNT:T.length=NT at hv';subst hv';have hu2:Upd (λ_=>False) V V2:=Upd.of_below hB (wah _);have hI2:=hI.out.new hu2;obtain⟨lv,G,k1,k2,k3,k4,k5,k6⟩:=hI2;obtain⟨-,-,-,-,-,x5,x6,xf⟩:=k3.cells;have hpX:¬E.ps E.X:=k4.1.not k3.1 Zd Zd Zd (.inl Zd);have hGX:¬G E.X:=λe=>(E.exNot _ _ _ _ _ _ _ k4.2 e k3.1).2.1 rfl
  have hXe:E.X≠E.eb:=qaq k3.1 k1 Zd;have hu3:Upd (λk=>k=E.X) V2 ((V2.setCell ⟨E.X,5,none⟩ (.bool true)).setCell ⟨E.X,6,none⟩ (.slice AV NT cV)):=((Upd.refl (λk=>k=E.X) V2).setCell (p:=⟨E.X,5,none⟩) (.inl rfl) _).setCell (p:=⟨E.X,6,none⟩) (.inl rfl) _;have hXV:E.X<V.heap.size:=hI.out.lt (k5.1 _ (.inr (.inr (.inr (.inl rfl)))));have hrow3:=qa5 hrow2 hu3 (λk hk e=>by have:=(hrow2.lt k hk).1;omega);have hfin:E.Done l' s' T (λk=>F' k\/(Value.slice AV NT cV).ownBlock=some k) ((V2.setCell ⟨E.X,5,none⟩ (.bool true)).setCell ⟨E.X,6,none⟩ (.slice AV NT cV)):=
   ⟨lv,G,_,⟨_,k1.upd hu3 (λe=>hXe e.symm)⟩,k3.ended,k4.upd hu3 (λk hk e=>hpX (e▸hk)) (λk hk e=>hGX (e▸hk)),
    ⟨λk hk=> .inl (k5.1 k hk),λk hk=>hk.elim (λhk=>wak (k5.2.1 k hk) hu3.size) (λhk=>wak (hrow2.lt k hk).2 hu3.size),k5.2.2⟩,λk hk=> .inr hk,qbb hrow3 Zo,hz2,k6.2.2.2.2.2⟩
  have hfin:=waa hfin;have hgr:Grows F (λk=>F' k\/(Value.slice AV NT cV).ownBlock=some k) w:=λk hk=>hk.elim (hg.out k) (λhk=> .inr (wam hu.out.size (hrow2.lt k hk).1))
  have hgr:=waa hgr;have hXF:F E.X\/w.heap.size<=E.X:=hg.out _ (k5.1 _ (.inr (.inr (.inr (.inl rfl)))));have hU:=waa ((hu.out.trans (hu2.mono (λ_ e=>e.elim))).after hu3 (λk e=>e▸hXF));clear hu2 k1 k2 k3 k4 k5 k6 hpX hGX hXe hu3 hXV hrow3 hrow2 hz2 hB hNT hXF hg hI;go_wp2_with fail;go_end0
  refine⟨hU.out,?_⟩;rw[ho.out];exact⟨rfl,_,hfin.out,hgr.out⟩
 ·refine⟨rfl,hu,?_⟩
  rw[ho];exact⟨F',rfl,hO,hg⟩
end
end Go.Proofs.YtgjhkafggagniaaGreat
