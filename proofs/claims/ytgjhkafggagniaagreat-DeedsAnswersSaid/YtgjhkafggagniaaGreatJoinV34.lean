/- Parts. No condition. -/
import Derived.Test.YtgjhkafggagniaaGreatJoinV33
set_option linter.unusedVariables false
set_option maxRecDepth 100000
set_option maxHeartbeats 8000000
namespace Go.Proofs.YtgjhkafggagniaaGreat
open Go Go.RowKit
theorem qh2{W:World}{g:Nat}{c:Obj}(h:W.heap[g]? =some c)(o:Obj):(W.alloc o).heap[g]? =some c:=(((wai _ W).alloc (wah _) o).block g (waj.1 h).1).trans h
theorem qsr(i:Int)(w:World):Calls Tryz.prog 56 #[.agg #[.int .i64 0,.int .i64 0,.int .i64 0],.int .i64 0,.int .i64 i] w λe w'=>e= .returned (.int .i64 (-1))/\Below w.heap.size w w':=by
 have hs:=waa (λV=>qi9 0 0 0 V);rw[show slN 0 0=0 by decide] at hs;have hd:=waa (λV=>qms 0 i 0 0 V Zo Zo Zo);rw[show wdN 0 i 0 0= -1 by unfold wdN;rw[if_neg Zo]] at hd;have hB:=qca w 0 0 0;go_enter Tryz.func56,Tryz.ntmps56;go_wp2_with fail;refine(hs.out _).mono ?_;rintro e w1 ⟨rfl,hC⟩;go_wp2_with fail;refine(hd.out _).mono ?_;rintro e w2 ⟨rfl,rfl⟩;go_wp2_with fail;go_ret;exact⟨rfl,hB.trans (hC.mono Zs)⟩
def qdi(o:Option OV)(i:Int):Int:=match o with
 |none=>-1
 |some o=>wdN o.1 i 0 o.2.1.2.1
def okB(o:Option OV):Bool:=match o with
 |none=>true
 |some q=>decide (-4611686018427387904<=q.1/\q.1<=4611686018427387904)&&qbp q.2.1.1 q.2.1.2.1 q.2.1.2.2
def ocN:Option OV->Nat->Int
 |none,_=>0
 |some q,0=>q.1
 |some q,1=>q.2.1.1
 |some q,2=>q.2.1.2.1
 |some q,3=>q.2.1.2.2
 |some q,4=>q.2.2.1
 |some q,5=>q.2.2.2.1
 |some q,_=>q.2.2.2.2
theorem qmc(o:Option OV):ovC o=#[.int .i64 (ocN o 0),.int .i64 (ocN o 1),.int .i64 (ocN o 2),.int .i64 (ocN o 3),.int .i64 (ocN o 4),.int .i64 (ocN o 5),.int .i64 (ocN o 6)]:=by cases o<;>rfl
theorem qkj{o:Option OV}(h:okB o=true)(i:Int)(w:World):
  Calls Tryz.prog 56 #[.agg #[.int .i64 (ocN o 1),.int .i64 (ocN o 2),.int .i64 (ocN o 3)],.int .i64 (ocN o 0),.int .i64 i] w λe w'=>e= .returned (.int .i64 (qdi o i))/\Below w.heap.size w w':=by
 cases o with
 |none=>exact qsr i w
 |some q=>
  rw[okB,wbp] at h;exact qwr _ _ _ _ i w h.2 (of_decide_eq_true h.1)
noncomputable def destA (A:AC) (E:DP HS) (ws:List (Int×Nat)) (root:Bool) (obj idx:Int):AP (DM×HS) (Int×Bool):=
 if root=true then AP.ret (qco A.s A.l A.r idx,decide (0<=qco A.s A.l A.r idx)) else(objectA A E ws obj).bind λo=>if okB o=true then AP.ret (qdi o idx,o.isSome&&decide (0<=qdi o idx)) else qbd
def qdz(x:Int×Bool):Value:= .tuple #[.int .i64 x.1,.bool x.2]
section
variable {A:AC} {E:DP HS} {i i':Nat} {l l':List Nat} {s s':DM×HS} {F F':Nat->Prop} {v v':Value} {ws ws':List (Int×Nat)} {w w' w2:World} {base n L:Nat} {e:Ending}
theorem qkc(h:AIn A E i l s F v ws w)(hD:DdE A E base n L)(root:Bool)(obj idx:Int)(ho:-9223372036854775808<=obj/\obj<=9223372036854775807)(hm:ws.length<=500)(hw:destA A E ws root obj idx E.sp i l s≠ .wild):
  Calls Tryz.prog 216 #[.pointer (some ⟨A.ab,0,none⟩),.agg #[.bool root,.int .i64 obj,.int .i64 idx]] w λe w'=>E.Post (destA A E ws root obj idx E.sp i l s) (λx v _=>v=qdz x) F w e w':=by
 have hu:Upd (λ_=>False) w (w.alloc (.cells #[.bool root,.int .i64 obj,.int .i64 idx] 39)):=(Upd.refl _ w).alloc _;have hA0:=(AtF.start h).new hu;have hx0:(w.alloc (.cells #[.bool root,.int .i64 obj,.int .i64 idx] 39)).heap[w.heap.size]? =some (.cells #[.bool root,.int .i64 obj,.int .i64 idx] 39 (0,0)):=heap_alloc_new w _;obtain⟨W1,hW1⟩:∃W1,w.alloc (.cells #[.bool root,.int .i64 obj,.int .i64 idx] 39)=W1:=⟨_,rfl⟩
 rw[hW1] at hA0 hx0;have d0:W1.cell? ⟨w.heap.size,0,none⟩=some (.bool root):=qab hx0 0;have d1:W1.cell? ⟨w.heap.size,1,none⟩=some (.int .i64 obj):=qab hx0 1;have d2:W1.cell? ⟨w.heap.size,2,none⟩=some (.int .i64 idx):=qab hx0 2;have hs1:w.heap.size<W1.heap.size:=by rw[<-hW1];simp
 have hFl0:¬F w.heap.size:=λe=>by have:=h.i.lt e;omega
 cases root with
 |true=>
  have hob:destA A E ws true obj idx E.sp i l s= .done (qco A.s A.l A.r idx,decide (0<=qco A.s A.l A.r idx)) i l s:=by unfold destA;rw[if_pos rfl];rfl
  have hrt:=waa (λW=>qm3 A.s A.l A.r idx W);obtain⟨⟨c0,c1,c2,c3⟩,-⟩:=hA0.a.a.cells;replace hA0:=waa hA0;replace hw:=waa hw;clear h hu;generalize qco A.s A.l A.r idx=z at hob hrt;go_enter Tryz.func216,Tryz.ntmps216;go_upto_region 2 with fail
  try rw[hW1]
  refine wp_region_held_drew (S:=(λU=>(U.cell? ⟨A.ab,1,none⟩=some (.int .i64 A.s)/\U.cell? ⟨A.ab,2,none⟩=some (.int .i64 A.l)/\U.cell? ⟨A.ab,3,none⟩=some (.int .i64 A.r))/\U.cell? ⟨w.heap.size,2,none⟩=some (.int .i64 idx))) Zk (⟨⟨c1,c2,c3⟩,d2⟩) (λhHeld=>?_);refine wpAnyH_take (i:=0) (v:=?_) rfl Zk Zk Zk (λ_ _ _ h=>h) (Or.inl ⟨by rfl,?_⟩) Za ?_;rotate_left;(·intro u h;(try dsimp only at h);(try simp only[wab,wac]);go_simp;try with_reducible rfl);try simp only[Act.put,waf,wae,wag,wab,wac]
  refine wpAnyH_take (i:=1) (v:=?_) rfl Zk Zk Zk (λ_ _ _ h=>h) (Or.inl ⟨by rfl,?_⟩) Za ?_;rotate_left;(·intro u h;(try dsimp only at h);(try simp only[wab,wac,wad]);go_simp;try with_reducible rfl);try simp only[Act.put,waf,wae,wag,wab,wac,wad]
  refine wpAnyH_take (i:=2) (v:=?_) rfl Zk Zk Zk (λ_ _ _ h=>h) (Or.inl ⟨by rfl,?_⟩) Za ?_;rotate_left;(·intro u h;(try dsimp only at h);(try simp only[wab,wac,wad]);go_simp;try with_reducible rfl);try simp only[Act.put,waf,wae,wag,wab,wac,wad]
  refine wpAnyH_take (i:=3) (v:=?_) rfl Zk Zk Zk (λ_ _ _ h=>h) (Or.inl ⟨by rfl,?_⟩) Za ?_;rotate_left;(·intro u h;(try dsimp only at h);(try simp only[wab,wac,wad]);go_simp;try with_reducible rfl);try simp only[Act.put,waf,wae,wag,wab,wac,wad]
  refine wpAnyH_take (i:=4) (v:=?_) rfl Zk Zk Zk (λ_ _ _ h=>h) (Or.inl ⟨by rfl,?_⟩) Za ?_;rotate_left;(·intro u h;(try dsimp only at h);(try simp only[wab,wac,wad]);go_simp;try with_reducible rfl);try simp only[Act.put,waf,wae,wag,wab,wac,wad]
  refine wpAnyH_take (i:=5) (v:=?_) rfl Zk Zk Zk (λ_ _ _ h=>h) (Or.inl ⟨by rfl,?_⟩) Za ?_;rotate_left;(·intro u h;(try dsimp only at h);(try simp only[wab,wac,wad]);go_simp;try with_reducible rfl);try simp only[Act.put,waf,wae,wag,wab,wac,wad]
  refine wpAnyH_ready (rs:=[6]) Zk Zs ?_;refine AllReadyH.cons rfl (λK hK=>?_) AllReadyH.nil
  (try simp only[wab,wac,wad])
  go_simp
  refine(hrt.out _).mono ?_;rintro e V ⟨rfl,hB⟩;have hA1:=waa ((hA0.out.new ((Upd.refl (λ_=>False) W1).drew)).below hB);have k1:=qaa hB c1;have k2:=qaa hB c2;have k3:=qaa hB c3;have k4:=qaa hB d2;clear hB;go_wp2_with fail;refine hK.out _ _ (⟨⟨k1,k2,k3⟩,k4⟩) (λhHeld2=>?_);clear hK K hHeld;have hHeld:=hHeld2;clear hHeld2;try simp only[Act.put,waf,wae,wag,wab,wac,wad]
  refine wpAnyH_take (i:=7) (v:=?_) rfl Zk Zk Zk (λ_ _ _ h=>h) (Or.inl ⟨by rfl,?_⟩) Za ?_;rotate_left;(·intro u h;(try dsimp only at h);(try simp only[wab,wac,wad]);go_simp;try with_reducible rfl);try simp only[Act.put,waf,wae,wag,wab,wac,wad]
  refine wpAnyH_done Zk ?_ _;by_cases hz:0<=z
  ·rw[decide_eq_true hz] at hob
   have hfin:=waa (AtF.done (t:=destA A E ws true obj idx) (R:=λx v _=>v=qdz x) (x:=qdz (z,true)) hA1.out hob rfl);clear hob;go_wp2_with fail;go_ret2;exact hfin.out
  ·rw[decide_eq_false hz] at hob
   have hfin:=waa (AtF.done (t:=destA A E ws true obj idx) (R:=λx v _=>v=qdz x) (x:=qdz (z,false)) hA1.out hob rfl);clear hob;go_wp2_with fail;go_ret2;exact hfin.out
 |false=>
  have hob0:destA A E ws false obj idx E.sp i l s=((objectA A E ws obj).bind λo=>if okB o=true then AP.ret (qdi o idx,o.isSome&&decide (0<=qdi o idx)) else qbd) E.sp i l s:=by unfold destA;rw[if_neg wfa]
  rw[hob0] at hw;have hw1:=AP.tame hw;have hbw:=waa (qhs hA0.a hD obj ho hm hw1);have hx1:=hx0;replace hA0:=waa hA0;replace hx0:=waa hx0;replace hw:=waa hw;replace hob0:=waa hob0;clear h hu;go_enter Tryz.func216,Tryz.ntmps216;go_wp2_with fail;try rw[hW1]
  refine hbw.out.mono ?_;intro e V hpost;rcases hpost.done hw1 with ⟨o,i1,l1,s1,x1,F1,ho1,rfl,rfl,hI1,hg1,hu1⟩|⟨bl,l1,s1,F1,ho1,rfl,hO1,hg1,hu1⟩
  rotate_left
  ·exact⟨rfl,qba (hA0.out.off hO1 hg1 hu1) (by rw[hob0.out,AP.bind_stop ho1])⟩
  have hw2:=AP.tame_next hw.out ho1;have hob1:=hob0.out.trans (AP.bind_done ho1);by_cases hok:okB o=true
  rotate_left
  ·rw[if_neg hok] at hw2
   exact absurd rfl hw2
  rw[if_pos hok] at hob1;have hx1:=(hu1.block _ hs1 hFl0).trans hx0.out;have hA1:=hA0.out.step hI1 hg1 hu1;have hs2:=wak hs1 hu1.size;clear hpost hI1 hg1 hu1 hw hob0 ho1 hA0 hx0 hw1 hbw hw2;have hsl:=waa (λW=>qkj hok idx W);unfold ovV;rw[qmc];generalize hbs:o.isSome=bs at hob1 ⊢;generalize hzz:qdi o idx=z at hob1 hsl;generalize ocN o 0=at_ at hsl ⊢;generalize ocN o 1=r at hsl ⊢;generalize ocN o 2=sl at hsl ⊢;generalize ocN o 3=nn at hsl ⊢;generalize ocN o 4=i4;generalize ocN o 5=i5;generalize ocN o 6=i6;have hx2:=waa (qh2 hx1 (.cells #[.int .i64 at_,.int .i64 r,.int .i64 sl,.int .i64 nn,.int .i64 i4,.int .i64 i5,.int .i64 i6] 79));have hL2:(V.alloc (.cells #[.int .i64 at_,.int .i64 r,.int .i64 sl,.int .i64 nn,.int .i64 i4,.int .i64 i5,.int .i64 i6] 79)).heap[V.heap.size]? =some (.cells #[.int .i64 at_,.int .i64 r,.int .i64 sl,.int .i64 nn,.int .i64 i4,.int .i64 i5,.int .i64 i6] 79 (0,0)):=heap_alloc_new V _;have hA2:=waa (hA1.below ((wai V.heap.size V).alloc (wah _) (.cells #[.int .i64 at_,.int .i64 r,.int .i64 sl,.int .i64 nn,.int .i64 i4,.int .i64 i5,.int .i64 i6] 79)));obtain⟨⟨z0,z1,z2,z3,z4,z5,z6⟩,zf⟩:=qau hL2;have d0:(V.alloc (.cells #[.int .i64 at_,.int .i64 r,.int .i64 sl,.int .i64 nn,.int .i64 i4,.int .i64 i5,.int .i64 i6] 79)).cell? ⟨w.heap.size,2,none⟩=some (.int .i64 idx):=qab hx2.out 2;clear hA1 hx1 hL2 hx2;go_wp2_with fail;refine(hsl.out _).mono ?_;rintro e V2 ⟨rfl,hB2⟩;have hA3:=waa (hA2.out.below hB2);clear hB2 hA2 hsl z0 z1 z2 z3 z4 z5 z6 zf d0;have hob2:=waa hob1;clear hob1;cases bs with
  |false=>
   have hfin:=waa (AtF.done (t:=destA A E ws false obj idx) (R:=λx v _=>v=qdz x) (x:=qdz (z,false)) hA3.out hob2.out rfl);clear hob2 hA3;go_wp2_with fail;go_ret2;exact hfin.out
  |true=>
   have hfin:=waa (AtF.done (t:=destA A E ws false obj idx) (R:=λx v _=>v=qdz x) (x:=qdz (z,decide (0<=z))) hA3.out hob2.out rfl);clear hob2 hA3;go_wp2_with fail;go_ret2;exact hfin.out
end
abbrev ANS:=Int×Int×Nat
def anX(a:ANS):Value:=anV a.1 a.2.1 a.2.2
def lkA{τ:Type}(E:DP τ)(k:Nat)(a:Int):AP (DM×τ) Unit:=AP.ask (onM (doF E.n E.nl E.who k a 0)) (λ_=>())
def qbe{τ:Type}(E:DP τ)(lock:Int)(t:AP (DM×τ) (ANS×List (Int×Nat))):AP (DM×τ) (ANS×List (Int×Nat)):=(lkA E 4 lock).bind λ_=>t.bind λr=>(lkA E 5 lock).bind λ_=>AP.ret r
section
variable {τ:Type} {A:AC} {E:DP τ} {i i' i2:Nat} {l l' l2:List Nat} {s s' s2:DM×τ} {F F' F2 H:Nat->Prop} {v v' v2:Value} {ws ws' ws2:List (Int×Nat)} {w w' w2:World} {e:Ending}
theorem AtH.step(h:AtH A E F H v w i' l' s' F' v' ws' w')(hI:E.In i2 l2 s2 F2 w2)(hg:Grows F' F2 w')(hu:Upd F' w' w2):AtH A E F H v w i2 l2 s2 F2 v' ws' w2:=⟨h.a.next hI hg hu,h.g.trans hg h.u.size,h.u.after hu (λk hk=>h.foot (.inl hk)),h.r⟩
theorem AtH.off{bl:Bool}(h:AtH A E F H v w i' l' s' F' v' ws' w')(hO:E.Off bl l2 s2 F2 w2)(hg:Grows F' F2 w')(hu:Upd F' w' w2):∃F2,E.Off bl l2 s2 F2 w2/\Grows F F2 w/\Upd (λk=>F k\/ownH A v H k) w w2:=⟨F2,hO,h.g.trans hg h.u.size,h.u.after hu (λk hk=>h.foot (.inl hk))⟩
theorem AtH.offH{bl:Bool}(h:AtH A E F H v w i' l' s' F' v' ws' w')(hO:E.Off bl l2 s2 F2 w2)(hg:Grows F' F2 w')(hu:Upd (λk=>F' k\/ownH A v' H k) w' w2):∃F2,E.Off bl l2 s2 F2 w2/\Grows F F2 w/\Upd (λk=>F k\/ownH A v H k) w w2:=⟨F2,hO,h.g.trans hg h.u.size,h.u.after hu (λk hk=>h.foot hk)⟩
theorem AtH.next(h:AtH A E F H v w i' l' s' F' v' ws' w')(hI:AIn A E i2 l2 s2 F2 v2 ws2 w2)(hg:Grows F' F2 w')(hu:Upd (λk=>F' k\/ownH A v' H k) w' w2)(hr:∀k,v2.ownBlock=some k->v'.ownBlock=some k\/w'.heap.size<=k):AtH A E F H v w i2 l2 s2 F2 v2 ws2 w2:=
 ⟨hI,h.g.trans hg h.u.size,h.u.after hu (λk hk=>h.foot hk),λk hk=>(hr k hk).elim (h.r k) (λe=> .inr (wam h.u.size e))⟩
theorem AtH.own{B:Nat}(h:AtH A E F H v w i' l' s' F' v' ws' w')(hB:w.heap.size<=B)(hF:¬F' B)(hR:v'.ownBlock≠some B)(hu:Upd (λj=>j=B) w' w2)(h1:A.ab<w.heap.size)(h2:∀k,k=E.a\/k=E.b\/k=E.c->k≠B):AtH A E F H v w i' l' s' F' v' ws' w2:=
 ⟨⟨h.a.i.upd hu (λk hk e=>hF (e▸hk)) (h2 _ (.inl rfl)) (h2 _ (.inr (.inl rfl))) (h2 _ (.inr (.inr rfl))),h.a.a.upd hu (λe=>by omega) (λk hk e=>hR (e▸hk)),h.a.nF,h.a.nR,h.a.eb⟩,h.g,h.u.after hu (λk hk=> .inr Zo),h.r⟩
theorem qam{W:World}{g:Nat}(a b c:Value):Upd (λj=>j=g) W (((W.setCell ⟨g,0,none⟩ a).setCell ⟨g,1,none⟩ b).setCell ⟨g,2,none⟩ c):=
 (((Upd.refl (λj=>j=g) W).setCell (p:=⟨g,0,none⟩) (.inl rfl) a).setCell (p:=⟨g,1,none⟩) (.inl rfl) b).setCell (p:=⟨g,2,none⟩) (.inl rfl) c
theorem qan{W:World}{g:Nat}{a b c:Value}(h:W.heap[g]? =some (.cells #[a,b,c] 60 (0,0)))(a' b' c':Value):(((W.setCell ⟨g,0,none⟩ a').setCell ⟨g,1,none⟩ b').setCell ⟨g,2,none⟩ c').heap[g]? =some (.cells #[a',b',c'] 60 (0,0)):=qaj (qaj (qaj h 0 a') 1 b') 2 c'
theorem qaf{W:World}{g:Nat}{a b c:Value}(h:W.heap[g]? =some (.cells #[a,b,c] 60 (0,0))):(W.cell? ⟨g,0,none⟩=some a/\W.cell? ⟨g,1,none⟩=some b/\W.cell? ⟨g,2,none⟩=some c)/\∀j,W.frozen? ⟨g,j,none⟩=false:=⟨⟨qab h 0,qab h 1,qab h 2⟩,λj=>qah h j⟩
theorem qit{FN:Nat}{fcaps:Array Value}{t:AP (DM×τ) (ANS×List (Int×Nat))}(hen:∀(args:Array Value) (w:World),(callFunc FN args).run Tryz.prog w= .ok (.enter FN args) w)(h:AIn A E i l s F v ws w)(lock:Int)(hw:qbe E lock t E.sp i l s≠ .wild)(hH:∀k,H k->k<w.heap.size)(hf:∀V i' l' s' F',AIn A E i' l' s' F' v ws V->Upd F w V->Grows F F' w->t E.sp i' l' s'≠ .wild->Calls Tryz.prog FN fcaps V λe w'=>qb6 A E (t E.sp i' l' s') (λa x _=>x=anX a) F' H v V e w'):
  Calls Tryz.prog 204 #[.pointer (some ⟨A.ab,0,none⟩),.int .i64 lock,.func (.func FN) #[] fcaps] w λe w'=>qb6 A E (qbe E lock t E.sp i l s) (λa x _=>x=anX a) F H v w e w':=by
 have hu:Upd (λ_=>False) w (w.alloc (.cells #[.int .i64 0,.int .i64 0,.int .u64 0] 60)):=(Upd.refl _ w).alloc _;have hA0:=(AtH.start (H:=H) h).new hu;have hL0:(w.alloc (.cells #[.int .i64 0,.int .i64 0,.int .u64 0] 60)).heap[w.heap.size]? =some (.cells #[.int .i64 0,.int .i64 0,.int .u64 0] 60 (0,0)):=heap_alloc_new w _;obtain⟨W1,hW1⟩:∃W1,w.alloc (.cells #[.int .i64 0,.int .i64 0,.int .u64 0] 60)=W1:=⟨_,rfl⟩
 rw[hW1] at hA0 hL0 hu;have hs1:w.heap.size<W1.heap.size:=by rw[<-hW1];simp
 have hF0:¬F w.heap.size:=λe=>by have:=h.i.lt e;omega
 have hR0:v.ownBlock≠some w.heap.size:=λe=>by have:=(h.a.row.lt _ e).2;omega
 have hlt:=h.a.lt;have hab:∀k,k=E.a\/k=E.b\/k=E.c->k≠w.heap.size:=λk hk e=>by have:=h.i.low k (.inr hk);omega
 have hHB:¬H w.heap.size:=λe=>by have:=hH _ e;omega
 have hw1:lkA E 4 lock E.sp i l s≠ .wild:=AP.tame hw;have hlk:=waa (qpc hA0.a.i lock hw1);obtain⟨⟨c0,-⟩,-⟩:=hA0.a.a.cells;rw[h.eb] at c0;have heb:=h.eb;replace hA0:=waa hA0;replace hL0:=waa hL0;replace hw:=waa hw;replace hf:=waa hf;replace hu:=waa hu;clear h;go_enter Tryz.func204,Tryz.ntmps204;go_wp2_with fail;try rw[hW1]
 refine hlk.out.mono ?_;rintro e V hpost;rcases DP.Post.done (t:=lkA E 4 lock) hpost hw1 with ⟨u1,i1,l1,s1,x1,F1,ho1,rfl,rfl,hI1,hg1,hu1⟩|⟨bl,l1,s1,F1,ho1,rfl,hO1,hg1,hu1⟩
 rotate_left
 ·exact⟨rfl,qal (hA0.out.off hO1 hg1 hu1) (by unfold qbe;rw[AP.bind_stop ho1])⟩
 have hw2:(t.bind λr=>(lkA E 5 lock).bind λ_=>AP.ret r) E.sp i1 l1 s1≠ .wild:=AP.tame_next (f:=λ_=>t.bind λr=>(lkA E 5 lock).bind λ_=>AP.ret r) hw.out ho1;have hob1:=waa (show qbe E lock t E.sp i l s=(t.bind λr=>(lkA E 5 lock).bind λ_=>AP.ret r) E.sp i1 l1 s1 by unfold qbe;rw[AP.bind_done ho1]);have hL1:=waa ((hu1.block _ hs1 hF0).trans hL0.out);have hF1:=hg1.no hs1 hF0;have hA1:=hA0.out.step hI1 hg1 hu1;have hs2:=wak hs1 hu1.size;have hcl:=waa (hf.out V i1 l1 s1 F1 hA1.a ((hu.out.mono (λ_ e=>e.elim)).trans hu1) hA1.g (AP.tame hw2));replace hA1:=waa hA1;replace hw2:=waa hw2;clear hpost hI1 hg1 hu1 hw ho1 hA0 hL0 hw1 hlk hf c0;go_wp2_with fail;refine hcl.out.mono ?_;intro e V2 hpost;obtain⟨hu2,hp2⟩:=hpost;cases ho2:t E.sp i1 l1 s1 with
 |wild=>exact absurd ho2 (AP.tame hw2.out)
 |stop bl l2 s2=>
  rw[ho2] at hp2;obtain⟨F2,rfl,hO2,hg2⟩:=hp2;exact⟨rfl,qal (hA1.out.offH hO2 hg2 hu2) (by rw[hob1.out,AP.bind_stop ho2])⟩
 |done a i2 l2 s2=>
  rw[ho2] at hp2;obtain⟨x2,F2,v2,rfl,rfl,hI2,hg2,hr2⟩:=hp2;have hw3:((lkA E 5 lock).bind λ_=>AP.ret a) E.sp i2 l2 s2≠ .wild:=AP.tame_next (f:=λr=>(lkA E 5 lock).bind λ_=>AP.ret r) hw2.out ho2;have hob2:=waa (hob1.out.trans (AP.bind_done ho2));have hnB:¬(F1 w.heap.size\/ownH A v H w.heap.size):=by
   rintro(e|e|e|e)
   ·exact hF1 e
   ·omega
   ·exact hR0 e
   ·exact hHB e
  have hL2:=(hu2.block _ hs2 hnB).trans hL1.out;have hF2:=hg2.no hs2 hF1;have hR2:v2.ownBlock≠some w.heap.size:=λe=>(hr2 _ e).elim hR0 (λe=>by omega)
  have hA2:=hA1.out.next hI2 hg2 hu2 hr2;have hs3:=wak hs2 hu2.size;obtain⟨⟨a0,a1,a2⟩,aw⟩:=a;unfold anX anV;dsimp only
  have hBa:=(wai V2.heap.size V2).alloc (wah _) (.cells #[.int .i64 a0,.int .i64 a1,.int .u64 (a2:Int)] 60);have hx2:(V2.alloc (.cells #[.int .i64 a0,.int .i64 a1,.int .u64 (a2:Int)] 60)).heap[V2.heap.size]? =some (.cells #[.int .i64 a0,.int .i64 a1,.int .u64 (a2:Int)] 60 (0,0)):=heap_alloc_new V2 _;obtain⟨V3,hV3⟩:∃V3,V2.alloc (.cells #[.int .i64 a0,.int .i64 a1,.int .u64 (a2:Int)] 60)=V3:=⟨_,rfl⟩
  rw[hV3] at hBa hx2;have hA3:=hA2.below hBa;have hL3:=waa ((hBa.block _ hs3).trans hL2);have hFb:¬F2 V2.heap.size:=λe=>by have:=hA2.a.i.lt e;omega
  have hbl:V2.heap.size<V3.heap.size:=(waj.1 hx2).1;have hs4:=wak hs3 hBa.size;have hul:=waa (qkn hA3.a.i lock (AP.tame hw3));obtain⟨⟨c0,-⟩,-⟩:=hA3.a.a.cells;rw[heb] at c0;replace hx2:=waa hx2;replace hA3:=waa hA3;replace hw3:=waa hw3;replace hV3:=waa hV3;clear hA2 hL2 hBa hI2 hg2 hu2 hr2 ho2 hA1 hL1 hcl hw2 hob1;go_upto_region 3 with fail
  rw[hV3.out];go_wp2_with fail;refine hul.out.mono ?_;rintro e V4 hpost;rcases DP.Post.done (t:=lkA E 5 lock) hpost (AP.tame hw3.out) with ⟨u4,i4,l4,s4,x4,F4,ho4,rfl,rfl,hI4,hg4,hu4⟩|⟨bl,l4,s4,F4,ho4,rfl,hO4,hg4,hu4⟩
  rotate_left
  ·exact⟨rfl,qal (hA3.out.off hO4 hg4 hu4) (by rw[hob2.out,AP.bind_stop ho4])⟩
  have hob3:=waa (hob2.out.trans (AP.bind_done ho4));have hL4:=(hu4.block _ hs4 hF2).trans hL3.out;have hx4:=(hu4.block _ hbl hFb).trans hx2.out;have hF4:=hg4.no hs4 hF2;have hA4:=hA3.out.step hI4 hg4 hu4;obtain⟨⟨p0,p1,p2⟩,pf⟩:=qaf hx4;obtain⟨⟨q0,q1,q2⟩,qf⟩:=qaf hL4;have hfin:=waa (AtH.done (t:=qbe E lock t) (R:=λa x _=>x=anX a) (a:=(a0,a1,a2)) (x:=anX (a0,a1,a2)) (hA4.own (B:=w.heap.size) (wah _) hF4 hR2 (qam (.int .i64 a0) (.int .i64 a1) (.int .u64 (a2:Int))) hlt hab) hob3.out rfl);replace hL4:=waa hL4;clear hpost hI4 hg4 hu4 ho4 hA3 hx2 hL3 hul hw3 hob2 hob3 hA4 hx4;go_wp2_with fail;refine qak rfl rfl rfl (qai (qan hL4.out _ _ _)) ?_;exact hfin.out
end
theorem q2j{r s n:Int}(h:qbp r s n=true):bW r s n<18446744073709551616:=by
 have:=(BHit.told (x:=bW r s n) (c:=clN n) (r:=r) (s:=s) (n:=n) (.inr ⟨h,rfl,rfl⟩)).1
 omega
section
variable {τ:Type} {A:AC} {E:DP τ} {i:Nat} {l:List Nat} {s:DM×τ} {F:Nat->Prop} {v u:Value} {ws es:List (Int×Nat)} {w:World} {base n:Nat}
theorem qli(h:AIn A E i l s F v ws w)(hr:w.ownsRow base 169 2 u n (eV es))(hok:∀e∈es,qen e)(hl:ws.length+es.length<=1000000):
  Calls Tryz.prog 263 #[.pointer (some ⟨A.ab,0,none⟩),u] w λe w'=>e= .returned (.tuple #[])/\∃v',AIn A E i l s F v' (ws++es) w'/\Upd (ownH A v noH) w w'/\∀k,v'.ownBlock=some k->v.ownBlock=some k\/w.heap.size<=k:=by
 have hn:es.length=n:=by have:=hr.1;rw[qgs] at this;omega
 rcases hr.2 with ⟨rfl,h0⟩|⟨g,cap,cur,rfl,hb,hg,hn2,hc,hs,ht⟩
 ·have:es=[]:=wet Zo
  subst this;subst h0;exact(qt1 h).mono λe w' k=>⟨k.1,_,by rw[wba];exact k.2.1,k.2.2,λ_ e=> .inl e⟩
 ·refine qgd h ⟨g,0,none⟩ n cap hn (λj y hy=>?_) hok Zo
  have hj:j<n*2:=by have:=(was.1 hy).1;rw[qgs] at this;omega
  have e0:(⟨g,0,none⟩:Addr).add j=⟨g,j,none⟩:=by unfold Addr.add;split<;>simp_all
  rw[e0,qab hg,<-hy,<-ht,waw,if_pos hj,wbm]
end
theorem quk(z:Int):-9223372036854775808<=wrap64 z/\wrap64 z<=9223372036854775807:=by
 unfold wrap64;omega
section
variable {A:AC} {E:DP HS} {i i':Nat} {l l':List Nat} {s s':DM×HS} {F F' H:Nat->Prop} {v v':Value} {ws ws':List (Int×Nat)} {w w' w2:World} {base n L:Nat} {e:Ending}
end
theorem AcR.call{A:AC}{v:Value}{ws:List (Int×Nat)}{w:World}(h:AcR A v ws w):(w.cell? ⟨A.ab,5,none⟩=some (.int .i64 A.kind)/\w.cell? ⟨A.ab,7,none⟩=some (.bool A.root)/\w.cell? ⟨A.ab,8,none⟩=some (.int .i64 A.obj)/\w.cell? ⟨A.ab,9,none⟩=some (.int .i64 A.idx))/\
  (w.cell? ⟨A.ab,10,none⟩=some (.int .i64 A.words)/\w.cell? ⟨A.ab,11,none⟩=some (.int .i64 A.slots)/\w.cell? ⟨A.ab,12,none⟩=some (.int .i64 A.target)/\w.cell? ⟨A.ab,13,none⟩=some (.int .i64 A.many)/\w.cell? ⟨A.ab,14,none⟩=some (.int .u64 (A.x:Int))/\w.cell? ⟨A.ab,15,none⟩=some A.ed):=
 ⟨⟨qab h.blk 5,qab h.blk 7,qab h.blk 8,qab h.blk 9⟩,qab h.blk 10,qab h.blk 11,qab h.blk 12,qab h.blk 13,qab h.blk 14,qab h.blk 15⟩
def errA{τ:Type}(c:Int)(ws:List (Int×Nat)):AP (DM×τ) (ANS×List (Int×Nat)):=AP.ret ((c,0,0),ws)
section
variable {A:AC} {E:DP HS} {i i':Nat} {l l':List Nat} {s s':DM×HS} {F F' H:Nat->Prop} {v v':Value} {ws ws':List (Int×Nat)} {w w' w2:World} {base n L b0:Nat} {e:Ending}
end
abbrev DAP:=AP (DM×HS) (ANS×List (Int×Nat))
section
variable {A:AC} {E:DP HS} {i i':Nat} {l l':List Nat} {s s':DM×HS} {F F' H:Nat->Prop} {v v':Value} {ws ws':List (Int×Nat)} {w w' w2:World} {base n L b0 b1 b2:Nat} {e:Ending}
theorem qyl{a:Int}{m:Nat}{e:Int×Nat}(h:e∈blkZ a m):a<=e.1/\e.1<a+(m:Int):=by
 obtain⟨k,hk,rfl⟩:=wbb.1 h;have:=wcb.1 hk
 exact⟨by dsimp only;omega,by dsimp only;omega⟩
theorem EsRd.of_blk{w:World}{b:Nat}{l:List (Int×Nat)}(h:w.heap[b]? =some (.cells (eV l).toArray 169 (0,0))):EsRd w (some ⟨b,0,none⟩) l.length l:=
 ⟨rfl,λ_=>⟨⟨b,0,none⟩,rfl,λj e he=>by
  obtain⟨h0,h1⟩:=qk8 he;have e0:(⟨b,0,none⟩:Addr).add (j*2)=⟨b,j*2,none⟩:=by unfold Addr.add;split<;>simp_all
  rw[e0];exact⟨by rw[qab h];simpa using h0,by rw[qab h];simpa using h1⟩⟩⟩
end
end Go.Proofs.YtgjhkafggagniaaGreat
