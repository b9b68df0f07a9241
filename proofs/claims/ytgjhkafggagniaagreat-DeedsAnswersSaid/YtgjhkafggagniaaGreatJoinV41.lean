/- Parts. No condition. -/
import Derived.Test.YtgjhkafggagniaaGreatJoinV36
set_option linter.unusedVariables false
set_option maxRecDepth 100000
set_option maxHeartbeats 8000000
namespace Go.Proofs.YtgjhkafggagniaaGreat
open Go Go.RowKit
def cchL(L:Nat)(rx:Nat->List Int)(t c:Int):List Int:=if thP L t c then rx (caI t c) else[]
section
variable {w:World} {base p s L:Nat} {r:Int} {hs:List (Int×Int×Int)} {rx:Nat->List Int} {F:Nat->Prop}
theorem qr4(h:Hp w base p s L r hs rx F)(t c:Int)(hx:∀j,(rx j).length<=300000):
  Calls Tryz.prog 268 #[.pointer (some ⟨p,0,none⟩),.int .i64 t,.int .i64 c] w λe w'=>∃v,e= .returned v/\RowI w' w.heap.size v (cchL L rx t c)/\Below w.heap.size w w':=by
 obtain⟨gh,gc,hcap,ccap,rv,h⟩:=h;unfold cchL caI;by_cases ht:thP L t c
 ·rw[if_pos ht]
  unfold thP at ht;obtain⟨T,rfl⟩:=waq ht.1;obtain⟨C,rfl⟩:=waq ht.2.2.1;simp only[wao];have hT:T<L:=Zo
  have hC:C<4:=Zo
  have hpl:=waa (qeq h hT hC);have hj:=qfy hT hC;generalize T*4+C=J at hpl hj ⊢;replace h:=waa h;go_enter Tryz.func268,Tryz.ntmps268;go_wp2_with fail;refine hpl.out.mono ?_;rintro e w1 ⟨rfl,hB⟩;have h1:=h.out.new hB;have hcc:=h1.cache hj;have hce:=hcc.cell;have hcl:=waa (qij hcc.row (by have:=hx (4+J);omega));have hB':=waa hB;clear hB hpl h1 hcc;go_wp2_with fail;refine hcl.out.mono ?_;rintro e w2 ⟨v,rfl,hr,hB⟩;have hfin:=waa (And.intro (hr.lower hB'.out.size) (hB'.out.trans (hB.mono hB'.out.size)));clear hr hB hcl hce;go_wp2_with fail;go_ret;exact⟨_,rfl,hfin.out.1,hfin.out.2⟩
 ·rw[if_neg ht]
  unfold thP at ht;have hpl:=waa (qfb h ht);replace h:=waa h;go_enter Tryz.func268,Tryz.ntmps268;go_wp2_with fail;refine hpl.out.mono ?_;rintro e w1 ⟨b1,b2,rfl,-,-,hb2,hB⟩;have hce:=hb2.cell;have hcl:=waa (qij (w:=w1) (base:=w.heap.size) (v:= .slice none 0 0) (L:=[]) (RowI.nil _ _) Zs);have hB':=waa hB;clear hB hpl hb2;go_wp2_with fail;refine hcl.out.mono ?_;rintro e w2 ⟨v,rfl,hr,hB⟩;have hfin:=waa (And.intro (hr.lower hB'.out.size) (hB'.out.trans (hB.mono hB'.out.size)));clear hr hB hcl hce;go_wp2_with fail;go_ret;exact⟨_,rfl,hfin.out.1,hfin.out.2⟩
end
section
variable {A:AC} {w w':World} {base s L b0 b1 b2:Nat} {v:Value} {ws:List (Int×Nat)} {t:HS} {G:Nat->Prop}
theorem qz8(h:HpX base A.hb s L A.r t G w)(c:Int)(hx:∀j,(t.2 j).length<=300000):Calls Tryz.prog 268 #[.pointer (some ⟨A.hb,0,none⟩),.int .i64 A.who,.int .i64 c] w λe w'=>(∃C cap,e= .returned (.slice C (cchL L t.2 A.who c).length cap))/\Upd G w w'/\∃F',GrowH G F' w/\Hp w' base A.hb s L A.r t.1 t.2 F':=
 (qr4 h.to A.who c hx).mono λe w' k=>by
  obtain⟨v,e1,hr,hB⟩:=k;obtain⟨C,cap,rfl,-,-⟩:=hr.shape;exact⟨⟨C,cap,e1⟩,h.less hB⟩
theorem qvi(h:HpX base A.hb s L A.r t G w)(ha:AcR A v ws w)(k0:Boxed w b0 154 (.pointer (some ⟨A.ab,0,none⟩))){c:Int}(k1:Boxed w b1 3 (.int .i64 c))(n1:¬G b1)(hx:∀j,(t.2 j).length<=300000):
  Calls Tryz.prog 267 #[.pointer (some ⟨b0,0,none⟩),.pointer (some ⟨b1,0,none⟩)] w λe w'=>e= .returned (.int .i64 (((cchL L t.2 A.who c).length:Int)))/\(∃G',HpX base A.hb s L A.r (t.1,t.2) G' w'/\Grows G G' w)/\Upd G w w':=by
 have h':=h.upd (Upd.refl (λ_=>False) w).drew (λ_ _ e=>e);have hta:=waa (qz8 h' c hx);obtain⟨⟨c0,c1,c2,c3⟩,⟨c4,c6,c16⟩,cf⟩:=ha.cells;have nA:¬G A.ab/\¬G b0:=⟨λe=>by rcases h.not e ha.blk with e|e|e|e<;>exact absurd e Zd,λe=>by rcases h.not e k0 with e|e|e|e<;>exact absurd e Zd⟩
 have d0:=k0.cell;have d1:=k1.cell;clear h h' ha k0 k1 hx;go_enter Tryz.func267,Tryz.ntmps267;go_upto_region 1 with fail
 refine wp_region_held_drew (S:=(λU=>(U.cell? ⟨A.ab,4,none⟩=some (.pointer (some ⟨A.hb,0,none⟩))/\U.cell? ⟨A.ab,6,none⟩=some (.int .i64 A.who))/\U.cell? ⟨b0,0,none⟩=some (.pointer (some ⟨A.ab,0,none⟩))/\U.cell? ⟨b1,0,none⟩=some (.int .i64 c))) Zk (⟨⟨c4,c6⟩,d0,d1⟩) (λhHeld=>?_);refine wpAnyH_take (i:=0) (v:=?_) rfl Zk Zk Zk (λ_ _ _ h=>h) (Or.inl ⟨by rfl,?_⟩) Za ?_;rotate_left;(·intro u h;(try dsimp only at h);(try simp only[wab,wac]);go_simp;try with_reducible rfl);try simp only[Act.put,waf,wae,wag,wab,wac]
 refine wpAnyH_take (i:=1) (v:=?_) rfl Zk Zk Zk (λ_ _ _ h=>h) (Or.inl ⟨by rfl,?_⟩) Za ?_;rotate_left;(·intro u h;(try dsimp only at h);(try simp only[wab,wac,wad]);go_simp;try with_reducible rfl);try simp only[Act.put,waf,wae,wag,wab,wac,wad]
 refine wpAnyH_take (i:=2) (v:=?_) rfl Zk Zk Zk (λ_ _ _ h=>h) (Or.inl ⟨by rfl,?_⟩) Za ?_;rotate_left;(·intro u h;(try dsimp only at h);(try simp only[wab,wac,wad]);go_simp;try with_reducible rfl);try simp only[Act.put,waf,wae,wag,wab,wac,wad]
 refine wpAnyH_take (i:=3) (v:=?_) rfl Zk Zk Zk (λ_ _ _ h=>h) (Or.inl ⟨by rfl,?_⟩) Za ?_;rotate_left;(·intro u h;(try dsimp only at h);(try simp only[wab,wac,wad]);go_simp;try with_reducible rfl);try simp only[Act.put,waf,wae,wag,wab,wac,wad]
 refine wpAnyH_take (i:=4) (v:=?_) rfl Zk Zk Zk (λ_ _ _ h=>h) (Or.inl ⟨by rfl,?_⟩) Za ?_;rotate_left;(·intro u h;(try dsimp only at h);(try simp only[wab,wac,wad]);go_simp;try with_reducible rfl);try simp only[Act.put,waf,wae,wag,wab,wac,wad]
 refine wpAnyH_take (i:=5) (v:=?_) rfl Zk Zk Zk (λ_ _ _ h=>h) (Or.inl ⟨by rfl,?_⟩) Za ?_;rotate_left;(·intro u h;(try dsimp only at h);(try simp only[wab,wac,wad]);go_simp;try with_reducible rfl);try simp only[Act.put,waf,wae,wag,wab,wac,wad]
 refine wpAnyH_take (i:=6) (v:=?_) rfl Zk Zk Zk (λ_ _ _ h=>h) (Or.inl ⟨by rfl,?_⟩) Za ?_;rotate_left;(·intro u h;(try dsimp only at h);(try simp only[wab,wac,wad]);go_simp;try with_reducible rfl);try simp only[Act.put,waf,wae,wag,wab,wac,wad]
 refine wpAnyH_take (i:=7) (v:=?_) rfl Zk Zk Zk (λ_ _ _ h=>h) (Or.inl ⟨by rfl,?_⟩) Za ?_;rotate_left;(·intro u h;(try dsimp only at h);(try simp only[wab,wac,wad]);go_simp;try with_reducible rfl);try simp only[Act.put,waf,wae,wag,wab,wac,wad]
 refine wpAnyH_take (i:=8) (v:=?_) rfl Zk Zk Zk (λ_ _ _ h=>h) (Or.inl ⟨by rfl,?_⟩) Za ?_;rotate_left;(·intro u h;(try dsimp only at h);(try simp only[wab,wac,wad]);go_simp;try with_reducible rfl);try simp only[Act.put,waf,wae,wag,wab,wac,wad]
 refine wpAnyH_take (i:=9) (v:=?_) rfl Zk Zk Zk (λ_ _ _ h=>h) (Or.inl ⟨by rfl,?_⟩) Za ?_;rotate_left;(·intro u h;(try dsimp only at h);(try simp only[wab,wac,wad]);go_simp;try with_reducible rfl);try simp only[Act.put,waf,wae,wag,wab,wac,wad]
 refine wpAnyH_ready (rs:=[10]) Zk Zs ?_;refine AllReadyH.cons rfl (λK hK=>?_) AllReadyH.nil
 (try simp only[wab,wac,wad])
 go_simp
 refine hta.out.mono ?_;rintro e V ⟨⟨C,cap,rfl⟩,hu,hn⟩;have hS:Upd G w V:=(Upd.refl G w).drew.trans hu;have hfin:=waa (And.intro (HpX.next hn) hS);clear hu hn;go_wp2_with fail;refine hK.out _ _ (⟨⟨(hS.cell (p:=⟨A.ab,4,none⟩) (wal _ _ c4) nA.1).trans c4,(hS.cell (p:=⟨A.ab,6,none⟩) (wal _ _ c6) nA.1).trans c6⟩,(hS.cell (p:=⟨b0,0,none⟩) (wal _ _ d0) nA.2).trans d0,(hS.cell (p:=⟨b1,0,none⟩) (wal _ _ d1) n1).trans d1⟩) (λhHeld2=>?_);clear hK K hHeld;have hHeld:=hHeld2;clear hHeld2;try simp only[Act.put,waf,wae,wag,wab,wac,wad]
 refine wpAnyH_take (i:=11) (v:=?_) rfl Zk Zk Zk (λ_ _ _ h=>h) (Or.inl ⟨by rfl,?_⟩) Za ?_;rotate_left;(·intro u h;(try dsimp only at h);(try simp only[wab,wac,wad]);go_simp;try with_reducible rfl);try simp only[Act.put,waf,wae,wag,wab,wac,wad]
 refine wpAnyH_take (i:=12) (v:=?_) rfl Zk Zk Zk (λ_ _ _ h=>h) (Or.inl ⟨by rfl,?_⟩) Za ?_;rotate_left;(·intro u h;(try dsimp only at h);(try simp only[wab,wac,wad]);go_simp;try with_reducible rfl);try simp only[Act.put,waf,wae,wag,wab,wac,wad]
 refine wpAnyH_done Zk ?_ _;clear hS;go_wp2_with fail;go_ret;exact⟨rfl,hfin.out.1,hfin.out.2⟩
end
noncomputable def ovrA (L:Nat) (who c:Int):AP (DM×HS) Int:=onceH (λt=>(((cchL L t.2 who c).length:Int),t))
noncomputable def overA (L:Nat) (who c:Int):AP (DM×HS) Bool:=(ovrA L who c).bind λz=>AP.ret (decide (8<z))
section
variable {A:AC} {E:DP HS} {i i':Nat} {l l':List Nat} {s s':DM×HS} {F F' H:Nat->Prop} {v v':Value} {ws ws':List (Int×Nat)} {w w' w2:World} {base n L b0 b1 b2:Nat} {e:Ending}
theorem qvr(h:AIn A E i l s F v ws w)(hD:DdE A E base n L)(k0:Boxed w b0 154 (.pointer (some ⟨A.ab,0,none⟩)))(m0:¬F b0){c:Int}(k1:Boxed w b1 3 (.int .i64 c))(m1:¬F b1)(hw:ovrA L A.who c E.sp i l s≠ .wild):
  Calls Tryz.prog 247 #[.pointer (some ⟨A.ab,0,none⟩),.func (.func 267) #[] #[.pointer (some ⟨b0,0,none⟩),.pointer (some ⟨b1,0,none⟩)]] w λe w'=>E.Post (ovrA L A.who c E.sp i l s) (λ(z:Int) v _=>v= .int .i64 z) F w e w':=
 qcp (FN:=267) (λargs w=>by simp[go_sem]) h hD hw (λV G hV hX hG hx=>qvi hX (h.at_ hV) (qac k0 hV (λe=>m0 (e▸h.ebn.1))) (qac k1 hV (λe=>m1 (e▸h.ebn.1))) (λe=>m1 (hG _ e)) hx)
theorem qsi(h:AIn A E i l s F v ws w)(hD:DdE A E base n L)(c:Int)(hw:overA L A.who c E.sp i l s≠ .wild):
  Calls Tryz.prog 209 #[.pointer (some ⟨A.ab,0,none⟩),.int .i64 c] w λe w'=>E.Post (overA L A.who c E.sp i l s) (λ(b:Bool) v _=>v= .bool b) F w e w':=by
 have hmf:∀(fn:Fn) (first cap:Array Value) (w:World),(Instr.makeFunc fn first cap).run Tryz.prog w= .ok (.func fn first cap) w:=λ_ _ _ _=>rfl
 obtain⟨W1,hW1⟩:∃W1,(w.alloc (.cells #[.pointer (some ⟨A.ab,0,none⟩)] 154)).alloc (.cells #[.int .i64 c] 3)=W1:=⟨_,rfl⟩
 have hu:Upd (λ_=>False) w W1:=by rw[<-hW1];exact(((Upd.refl _ w).alloc _).alloc _)
 have hb0:Boxed W1 (w.heap.size) 154 (.pointer (some ⟨A.ab,0,none⟩)):=by rw[<-hW1];exact qag (qad rfl _ _) _
 have hb1:Boxed W1 (w.heap.size+1) 3 (.int .i64 c):=by rw[<-hW1];exact qad Zs _ _
 have hFk:∀j,w.heap.size<=j->¬F j:=λj hj e=>by have:=h.i.lt e;omega
 have hA0:=(AtF.start h).new hu;have hw1:ovrA L A.who c E.sp i l s≠ .wild:=AP.tame hw;have hrm:=waa (qvr hA0.a hD hb0 (hFk _ (wah _)) hb1 (hFk _ (wcf _)) hw1);have c0:=hb0.cell;replace hA0:=waa hA0;replace hw:=waa hw;clear h hu hFk hb0 hb1;go_enter Tryz.func209,Tryz.ntmps209;go_wp2_with fail;try rw[hW1]
 refine hrm.out.mono ?_;intro e V hpost;rcases hpost.done hw1 with ⟨z,i1,l1,s1,x1,F1,ho1,rfl,rfl,hI1,hg1,hu1⟩|⟨bl,l1,s1,F1,ho1,rfl,hO1,hg1,hu1⟩
 rotate_left
 ·exact⟨rfl,qba (hA0.out.off hO1 hg1 hu1) (by unfold overA;rw[AP.bind_stop ho1])⟩
 have hfin:=waa (AtF.done (t:=overA L A.who c) (R:=λ(b:Bool) v _=>v= .bool b) (x:= .bool (decide (8<z))) (hA0.out.step hI1 hg1 hu1) (by unfold overA;rw[AP.bind_done ho1];rfl) rfl);clear hpost hI1 hg1 hu1 ho1 hA0 hw hrm;go_wp2_with fail;go_ret;exact hfin.out
end
def underG{τ β:Type}(E:DP τ)(lock:Int)(t:AP (DM×τ) (β×List (Int×Nat))):AP (DM×τ) (β×List (Int×Nat)):=(lkA E 4 lock).bind λ_=>t.bind λr=>(lkA E 5 lock).bind λ_=>AP.ret r
section
variable {τ:Type} {A:AC} {E:DP τ} {i i' i2:Nat} {l l' l2:List Nat} {s s' s2:DM×τ} {F F' F2 H:Nat->Prop} {v v' v2:Value} {ws ws' ws2:List (Int×Nat)} {w w' w2:World} {e:Ending}
theorem qor{γ:Type}{Q:γ->World->Prop}{FN:Nat}{fcaps:Array Value}{t:AP (DM×τ) ((ANS×γ)×List (Int×Nat))}(hen:∀(args:Array Value) (w:World),(callFunc FN args).run Tryz.prog w= .ok (.enter FN args) w)(h:AIn A E i l s F v ws w)(lock:Int)(hw:underG E lock t E.sp i l s≠ .wild)(hH:∀k,H k->k<w.heap.size)(hQ:∀(g:γ) (V V':World) (G:Nat->Prop),Q g V->Upd G V V'->(∀k,G k->F k\/w.heap.size<=k)->Q g V')(hf:∀V i' l' s' F',AIn A E i' l' s' F' v ws V->Upd F w V->Grows F F' w->t E.sp i' l' s'≠ .wild->Calls Tryz.prog FN fcaps V λe w'=>qb6 A E (t E.sp i' l' s') (λa x W=>x=anX a.1/\Q a.2 W) F' H v V e w'):
  Calls Tryz.prog 204 #[.pointer (some ⟨A.ab,0,none⟩),.int .i64 lock,.func (.func FN) #[] fcaps] w λe w'=>qb6 A E (underG E lock t E.sp i l s) (λa x W=>x=anX a.1/\Q a.2 W) F H v w e w':=by
 have hu:Upd (λ_=>False) w (w.alloc (.cells #[.int .i64 0,.int .i64 0,.int .u64 0] 60)):=(Upd.refl _ w).alloc _;have hA0:=(AtH.start (H:=H) h).new hu;have hL0:(w.alloc (.cells #[.int .i64 0,.int .i64 0,.int .u64 0] 60)).heap[w.heap.size]? =some (.cells #[.int .i64 0,.int .i64 0,.int .u64 0] 60 (0,0)):=heap_alloc_new w _;obtain⟨W1,hW1⟩:∃W1,w.alloc (.cells #[.int .i64 0,.int .i64 0,.int .u64 0] 60)=W1:=⟨_,rfl⟩
 rw[hW1] at hA0 hL0 hu;have hs1:w.heap.size<W1.heap.size:=by rw[<-hW1];simp
 have hF0:¬F w.heap.size:=λe=>by have:=h.i.lt e;omega
 have hR0:v.ownBlock≠some w.heap.size:=λe=>by have:=(h.a.row.lt _ e).2;omega
 have hlt:=h.a.lt;have hab:∀k,k=E.a\/k=E.b\/k=E.c->k≠w.heap.size:=λk hk e=>by have:=h.i.low k (.inr hk);omega
 have hHB:¬H w.heap.size:=λe=>by have:=hH _ e;omega
 have hw1:lkA E 4 lock E.sp i l s≠ .wild:=AP.tame hw;have hlk:=waa (qpc hA0.a.i lock hw1);obtain⟨⟨c0,-⟩,-⟩:=hA0.a.a.cells;rw[h.eb] at c0;have heb:=h.eb;replace hA0:=waa hA0;replace hL0:=waa hL0;replace hw:=waa hw;replace hf:=waa hf;replace hu:=waa hu;clear h;go_enter Tryz.func204,Tryz.ntmps204;go_wp2_with fail;try rw[hW1]
 refine hlk.out.mono ?_;rintro e V hpost;rcases DP.Post.done (t:=lkA E 4 lock) hpost hw1 with ⟨u1,i1,l1,s1,x1,F1,ho1,rfl,rfl,hI1,hg1,hu1⟩|⟨bl,l1,s1,F1,ho1,rfl,hO1,hg1,hu1⟩
 rotate_left
 ·exact⟨rfl,qal (hA0.out.off hO1 hg1 hu1) (by unfold underG;rw[AP.bind_stop ho1])⟩
 have hw2:(t.bind λr=>(lkA E 5 lock).bind λ_=>AP.ret r) E.sp i1 l1 s1≠ .wild:=AP.tame_next (f:=λ_=>t.bind λr=>(lkA E 5 lock).bind λ_=>AP.ret r) hw.out ho1;have hob1:=waa (show underG E lock t E.sp i l s=(t.bind λr=>(lkA E 5 lock).bind λ_=>AP.ret r) E.sp i1 l1 s1 by unfold underG;rw[AP.bind_done ho1]);have hL1:=waa ((hu1.block _ hs1 hF0).trans hL0.out);have hF1:=hg1.no hs1 hF0;have hA1:=hA0.out.step hI1 hg1 hu1;have hs2:=wak hs1 hu1.size;have hcl:=waa (hf.out V i1 l1 s1 F1 hA1.a ((hu.out.mono (λ_ e=>e.elim)).trans hu1) hA1.g (AP.tame hw2));replace hA1:=waa hA1;replace hw2:=waa hw2;clear hpost hI1 hg1 hu1 hw ho1 hA0 hL0 hw1 hlk hf c0;go_wp2_with fail;refine hcl.out.mono ?_;intro e V2 hpost;obtain⟨hu2,hp2⟩:=hpost;cases ho2:t E.sp i1 l1 s1 with
 |wild=>exact absurd ho2 (AP.tame hw2.out)
 |stop bl l2 s2=>
  rw[ho2] at hp2;obtain⟨F2,rfl,hO2,hg2⟩:=hp2;exact⟨rfl,qal (hA1.out.offH hO2 hg2 hu2) (by rw[hob1.out,AP.bind_stop ho2])⟩
 |done a i2 l2 s2=>
  rw[ho2] at hp2;obtain⟨x2,F2,v2,rfl,⟨rfl,hq2⟩,hI2,hg2,hr2⟩:=hp2;have hw3:((lkA E 5 lock).bind λ_=>AP.ret a) E.sp i2 l2 s2≠ .wild:=AP.tame_next (f:=λr=>(lkA E 5 lock).bind λ_=>AP.ret r) hw2.out ho2;have hob2:=waa (hob1.out.trans (AP.bind_done ho2));have hnB:¬(F1 w.heap.size\/ownH A v H w.heap.size):=by
   rintro(e|e|e|e)
   ·exact hF1 e
   ·omega
   ·exact hR0 e
   ·exact hHB e
  have hL2:=(hu2.block _ hs2 hnB).trans hL1.out;have hF2:=hg2.no hs2 hF1;have hR2:v2.ownBlock≠some w.heap.size:=λe=>(hr2 _ e).elim hR0 (λe=>by omega)
  have hA2:=hA1.out.next hI2 hg2 hu2 hr2;have hs3:=wak hs2 hu2.size;obtain⟨⟨⟨a0,a1,a2⟩,ga⟩,aw⟩:=a;unfold anX anV;dsimp only
  have hBa:=(wai V2.heap.size V2).alloc (wah _) (.cells #[.int .i64 a0,.int .i64 a1,.int .u64 (a2:Int)] 60);have hx2:(V2.alloc (.cells #[.int .i64 a0,.int .i64 a1,.int .u64 (a2:Int)] 60)).heap[V2.heap.size]? =some (.cells #[.int .i64 a0,.int .i64 a1,.int .u64 (a2:Int)] 60 (0,0)):=heap_alloc_new V2 _;obtain⟨V3,hV3⟩:∃V3,V2.alloc (.cells #[.int .i64 a0,.int .i64 a1,.int .u64 (a2:Int)] 60)=V3:=⟨_,rfl⟩
  rw[hV3] at hBa hx2;have hA3:=hA2.below hBa;have hg2w:=hA2.g;have hq3:=waa (hQ _ _ _ (λ_=>False) hq2 (Upd.of_below hBa (wah _)) (λ_ e=>e.elim));have hL3:=waa ((hBa.block _ hs3).trans hL2);have hFb:¬F2 V2.heap.size:=λe=>by have:=hA2.a.i.lt e;omega
  have hbl:V2.heap.size<V3.heap.size:=(waj.1 hx2).1;have hs4:=wak hs3 hBa.size;have hul:=waa (qkn hA3.a.i lock (AP.tame hw3));obtain⟨⟨c0,-⟩,-⟩:=hA3.a.a.cells;rw[heb] at c0;replace hx2:=waa hx2;replace hA3:=waa hA3;replace hw3:=waa hw3;replace hV3:=waa hV3;clear hA2 hL2 hBa hI2 hg2 hu2 hr2 ho2 hA1 hL1 hcl hw2 hob1;go_upto_region 3 with fail
  rw[hV3.out];go_wp2_with fail;refine hul.out.mono ?_;rintro e V4 hpost;rcases DP.Post.done (t:=lkA E 5 lock) hpost (AP.tame hw3.out) with ⟨u4,i4,l4,s4,x4,F4,ho4,rfl,rfl,hI4,hg4,hu4⟩|⟨bl,l4,s4,F4,ho4,rfl,hO4,hg4,hu4⟩
  rotate_left
  ·exact⟨rfl,qal (hA3.out.off hO4 hg4 hu4) (by rw[hob2.out,AP.bind_stop ho4])⟩
  have hob3:=waa (hob2.out.trans (AP.bind_done ho4));have hL4:=(hu4.block _ hs4 hF2).trans hL3.out;have hx4:=(hu4.block _ hbl hFb).trans hx2.out;have hF4:=hg4.no hs4 hF2;have hA4:=hA3.out.step hI4 hg4 hu4;obtain⟨⟨p0,p1,p2⟩,pf⟩:=qaf hx4;obtain⟨⟨q0,q1,q2⟩,qf⟩:=qaf hL4;have hfin:=waa (AtH.done (t:=underG E lock t) (R:=λa x W=>x=anX a.1/\Q a.2 W) (a:=((a0,a1,a2),ga)) (x:=anX (a0,a1,a2)) (hA4.own (B:=w.heap.size) (wah _) hF4 hR2 (qam (.int .i64 a0) (.int .i64 a1) (.int .u64 (a2:Int))) hlt hab) hob3.out ⟨rfl,hQ _ _ _ (λk=>k=w.heap.size) (hQ _ _ _ _ hq3.out hu4 hg2w) (qam _ _ _) (λk hk=> .inr Zo)⟩);replace hL4:=waa hL4;clear hpost hI4 hg4 hu4 ho4 hA3 hx2 hL3 hul hw3 hob2 hob3 hA4 hx4;go_wp2_with fail;refine qak rfl rfl rfl (qai (qan hL4.out _ _ _)) ?_;exact hfin.out
end
end Go.Proofs.YtgjhkafggagniaaGreat
