/- Parts. No condition. -/
import Derived.Test.YtocncmbeinmiaaaGreatJoinU13
set_option linter.unusedVariables false
set_option maxRecDepth 100000
set_option maxHeartbeats 8000000
namespace Go.Proofs.YtocncmbeinmiaaaGreat
open Go Go.RowKit
structure DB (τ:Type) where
 X:Nat
 p:Nat
 gs:Nat
 gk:Nat
 m:Nat
 n:Nat
 tp:Nat
 tg:Nat
 nl:Nat
 who:Int
 df:Value
 Ex:τ->(Nat->Prop)->World->Prop
 exUpd:∀(t:τ) (G H:Nat->Prop) (w w':World),Ex t G w->Upd H w w'->(∀k,G k->¬H k)->Ex t G w'
 exLt:∀(t:τ) (G:Nat->Prop) (w:World) (k:Nat),Ex t G w->G k->k<w.heap.size
 exNot:∀(t:τ) (G:Nat->Prop) (w:World) (k:Nat) (Cs:Array Value) (ty:TypeId) (fr:Nat×Nat),Ex t G w->G k->w.heap[k]? =some (.cells Cs ty fr)->ty≠268/\ty≠91/\ty≠144
section
variable {τ:Type}
def DB.env(B:DB τ)(eb a b c:Nat)(fs:Value)(fuse:Int)(bef c0:Nat):DP τ:=⟨B.X,B.p,B.gs,B.gk,B.m,B.n,B.tp,B.tg,B.nl,eb,a,b,c,B.who,B.df,fs,fuse,bef,c0,B.Ex,B.exUpd,B.exLt,B.exNot⟩
def DB.At(B:DB τ)(C:Nat)(l:List Nat)(s:DM×τ)(ov:Bool)(T:List Nat)(F:Nat->Prop)(w:World):Prop:=
 ∃lv G an,RnP w B.X B.p B.tp B.who B.df lv l ov an/\(PsR w B.p B.gs B.gk B.m B.n B.tp B.tg B.nl C s.1/\B.Ex s.2 G w)/\
  ((∀k,psF B.p B.gs B.gk B.m B.tp B.tg k\/G k\/k=B.X\/lv.ownBlock=some k\/an.ownBlock=some k->F k)/\(∀k,F k->k<w.heap.size)/\(∀k,G k->¬psF B.p B.gs B.gk B.m B.tp B.tg k))/\
  (ov=true->w.ownsRow (B.X+1) 27 1 an T.length (u64V T)/\(T.length=0->an= .slice none 0 0))/\(ov=false->an= .slice none 0 0)/\∀y∈l,y<18446744073709551616
variable {B:DB τ} {l l':List Nat} {s s':DM×τ} {F F':Nat->Prop} {w w' V w2 w3:World} {eb a b c b5 Bb C:Nat} {fs:Value} {fuse:Int} {ov:Bool} {T:List Nat}
theorem DB.At.upd{H:Nat->Prop}(h:B.At C l s ov T F w)(hu:Upd H w w')(hF:∀k,F k->¬H k):B.At C l s ov T F w':=by
 obtain⟨lv,G,an,k1,⟨k2,k3⟩,⟨k4,k5,k6⟩,k7,k8⟩:=h;exact⟨lv,G,an,k1.upd hu (hF _ (k4 _ (.inr (.inr (.inl rfl))))) (λk hk=>hF k (k4 _ (.inr (.inr (.inr (.inl hk)))))),⟨k2.upd hu (λk hk=>hF k (k4 _ (.inl hk))),B.exUpd _ _ _ _ _ k3 hu (λk hk=>hF k (k4 _ (.inr (.inl hk))))⟩,
  ⟨k4,λk hk=>waw (k5 k hk) hu.size,k6⟩,λe=>⟨qde (k7 e).1 hu (λk hk=>hF k (k4 _ (.inr (.inr (.inr (.inr hk)))))),(k7 e).2⟩,k8⟩
def DB.Pre(B:DB τ)(E:DP τ)(l:List Nat)(s:DM×τ)(F:Nat->Prop)(w V:World)(Bb b5:Nat):Prop:=
 E.In 0 l s (λk=>F k\/k=E.eb) V/\Boxed V b5 136 (.pointer (some ⟨E.eb,0,none⟩))/\Boxed V Bb 4 (.bool false)/\Upd (λ_=>False) w V/\w.heap.size<=E.eb/\w.heap.size<=Bb/\w.heap.size<=b5/\(∀k,F k->k<w.heap.size)/\¬(F b5\/b5=E.eb)/\¬(F Bb\/Bb=E.eb)
theorem qlx(h:B.At C l s false T F w)(hC:C+100000<maxLen)(hl:l.length<=99000)(hU:Upd (λ_=>False) w V)(hE:EvR V eb (some B.X) B.who 0 fs false false)(hF:FsR V fs B.X fuse l.length a b c)(h5:Boxed V b5 136 (.pointer (some ⟨eb,0,none⟩)))(hB:Boxed V Bb 4 (.bool false))(hn:w.heap.size<=eb/\w.heap.size<=b5/\w.heap.size<=Bb/\w.heap.size<=a/\w.heap.size<=b/\w.heap.size<=c):
  B.Pre (B.env eb a b c fs fuse l.length C) l s F w V Bb b5:=by
 obtain⟨n1,n2,n3,n4,n5,n6⟩:=hn;obtain⟨lv,G,an,k1,⟨k2,k3⟩,⟨k4,k5,k6⟩,k7,k8⟩:=h;obtain rfl:=k8.1 rfl;have hnF:∀k,w.heap.size<=k->k≠eb->¬(F k\/k=eb):=λk hk hne e=>e.elim (λe=>by have:=k5 k e;omega) hne
 refine⟨⟨lv,G,hE,hF,k1.upd hU (λe=>e) (λ_ _ e=>e),⟨(k2.upd hU (λ_ _ e=>e)).more (Nat.le_add_right _ _),B.exUpd _ _ _ _ _ k3 hU (λ_ _ e=>e)⟩,⟨?_,?_,k6⟩,⟨hnF _ n4 (qbn hF.2.1 hE Zd),hnF _ n5 (qbn hF.2.2.1 hE Zd),hnF _ n6 (qbn hF.2.2.2 hE Zd)⟩,wau _,wab _,hC,hl,k8.2⟩,h5,hB,hU,n1,n3,n2,k5,hnF _ n2 (qbn h5 hE Zd),hnF _ n3 (qbn hB hE Zd)⟩
 ·rintro k (e|e|e|e|e)
  ·exact .inl (k4 k (.inl e))
  ·exact .inl (k4 k (.inr (.inl e)))
  ·exact .inr e
  ·exact .inl (k4 k (.inr (.inr (.inl e))))
  ·exact .inl (k4 k (.inr (.inr (.inr (.inl e)))))
 ·rintro k (e|e)
  ·exact waw (k5 k e) hU.size
  ·exact e▸hE.lt
theorem DB.Pre.upd{E:DP τ}(h:B.Pre E l s F w V Bb b5)(hu2:Upd (λk=>F k\/k=E.eb) V w2)(hu3:Upd (λk=>k=E.eb\/k=Bb) w2 w3):Upd F w w3:=by
 obtain⟨-,-,-,h4,h5,h6,h7,-,-,-⟩:=h;have h42:Upd F w w2:=(h4.mono (λ_ e=>e.elim)).after hu2 (λj e=>by rcases e with e|rfl;exact .inl e;exact .inr h5);exact h42.after hu3 (λj e=> .inr (by rcases e with rfl|rfl;exact h5;exact h6))
theorem qp2{E:DP τ}(h:B.Pre E l s F w V Bb b5)(hg:Grows (λk=>F k\/k=E.eb) F' V):Grows F (λk=>F' k/\k≠E.eb/\k≠Bb) w:=by
 intro k hk;rcases hg k hk.1 with (e|e)|e
 ·exact .inl e
 ·exact absurd e hk.2.1
 ·exact .inr (wap h.2.2.2.1.size e)
theorem qj0(h:B.Pre (B.env eb a b c fs fuse l.length C) l s F w V Bb b5)(hu2:Upd (λk=>F k\/k=eb) V w2)(hD:(B.env eb a b c fs fuse l.length C).Done l' s' T F' w2)(hg:Grows (λk=>F k\/k=eb) F' V)(hb2:Boxed w2 Bb 4 (.bool false))(hu3:Upd (λk=>k=eb\/k=Bb) w2 w3):Upd F w w3/\∃F',B.At (C+l'.length+1) l' s' true T F' w3/\Grows F F' w:=by
 obtain⟨lv,G,an,⟨i,hE⟩,hR,hM,hc,hca,hrow,hz,hl64⟩:=hD;refine⟨h.upd hu2 hu3,λk=>F' k/\k≠eb/\k≠Bb,?_,qp2 h hg⟩;have hE:EvR w2 eb _ _ i _ false false:=hE;have hR:RnP w2 B.X B.p B.tp B.who B.df lv l' true an:=hR;have hM1:PsR w2 B.p B.gs B.gk B.m B.n B.tp B.tg B.nl (C+l'.length) s'.1:=hM.1;have hM2:B.Ex s'.2 G w2:=hM.2;have hrow:w2.ownsRow (B.X+1) 27 1 an T.length (u64V T):=hrow;have e1:∀k,psF B.p B.gs B.gk B.m B.tp B.tg k->k≠eb/\k≠Bb:=λk hk=>⟨λe=>hM1.not hE Zd Zd Zd (.inl Zd) (e▸hk),λe=>hM1.not hb2 Zd Zd Zd (.inl Zd) (e▸hk)⟩
 have hBF:¬F' Bb:=λe=>by
  rcases hg _ e with e'|e'
  ·exact h.2.2.2.2.2.2.2.2.2 e'
  ·have:=h.2.2.1.lt;omega
 have e2:∀k,G k->k≠eb/\k≠Bb:=λk hk=>⟨λe=>(B.exNot _ _ _ _ _ _ _ hM2 (e▸hk) hE).2.2 rfl,λe=>hBF (e▸hc.1 k (.inr (.inl hk)))⟩
 have e3:B.X≠eb/\B.X≠Bb:=⟨qbn hR.1 hE Zd,qbn hR.1 hb2 Zd⟩
 have e4:∀k,lv.ownBlock=some k->k≠eb/\k≠Bb:=λk hk=>⟨λe=>qaz hE Zd hR.2 (by rw[hk,e]),λe=>qaz hb2 Zd hR.2 (by rw[hk,e])⟩
 have e5:∀k,an.ownBlock=some k->k≠eb/\k≠Bb:=λk hk=>⟨λe=>qaz hE Zd hrow (by rw[hk,e]),λe=>qaz hb2 Zd hrow (by rw[hk,e])⟩
 have e0:∀{k:Nat},k≠eb/\k≠Bb->¬(k=eb\/k=Bb):=λhk e=>e.elim hk.1 hk.2
 refine⟨lv,G,an,hR.upd hu3 (e0 e3) (λk hk=>e0 (e4 k hk)),⟨(hM1.upd hu3 (λk hk=>e0 (e1 k hk))).more Zo,B.exUpd _ _ _ _ _ hM2 hu3 (λk hk=>e0 (e2 k hk))⟩,⟨?_,λk hk=>waw (hc.2.1 k hk.1) hu3.size,hc.2.2⟩,λ_=>⟨qde hrow hu3 (λk hk=>e0 (e5 k hk)),hz⟩,λe=>(by cases e),hl64⟩;rintro k (e|e|e|e|e)
 ·exact⟨hc.1 k (.inl e),e1 k e⟩
 ·exact⟨hc.1 k (.inr (.inl e)),e2 k e⟩
 ·exact⟨hc.1 k (.inr (.inr (.inr (.inl e)))),e▸e3⟩
 ·exact⟨hc.1 k (.inr (.inr (.inr (.inr e)))),e4 k e⟩
 ·exact⟨hca k e,e5 k e⟩
theorem qkn{bl:Bool}(h:B.Pre (B.env eb a b c fs fuse l.length C) l s F w V Bb b5)(hu2:Upd (λk=>F k\/k=eb) V w2)(hD:(B.env eb a b c fs fuse l.length C).Off bl l' s' F' w2)(hg:Grows (λk=>F k\/k=eb) F' V)(hb2:Boxed w2 Bb 4 (.bool false))(hu3:Upd (λk=>k=eb\/k=Bb) w2 w3):Upd F w w3/\∃F',B.At (C+l'.length+1) l' s' false [] F' w3/\Grows F F' w:=by
 obtain⟨lv,G,⟨i,hE⟩,hR,hM,hc,hl64⟩:=hD;refine⟨h.upd hu2 hu3,λk=>F' k/\k≠eb/\k≠Bb,?_,qp2 h hg⟩;have hE:EvR w2 eb _ _ i _ true bl:=hE;have hR:RnP w2 B.X B.p B.tp B.who B.df lv l' false (.slice none 0 0):=hR;have hM1:PsR w2 B.p B.gs B.gk B.m B.n B.tp B.tg B.nl (C+l'.length+1) s'.1:=hM.1;have hM2:B.Ex s'.2 G w2:=hM.2;have e1:∀k,psF B.p B.gs B.gk B.m B.tp B.tg k->k≠eb/\k≠Bb:=λk hk=>⟨λe=>hM1.not hE Zd Zd Zd (.inl Zd) (e▸hk),λe=>hM1.not hb2 Zd Zd Zd (.inl Zd) (e▸hk)⟩
 have hBF:¬F' Bb:=λe=>by
  rcases hg _ e with e'|e'
  ·exact h.2.2.2.2.2.2.2.2.2 e'
  ·have:=h.2.2.1.lt;omega
 have e2:∀k,G k->k≠eb/\k≠Bb:=λk hk=>⟨λe=>(B.exNot _ _ _ _ _ _ _ hM2 (e▸hk) hE).2.2 rfl,λe=>hBF (e▸hc.1 k (.inr (.inl hk)))⟩
 have e3:B.X≠eb/\B.X≠Bb:=⟨qbn hR.1 hE Zd,qbn hR.1 hb2 Zd⟩
 have e4:∀k,lv.ownBlock=some k->k≠eb/\k≠Bb:=λk hk=>⟨λe=>qaz hE Zd hR.2 (by rw[hk,e]),λe=>qaz hb2 Zd hR.2 (by rw[hk,e])⟩
 have e0:∀{k:Nat},k≠eb/\k≠Bb->¬(k=eb\/k=Bb):=λhk e=>e.elim hk.1 hk.2
 refine⟨lv,G,_,hR.upd hu3 (e0 e3) (λk hk=>e0 (e4 k hk)),⟨hM1.upd hu3 (λk hk=>e0 (e1 k hk)),B.exUpd _ _ _ _ _ hM2 hu3 (λk hk=>e0 (e2 k hk))⟩,⟨?_,λk hk=>waw (hc.2.1 k hk.1) hu3.size,hc.2.2⟩,λe=>(by cases e),λ_=>rfl,hl64⟩;rintro k (e|e|e|e|e)
 ·exact⟨hc.1 k (.inl e),e1 k e⟩
 ·exact⟨hc.1 k (.inr (.inl e)),e2 k e⟩
 ·exact⟨hc.1 k (.inr (.inr (.inr (.inl e)))),e▸e3⟩
 ·exact⟨hc.1 k (.inr (.inr (.inr (.inr e)))),e4 k e⟩
 ·cases e
def DB.LetO(B:DB τ)(C:Nat)(F:Nat->Prop)(w:World)(e:Ending)(w':World):Out (DM×τ) (List Nat)->Prop
 | .done T i l s=>e= .returned (.bool false)/\∃F',B.At (C+l.length+1) l s true T F' w'/\Grows F F' w
 | .stop bl l s=>e= .returned (.bool bl)/\∃F',B.At (C+l.length+1) l s false [] F' w'/\Grows F F' w
 | .wild=>True
def DB.Let(B:DB τ)(C:Nat)(o:Out (DM×τ) (List Nat))(F:Nat->Prop)(w:World)(e:Ending)(w':World):Prop:=Upd F w w'/\B.LetO C F w e w' o
theorem q6x{DF:Nat}{caps:Array Value}{t:AP (DM×τ) (List Nat)}(hen:∀(args:Array Value) (w:World),(callFunc DF args).run Tryz.prog w= .ok (.enter DF args) w)(h:B.At C l s false T F w)(hC:C+100000<maxLen)(hl:l.length<=99000)(fuse:Int)(hdf:B.df= .func (.func DF) #[] caps)(hw:t (qbi fuse l.length) 0 l s≠ .wild)(hdeed:∀eb a b c fs V F',Upd (λ_=>False) w V->(B.env eb a b c fs fuse l.length C).In 0 l s F' V->(∀k,F' k->F k\/w.heap.size<=k)->Calls Tryz.prog DF (#[.pointer (some ⟨eb,0,none⟩)]++caps) V λe w'=>(B.env eb a b c fs fuse l.length C).Post (t (qbi fuse l.length) 0 l s) ansR F' V e w'):
  Calls Tryz.prog 40 #[.pointer (some ⟨B.X,0,none⟩),.int .i64 fuse] w λe w'=>B.Let C (t (qbi fuse l.length) 0 l s) F w e w':=by
 have hmf:∀(fn:Fn) (first cap:Array Value) (w:World),(Instr.makeFunc fn first cap).run Tryz.prog w= .ok (.func fn first cap) w:=λ_ _ _ _=>rfl
 have hdeed:=waa hdeed;have hw:=waa hw;have hdf:=waa hdf;have hh:=waa h;obtain⟨lv,G,an,hR,-,-,-,han⟩:=h;obtain rfl:=han.1 rfl;go_enter_defers Tryz.func40,Tryz.ntmps40
 go_wp2_with fail;obtain⟨Bb,hBb⟩:∃B,w.heap.size=B:=⟨_,rfl⟩
 have hbb:Boxed (w.alloc (.cells #[.bool false] 4)) w.heap.size 4 (.bool false):=qan rfl _ _;have hU0:Upd (λ_=>False) w (w.alloc (.cells #[.bool false] 4)):=(Upd.refl _ w).alloc _;have hR0:=hR.upd hU0 (λe=>e) (λ_ _ e=>e);rw[hBb] at hbb ⊢;have hBw:=waa (wc3 hBb);generalize w.alloc (.cells #[.bool false] 4)=W at hbb hU0 hR0 ⊢;have hf1:=waa (qqj (show RnP W.drew _ _ _ _ _ _ _ _ _ from hR0) fuse);have hUa:Upd (λ_=>False) W (W.drew.alloc (.cells #[.pointer none] 136)):=(Upd.refl _ W).drew.alloc _;have hf2:=waa (qqj (hR0.upd hUa (λe=>e) (λ_ _ e=>e)) fuse);have hXW:=hR0.lt;obtain⟨-,-,x2,-,-,-,-,-⟩:=hR0.cells;have hR0:=waa hR0;have hU0:=waa hU0;have hbb:=waa hbb;clear hR hBb hUa;have hb5:(W.drew.alloc (.cells #[.pointer none] 136)).heap[W.drew.heap.size]? =_:=qan (V:=W.drew) rfl #[.pointer none] 136;have hb5:=waa hb5;refine wp_region_noPanic ?_;refine wp_region_held_drew (S:=λV=>V.cell? ⟨B.X,2,none⟩=some (.int .i64 B.who)) Zk x2 (λhHeld=>?_);refine wpAnyH_take (i:=0) (v:=?_) rfl Zk Zk Zk (λ_ _ _ h=>h) (Or.inl ⟨by rfl,?_⟩) Za ?_;rotate_left;(·intro u h;(try dsimp only at h);(try simp only[wad,wae]);go_simp;try with_reducible rfl);try simp only[Act.put,wag,wah,wai,wad,wae]
 refine wpAnyH_take (i:=1) (v:=?_) rfl Zk Zk Zk (λ_ _ _ h=>h) (Or.inl ⟨by rfl,?_⟩) Za ?_;rotate_left;(·intro u h;(try dsimp only at h);(try simp only[wad,wae,waf]);go_simp;try with_reducible rfl);try simp only[Act.put,wag,wah,wai,wad,wae,waf]
 refine wpAnyH_take (i:=2) (v:=?_) rfl Zk Zk Zk (λ_ _ _ h=>h) (Or.inl ⟨by rfl,?_⟩) Za ?_;rotate_left;(·intro u h;(try dsimp only at h);(try simp only[wad,wae,waf]);go_simp;try with_reducible rfl);try simp only[Act.put,wag,wah,wai,wad,wae,waf]
 refine wpAnyH_take (i:=3) (v:=?_) rfl Zk Zk Zk (λ_ _ _ h=>h) (Or.inl ⟨by rfl,?_⟩) Za ?_;rotate_left;(·intro u h;(try dsimp only at h);(try simp only[wad,wae,waf]);go_simp;try with_reducible rfl);try simp only[Act.put,wag,wah,wai,wad,wae,waf]
 refine wpAnyH_take (i:=4) (v:=?_) rfl Zk Zk Zk (λ_ _ _ h=>h) (Or.inl ⟨by rfl,?_⟩) Za ?_;rotate_left;(·intro u h;(try dsimp only at h);(try simp only[wad,wae,waf]);go_simp;try with_reducible rfl);try simp only[Act.put,wag,wah,wai,wad,wae,waf]
 refine wpAnyH_take (i:=5) (v:=?_) rfl Zk Zk Zk (λ_ _ _ h=>h) (Or.inl ⟨by rfl,?_⟩) Za ?_;rotate_left;(·intro u h;(try dsimp only at h);(try simp only[wad,wae,waf]);go_simp;try with_reducible rfl);try simp only[Act.put,wag,wah,wai,wad,wae,waf]
 refine wpAnyH_take (i:=6) (v:=?_) rfl Zk Zk Zk (λ_ _ _ h=>h) (Or.inl ⟨by rfl,?_⟩) Za ?_;rotate_left;(·intro u h;(try dsimp only at h);(try simp only[wad,wae,waf]);go_simp;try with_reducible rfl);try simp only[Act.put,wag,wah,wai,wad,wae,waf]
 refine wpAnyH_ready (rs:=[7,10]) Zk Zs ?_;refine AllReadyH.cons rfl (λK hK=>?_) (AllReadyH.cons rfl (λK hK=>?_) AllReadyH.nil)
 ·(try simp only[wad,wae,waf])
  go_simp
  go_at_call 72
  refine hf1.out.mono ?_;rintro e w1 ⟨fs,a,b,c,rfl,⟨rfl,hF⟩,hsz,hB1⟩;have x2':w1.cell? ⟨B.X,2,none⟩=some (.int .i64 B.who):=(hB1.cell (p:=⟨B.X,2,none⟩) hXW).trans x2;have hU1:Upd (λ_=>False) W w1:=(Upd.refl _ W).drew.trans (Upd.of_below hB1 (wab _));have hsz:W.heap.size<=a/\W.heap.size<=b/\W.heap.size<=c:=hsz;go_wp2_with fail;refine hK.out _ _ (x2') (λhHeld2=>?_);clear hK K hHeld;have hHeld:=hHeld2;clear hHeld2;try simp only[Act.put,wag,wah,wai,wad,wae,waf]
  refine wpAnyH_take (i:=8) (v:=?_) rfl Zk Zk Zk (λ_ _ _ h=>h) (Or.inl ⟨by rfl,?_⟩) Za ?_;rotate_left;(·intro u h;(try dsimp only at h);(try simp only[wad,wae,waf]);go_simp;try with_reducible rfl);try simp only[Act.put,wag,wah,wai,wad,wae,waf]
  refine wpAnyH_ready (rs:=[9,10]) Zk Zs ?_;refine AllReadyH.cons rfl (λK hK=>?_) (AllReadyH.cons rfl (λK hK=>?_) AllReadyH.nil)
  ·(try simp only[wad,wae,waf])
   go_simp
   refine hK.out _ _ (by go_keep) (λhHeld2=>?_);clear hK K hHeld;have hHeld:=hHeld2;clear hHeld2;try simp only[Act.put,wag,wah,wai,wad,wae,waf]
   refine wpAnyH_ready (rs:=[10]) Zk Zs ?_;refine AllReadyH.cons rfl (λK hK=>?_) AllReadyH.nil
   ·(try simp only[wad,wae,waf])
    go_simp
    refine hK.out _ _ (by go_keep) (λhHeld2=>?_);clear hK K hHeld;have hHeld:=hHeld2;clear hHeld2;try simp only[Act.put,wag,wah,wai,wad,wae,waf]
    refine wpAnyH_ready (rs:=[11]) Zk Zs ?_;refine AllReadyH.cons rfl (λK hK=>?_) AllReadyH.nil
    ·(try simp only[wad,wae,waf])
     go_simp
     refine hK.out _ _ (by go_keep) (λhHeld2=>?_);clear hK K hHeld;have hHeld:=hHeld2;clear hHeld2;try simp only[Act.put,wag,wah,wai,wad,wae,waf]
     refine wpAnyH_done Zk ?_ _;refine NoPanic.normal ?_;have hUV:Upd (λ_=>False) W ((w1.alloc (.cells #[.pointer (some ⟨B.X,0,none⟩),.int .i64 B.who,.int .i64 0,.func (.func 110) #[] #[.pointer (some ⟨a,0,none⟩),.pointer (some ⟨b,0,none⟩),.pointer (some ⟨c,0,none⟩)],.bool false,.bool false] 144)).alloc (.cells #[.pointer (some ⟨w1.heap.size,0,none⟩)] 136)):=(hU1.alloc _).alloc _;have hW0:=hU0.out.size;have hBw1:=hBw.out;have hW1:=hU1.size;have hpre:=qlx hh.out hC hl (hU0.out.trans hUV) (show EvR ((w1.alloc (.cells #[.pointer (some ⟨B.X,0,none⟩),.int .i64 B.who,.int .i64 0,.func (.func 110) #[] #[.pointer (some ⟨a,0,none⟩),.pointer (some ⟨b,0,none⟩),.pointer (some ⟨c,0,none⟩)],.bool false,.bool false] 144)).alloc (.cells #[.pointer (some ⟨w1.heap.size,0,none⟩)] 136)) (w1.heap.size) (some B.X) B.who 0 _ false false from qag (qan rfl _ _) _) (FsR.upd (⟨rfl,hF⟩:FsR w1 (.func (.func 110) #[] #[.pointer (some ⟨a,0,none⟩),.pointer (some ⟨b,0,none⟩),.pointer (some ⟨c,0,none⟩)]) B.X fuse l.length a b c) (((Upd.refl (λ_=>False) w1).alloc _).alloc _) (λe=>e) (λe=>e) (λe=>e)) (show Boxed ((w1.alloc (.cells #[.pointer (some ⟨B.X,0,none⟩),.int .i64 B.who,.int .i64 0,.func (.func 110) #[] #[.pointer (some ⟨a,0,none⟩),.pointer (some ⟨b,0,none⟩),.pointer (some ⟨c,0,none⟩)],.bool false,.bool false] 144)).alloc (.cells #[.pointer (some ⟨w1.heap.size,0,none⟩)] 136)) (w1.heap.size+1) 136 _ from qan Zs _ _) (qal hbb.out hUV (λe=>e)) ⟨Zo,Zo,Zo,Zo,Zo,Zo⟩;clear hHeld hUV x2' x2 hF hsz hB1 hU1 hb5;generalize ((w1.alloc (.cells #[.pointer (some ⟨B.X,0,none⟩),.int .i64 B.who,.int .i64 0,.func (.func 110) #[] #[.pointer (some ⟨a,0,none⟩),.pointer (some ⟨b,0,none⟩),.pointer (some ⟨c,0,none⟩)],.bool false,.bool false] 144)).alloc (.cells #[.pointer (some ⟨w1.heap.size,0,none⟩)] 136))=V at hpre ⊢;generalize w1.heap.size+1=b5 at hpre ⊢;generalize w1.heap.size=eb at hpre ⊢;have hend:=waa (ql0 hen hpre.1 hdf.out hw.out (hdeed.out _ _ _ _ _ _ _ hpre.2.2.2.1 hpre.1 (λk hk=>hk.imp id (λe=>by have:=hpre.2.2.2.2.1;omega))));have c5:=hpre.2.1.cell;have hpre:=waa hpre;go_wp2_with fail;refine hend.out.mono ?_;rintro e w2 ⟨hu2,hE2⟩;have hE2:DP.EndO _ _ _ e w2 (t (qbi fuse l.length) 0 l s):=hE2;generalize ho:t (qbi fuse l.length) 0 l s=o at hw hE2;cases o with
     |wild=>exact absurd rfl hw.out
     |done T' i' l' s'=>
      obtain⟨rfl,F',hD,hg⟩:=hE2;have hD2:=hD;obtain⟨lv2,G2,an2,⟨i2,hEv⟩,-⟩:=hD2;have h52:=qal hpre.out.2.1 hu2 hpre.out.2.2.2.2.2.2.2.2.1;have hb2:=qal hpre.out.2.2.1 hu2 hpre.out.2.2.2.2.2.2.2.2.2;have hfin:=waa (λw3 hu3=>qj0 (w3:=w3) hpre.out hu2 hD hg hb2 hu3);have hdoor:=waa (qj9 hEv h52 hb2);clear hEv h52 hb2 hD hg hu2;go_wp2_with fail;refine leaves_cons (f:=73) (args:=#[.pointer (some ⟨b5,0,none⟩),.pointer (some ⟨Bb,0,none⟩)]) Zs (by simp[go_sem]) ?_;refine hdoor.out.mono ?_;rintro e u' w3 ⟨rfl,rfl,hb3,hu3⟩;have z3:=hb3.cell;have h1:=hfin.out w3 hu3;simp[Leaves,settle,results,Tryz.results40,go_sem,z3]
      rw[ho];exact⟨h1.1,rfl,h1.2⟩
     |stop bk l' s'=>
      obtain⟨F',rfl,hO,hg⟩:=hE2;have hO2:=hO;obtain⟨lv2,G2,⟨i2,hEv⟩,-⟩:=hO2;have h52:=qal hpre.out.2.1 hu2 hpre.out.2.2.2.2.2.2.2.2.1;have hb2:=qal hpre.out.2.2.1 hu2 hpre.out.2.2.2.2.2.2.2.2.2;have hfin:=waa (λw3 hu3=>qkn (w3:=w3) hpre.out hu2 hO hg hb2 hu3);have hdoor:=waa (qkf hEv h52 hb2);clear hEv h52 hb2 hO hg hu2;go_wp2_with fail;refine leaves_cons (f:=73) (args:=#[.pointer (some ⟨b5,0,none⟩),.pointer (some ⟨Bb,0,none⟩)]) Zs (by simp[go_sem]) ?_;refine hdoor.out.mono ?_;rintro e u' w3 ⟨rfl,hu',hb3,hu3⟩;have z3:=hb3.cell;have h1:=hfin.out w3 hu3;cases bk<;>simp[Leaves,hu',results,Tryz.results40,go_sem,z3]<;>rw[ho]<;>exact⟨h1.1,rfl,h1.2⟩
  ·(try simp only[wad,wae,waf])
   go_simp
   refine hK.out _ _ (by go_keep) (λhHeld2=>?_);clear hK K hHeld;have hHeld:=hHeld2;clear hHeld2;try simp only[Act.put,wag,wah,wai,wad,wae,waf]
   refine wpAnyH_ready (rs:=[9]) Zk Zs ?_;refine AllReadyH.cons rfl (λK hK=>?_) AllReadyH.nil
   ·(try simp only[wad,wae,waf])
    go_simp
    refine hK.out _ _ (by go_keep) (λhHeld2=>?_);clear hK K hHeld;have hHeld:=hHeld2;clear hHeld2;try simp only[Act.put,wag,wah,wai,wad,wae,waf]
    refine wpAnyH_ready (rs:=[11]) Zk Zs ?_;refine AllReadyH.cons rfl (λK hK=>?_) AllReadyH.nil
    ·(try simp only[wad,wae,waf])
     go_simp
     refine hK.out _ _ (by go_keep) (λhHeld2=>?_);clear hK K hHeld;have hHeld:=hHeld2;clear hHeld2;try simp only[Act.put,wag,wah,wai,wad,wae,waf]
     refine wpAnyH_done Zk ?_ _;refine NoPanic.normal ?_;have hUV:Upd (λ_=>False) W ((w1.alloc (.cells #[.pointer (some ⟨w1.heap.size+1,0,none⟩)] 136)).alloc (.cells #[.pointer (some ⟨B.X,0,none⟩),.int .i64 B.who,.int .i64 0,.func (.func 110) #[] #[.pointer (some ⟨a,0,none⟩),.pointer (some ⟨b,0,none⟩),.pointer (some ⟨c,0,none⟩)],.bool false,.bool false] 144)):=(hU1.alloc _).alloc _;have hW0:=hU0.out.size;have hBw1:=hBw.out;have hW1:=hU1.size;have hpre:=qlx hh.out hC hl (hU0.out.trans hUV) (show EvR ((w1.alloc (.cells #[.pointer (some ⟨w1.heap.size+1,0,none⟩)] 136)).alloc (.cells #[.pointer (some ⟨B.X,0,none⟩),.int .i64 B.who,.int .i64 0,.func (.func 110) #[] #[.pointer (some ⟨a,0,none⟩),.pointer (some ⟨b,0,none⟩),.pointer (some ⟨c,0,none⟩)],.bool false,.bool false] 144)) (w1.heap.size+1) (some B.X) B.who 0 _ false false from qan Zs _ _) (FsR.upd (⟨rfl,hF⟩:FsR w1 (.func (.func 110) #[] #[.pointer (some ⟨a,0,none⟩),.pointer (some ⟨b,0,none⟩),.pointer (some ⟨c,0,none⟩)]) B.X fuse l.length a b c) (((Upd.refl (λ_=>False) w1).alloc _).alloc _) (λe=>e) (λe=>e) (λe=>e)) (show Boxed ((w1.alloc (.cells #[.pointer (some ⟨w1.heap.size+1,0,none⟩)] 136)).alloc (.cells #[.pointer (some ⟨B.X,0,none⟩),.int .i64 B.who,.int .i64 0,.func (.func 110) #[] #[.pointer (some ⟨a,0,none⟩),.pointer (some ⟨b,0,none⟩),.pointer (some ⟨c,0,none⟩)],.bool false,.bool false] 144)) (w1.heap.size) 136 _ from qag (qan rfl _ _) _) (qal hbb.out hUV (λe=>e)) ⟨Zo,Zo,Zo,Zo,Zo,Zo⟩;clear hHeld hUV x2' x2 hF hsz hB1 hU1 hb5;generalize ((w1.alloc (.cells #[.pointer (some ⟨w1.heap.size+1,0,none⟩)] 136)).alloc (.cells #[.pointer (some ⟨B.X,0,none⟩),.int .i64 B.who,.int .i64 0,.func (.func 110) #[] #[.pointer (some ⟨a,0,none⟩),.pointer (some ⟨b,0,none⟩),.pointer (some ⟨c,0,none⟩)],.bool false,.bool false] 144))=V at hpre ⊢;generalize w1.heap.size+1=eb at hpre ⊢;generalize w1.heap.size=b5 at hpre ⊢;have hend:=waa (ql0 hen hpre.1 hdf.out hw.out (hdeed.out _ _ _ _ _ _ _ hpre.2.2.2.1 hpre.1 (λk hk=>hk.imp id (λe=>by have:=hpre.2.2.2.2.1;omega))));have c5:=hpre.2.1.cell;have hpre:=waa hpre;go_wp2_with fail;refine hend.out.mono ?_;rintro e w2 ⟨hu2,hE2⟩;have hE2:DP.EndO _ _ _ e w2 (t (qbi fuse l.length) 0 l s):=hE2;generalize ho:t (qbi fuse l.length) 0 l s=o at hw hE2;cases o with
     |wild=>exact absurd rfl hw.out
     |done T' i' l' s'=>
      obtain⟨rfl,F',hD,hg⟩:=hE2;have hD2:=hD;obtain⟨lv2,G2,an2,⟨i2,hEv⟩,-⟩:=hD2;have h52:=qal hpre.out.2.1 hu2 hpre.out.2.2.2.2.2.2.2.2.1;have hb2:=qal hpre.out.2.2.1 hu2 hpre.out.2.2.2.2.2.2.2.2.2;have hfin:=waa (λw3 hu3=>qj0 (w3:=w3) hpre.out hu2 hD hg hb2 hu3);have hdoor:=waa (qj9 hEv h52 hb2);clear hEv h52 hb2 hD hg hu2;go_wp2_with fail;refine leaves_cons (f:=73) (args:=#[.pointer (some ⟨b5,0,none⟩),.pointer (some ⟨Bb,0,none⟩)]) Zs (by simp[go_sem]) ?_;refine hdoor.out.mono ?_;rintro e u' w3 ⟨rfl,rfl,hb3,hu3⟩;have z3:=hb3.cell;have h1:=hfin.out w3 hu3;simp[Leaves,settle,results,Tryz.results40,go_sem,z3]
      rw[ho];exact⟨h1.1,rfl,h1.2⟩
     |stop bk l' s'=>
      obtain⟨F',rfl,hO,hg⟩:=hE2;have hO2:=hO;obtain⟨lv2,G2,⟨i2,hEv⟩,-⟩:=hO2;have h52:=qal hpre.out.2.1 hu2 hpre.out.2.2.2.2.2.2.2.2.1;have hb2:=qal hpre.out.2.2.1 hu2 hpre.out.2.2.2.2.2.2.2.2.2;have hfin:=waa (λw3 hu3=>qkn (w3:=w3) hpre.out hu2 hO hg hb2 hu3);have hdoor:=waa (qkf hEv h52 hb2);clear hEv h52 hb2 hO hg hu2;go_wp2_with fail;refine leaves_cons (f:=73) (args:=#[.pointer (some ⟨b5,0,none⟩),.pointer (some ⟨Bb,0,none⟩)]) Zs (by simp[go_sem]) ?_;refine hdoor.out.mono ?_;rintro e u' w3 ⟨rfl,hu',hb3,hu3⟩;have z3:=hb3.cell;have h1:=hfin.out w3 hu3;cases bk<;>simp[Leaves,hu',results,Tryz.results40,go_sem,z3]<;>rw[ho]<;>exact⟨h1.1,rfl,h1.2⟩
 ·(try simp only[wad,wae,waf])
  go_simp
  refine hK.out _ _ (by go_keep) (λhHeld2=>?_);clear hK K hHeld;have hHeld:=hHeld2;clear hHeld2;try simp only[Act.put,wag,wah,wai,wad,wae,waf]
  refine wpAnyH_ready (rs:=[7]) Zk Zs ?_;refine AllReadyH.cons rfl (λK hK=>?_) AllReadyH.nil
  ·(try simp only[wad,wae,waf])
   go_simp
   go_at_call 72
   refine hf2.out.mono ?_;rintro e w1 ⟨fs,a,b,c,rfl,⟨rfl,hF⟩,hsz,hB1⟩;have x2':w1.cell? ⟨B.X,2,none⟩=some (.int .i64 B.who):=(hB1.cell (p:=⟨B.X,2,none⟩) Zx).trans (by go_keep);have hb6:=(hB1.block W.drew.heap.size Zs).trans hb5.out;have g0:=qaa hb6 0;have gf:=λj=>qaj hb6 j
   (try simp at g0)
   (try simp at gf)
   have hb6:=waa hb6;have hU1:Upd (λ_=>False) W w1:=((Upd.refl _ W).drew.alloc _).trans (Upd.of_below hB1 (wab _));have hsz:W.heap.size<=a/\W.heap.size<=b/\W.heap.size<=c:=by obtain⟨q1,q2,q3⟩:=hsz;simp at q1 q2 q3;exact⟨Zo,Zo,Zo⟩
   go_wp2_with fail;refine hK.out _ _ (x2') (λhHeld2=>?_);clear hK K hHeld;have hHeld:=hHeld2;clear hHeld2;try simp only[Act.put,wag,wah,wai,wad,wae,waf]
   refine wpAnyH_take (i:=8) (v:=?_) rfl Zk Zk Zk (λ_ _ _ h=>h) (Or.inl ⟨by rfl,?_⟩) Za ?_;rotate_left;(·intro u h;(try dsimp only at h);(try simp only[wad,wae,waf]);go_simp;try with_reducible rfl);try simp only[Act.put,wag,wah,wai,wad,wae,waf]
   refine wpAnyH_ready (rs:=[9]) Zk Zs ?_;refine AllReadyH.cons rfl (λK hK=>?_) AllReadyH.nil
   ·(try simp only[wad,wae,waf])
    go_simp
    refine hK.out _ _ (by go_keep) (λhHeld2=>?_);clear hK K hHeld;have hHeld:=hHeld2;clear hHeld2;try simp only[Act.put,wag,wah,wai,wad,wae,waf]
    have hb7:=qag (show w1.heap[W.heap.size]? =_ from hb6.out) (.cells #[.pointer (some ⟨B.X,0,none⟩),.int .i64 B.who,.int .i64 0,.func (.func 110) #[] #[.pointer (some ⟨a,0,none⟩),.pointer (some ⟨b,0,none⟩),.pointer (some ⟨c,0,none⟩)],.bool false,.bool false] 144);have s0:=qaa hb7 0;have sf:=qaj hb7 0;simp at s0
    refine wpAnyH_ready (rs:=[11]) Zk Zs ?_;refine AllReadyH.cons rfl (λK hK=>?_) AllReadyH.nil
    ·(try simp only[wad,wae,waf])
     go_simp
     refine hK.out _ _ (((qiw (G:=λk=>k=W.heap.size) (p:=⟨W.heap.size,0,none⟩) rfl _).cell (p:=⟨B.X,2,none⟩) (wak _ _ hHeld) (λe=>by have e:B.X=W.heap.size:=e;omega)).trans hHeld) (λhHeld2=>?_);clear hK K hHeld;have hHeld:=hHeld2;clear hHeld2;try simp only[Act.put,wag,wah,wai,wad,wae,waf]
     refine wpAnyH_done Zk ?_ _;refine NoPanic.normal ?_;have hWlt:W.heap.size<w1.heap.size:=(wal.1 hb6.out).1;have hUV:Upd (λ_=>False) W ((w1.alloc (.cells #[.pointer (some ⟨B.X,0,none⟩),.int .i64 B.who,.int .i64 0,.func (.func 110) #[] #[.pointer (some ⟨a,0,none⟩),.pointer (some ⟨b,0,none⟩),.pointer (some ⟨c,0,none⟩)],.bool false,.bool false] 144)).setCell ⟨W.heap.size,0,none⟩ (.pointer (some ⟨w1.heap.size,0,none⟩))):=(hU1.alloc _).setCell (p:=⟨W.heap.size,0,none⟩) (.inr (wab _)) _;have hW0:=hU0.out.size;have hBw1:=hBw.out;have hW1:=hU1.size;have hpre:=qlx hh.out hC hl (hU0.out.trans hUV) (show EvR ((w1.alloc (.cells #[.pointer (some ⟨B.X,0,none⟩),.int .i64 B.who,.int .i64 0,.func (.func 110) #[] #[.pointer (some ⟨a,0,none⟩),.pointer (some ⟨b,0,none⟩),.pointer (some ⟨c,0,none⟩)],.bool false,.bool false] 144)).setCell ⟨W.heap.size,0,none⟩ (.pointer (some ⟨w1.heap.size,0,none⟩))) (w1.heap.size) (some B.X) B.who 0 _ false false from EvR.upd (qan rfl _ _:EvR (w1.alloc (.cells #[.pointer (some ⟨B.X,0,none⟩),.int .i64 B.who,.int .i64 0,.func (.func 110) #[] #[.pointer (some ⟨a,0,none⟩),.pointer (some ⟨b,0,none⟩),.pointer (some ⟨c,0,none⟩)],.bool false,.bool false] 144)) w1.heap.size (some B.X) B.who 0 _ false false) (qiw (G:=λk=>k=W.heap.size) (p:=⟨W.heap.size,0,none⟩) rfl _) (λe=>by omega)) (FsR.upd (⟨rfl,hF⟩:FsR w1 (.func (.func 110) #[] #[.pointer (some ⟨a,0,none⟩),.pointer (some ⟨b,0,none⟩),.pointer (some ⟨c,0,none⟩)]) B.X fuse l.length a b c) (((Upd.refl (λk=>k=W.heap.size) w1).alloc _).setCell (p:=⟨W.heap.size,0,none⟩) (.inl rfl) _) (qbn hF.1 hb6.out Zd) (qbn hF.2.1 hb6.out Zd) (qbn hF.2.2 hb6.out Zd)) (show Boxed ((w1.alloc (.cells #[.pointer (some ⟨B.X,0,none⟩),.int .i64 B.who,.int .i64 0,.func (.func 110) #[] #[.pointer (some ⟨a,0,none⟩),.pointer (some ⟨b,0,none⟩),.pointer (some ⟨c,0,none⟩)],.bool false,.bool false] 144)).setCell ⟨W.heap.size,0,none⟩ (.pointer (some ⟨w1.heap.size,0,none⟩))) (W.heap.size) 136 _ from qah hb7 0 _) (qal hbb.out hUV (λe=>e)) ⟨Zo,Zo,Zo,Zo,Zo,Zo⟩;clear hHeld hUV x2' x2 hF hsz hB1 hU1 hb5;clear hb6 hb7 s0 sf g0 gf hWlt;generalize ((w1.alloc (.cells #[.pointer (some ⟨B.X,0,none⟩),.int .i64 B.who,.int .i64 0,.func (.func 110) #[] #[.pointer (some ⟨a,0,none⟩),.pointer (some ⟨b,0,none⟩),.pointer (some ⟨c,0,none⟩)],.bool false,.bool false] 144)).setCell ⟨W.heap.size,0,none⟩ (.pointer (some ⟨w1.heap.size,0,none⟩)))=V at hpre ⊢;generalize w1.heap.size=eb at hpre ⊢;generalize W.heap.size=b5 at hpre ⊢;have hend:=waa (ql0 hen hpre.1 hdf.out hw.out (hdeed.out _ _ _ _ _ _ _ hpre.2.2.2.1 hpre.1 (λk hk=>hk.imp id (λe=>by have:=hpre.2.2.2.2.1;omega))));have c5:=hpre.2.1.cell;have hpre:=waa hpre;go_wp2_with fail;refine hend.out.mono ?_;rintro e w2 ⟨hu2,hE2⟩;have hE2:DP.EndO _ _ _ e w2 (t (qbi fuse l.length) 0 l s):=hE2;generalize ho:t (qbi fuse l.length) 0 l s=o at hw hE2;cases o with
     |wild=>exact absurd rfl hw.out
     |done T' i' l' s'=>
      obtain⟨rfl,F',hD,hg⟩:=hE2;have hD2:=hD;obtain⟨lv2,G2,an2,⟨i2,hEv⟩,-⟩:=hD2;have h52:=qal hpre.out.2.1 hu2 hpre.out.2.2.2.2.2.2.2.2.1;have hb2:=qal hpre.out.2.2.1 hu2 hpre.out.2.2.2.2.2.2.2.2.2;have hfin:=waa (λw3 hu3=>qj0 (w3:=w3) hpre.out hu2 hD hg hb2 hu3);have hdoor:=waa (qj9 hEv h52 hb2);clear hEv h52 hb2 hD hg hu2;go_wp2_with fail;refine leaves_cons (f:=73) (args:=#[.pointer (some ⟨b5,0,none⟩),.pointer (some ⟨Bb,0,none⟩)]) Zs (by simp[go_sem]) ?_;refine hdoor.out.mono ?_;rintro e u' w3 ⟨rfl,rfl,hb3,hu3⟩;have z3:=hb3.cell;have h1:=hfin.out w3 hu3;simp[Leaves,settle,results,Tryz.results40,go_sem,z3]
      rw[ho];exact⟨h1.1,rfl,h1.2⟩
     |stop bk l' s'=>
      obtain⟨F',rfl,hO,hg⟩:=hE2;have hO2:=hO;obtain⟨lv2,G2,⟨i2,hEv⟩,-⟩:=hO2;have h52:=qal hpre.out.2.1 hu2 hpre.out.2.2.2.2.2.2.2.2.1;have hb2:=qal hpre.out.2.2.1 hu2 hpre.out.2.2.2.2.2.2.2.2.2;have hfin:=waa (λw3 hu3=>qkn (w3:=w3) hpre.out hu2 hO hg hb2 hu3);have hdoor:=waa (qkf hEv h52 hb2);clear hEv h52 hb2 hO hg hu2;go_wp2_with fail;refine leaves_cons (f:=73) (args:=#[.pointer (some ⟨b5,0,none⟩),.pointer (some ⟨Bb,0,none⟩)]) Zs (by simp[go_sem]) ?_;refine hdoor.out.mono ?_;rintro e u' w3 ⟨rfl,hu',hb3,hu3⟩;have z3:=hb3.cell;have h1:=hfin.out w3 hu3;cases bk<;>simp[Leaves,hu',results,Tryz.results40,go_sem,z3]<;>rw[ho]<;>exact⟨h1.1,rfl,h1.2⟩
end
section
variable {τ:Type} {B:DB τ} {l:List Nat} {s:DM×τ} {F:Nat->Prop} {w:World} {C:Nat} {ov:Bool} {T:List Nat}
def DB.AllO(B:DB τ)(C:Nat)(F:Nat->Prop)(w:World)(e:Ending)(w':World):Out (DM×τ) (List Nat)->Prop
 | .done T i l s=>e= .returned (.int .i64 0)/\∃F',B.At (C+l.length+1) l s true T F' w'/\Grows F F' w
 | .stop bl l s=>e= .returned (.int .i64 (if bl then 5 else 12))/\∃F',B.At (C+l.length+1) l s false [] F' w'/\Grows F F' w
 | .wild=>True
theorem q8s{DF:Nat}{caps:Array Value}{t:AP (DM×τ) (List Nat)}(hen:∀(args:Array Value) (w:World),(callFunc DF args).run Tryz.prog w= .ok (.enter DF args) w)(h:B.At C l s false T F w)(hC:C+100000<maxLen)(hl:l.length<=99000)(fuse:Int)(hdf:B.df= .func (.func DF) #[] caps)(hw:t (qbi fuse l.length) 0 l s≠ .wild)(hdeed:∀eb a b c fs V F',Upd (λ_=>False) w V->(B.env eb a b c fs fuse l.length C).In 0 l s F' V->(∀k,F' k->F k\/w.heap.size<=k)->Calls Tryz.prog DF (#[.pointer (some ⟨eb,0,none⟩)]++caps) V λe w'=>(B.env eb a b c fs fuse l.length C).Post (t (qbi fuse l.length) 0 l s) ansR F' V e w'):
  Calls Tryz.prog 14 #[.pointer (some ⟨B.X,0,none⟩),.int .i64 fuse] w λe w'=>Upd F w w'/\B.AllO C F w e w' (t (qbi fuse l.length) 0 l s):=by
 have hlet:=q6x hen h hC hl fuse hdf hw hdeed;obtain⟨lv,G,an,hR,-,-,-,han⟩:=h;obtain⟨-,-,-,-,-,x5,-,-⟩:=hR.cells;unfold DB.Let at hlet;clear hdeed hR han;generalize t (qbi fuse l.length) 0 l s=o at hlet hw ⊢;cases o with
 |wild=>exact absurd rfl hw
 |done T' i l' s'=>
  have hlet:=waa hlet;go_enter Tryz.func14,Tryz.ntmps14;go_wp2_with fail;refine hlet.out.mono ?_;rintro e w1 ⟨hu,rfl,F',hA,hg⟩;have hA':=hA;obtain⟨lv',G',an',hR',-⟩:=hA';obtain⟨-,-,-,-,-,y5,-,-⟩:=hR'.cells;have hfin:=waa (And.intro hu (And.intro hA hg));clear hA hg hu hR' hlet;go_wp2_with fail;go_ret;exact⟨hfin.out.1,rfl,F',hfin.out.2.1,hfin.out.2.2⟩
 |stop bl l' s'=>
  have hlet:=waa hlet;go_enter Tryz.func14,Tryz.ntmps14;go_wp2_with fail;refine hlet.out.mono ?_;rintro e w1 ⟨hu,rfl,F',hA,hg⟩;have hA':=hA;obtain⟨lv',G',an',hR',-⟩:=hA';obtain⟨-,-,-,-,-,y5,-,-⟩:=hR'.cells;have hfin:=waa (And.intro hu (And.intro hA hg));clear hA hg hu hR' hlet;cases bl with
  |true=>
   go_wp2_with fail;go_ret;exact⟨hfin.out.1,rfl,F',hfin.out.2.1,hfin.out.2.2⟩
  |false=>
   go_wp2_with fail;go_ret;exact⟨hfin.out.1,rfl,F',hfin.out.2.1,hfin.out.2.2⟩
theorem q67(p tp:Nat)(who:Int)(DF:Nat)(caps:Array Value)(w:World):
  Calls Tryz.prog 38 #[.pointer (some ⟨p,0,none⟩),.pointer (some ⟨tp,0,none⟩),.int .i64 who,.func (.func DF) #[] caps] w λe w'=>
   ∃X,e= .returned (.pointer (some ⟨X,0,none⟩))/\w.heap.size<=X/\RnP w' X p tp who (.func (.func DF) #[] caps) (.slice none 0 0) [] false (.slice none 0 0)/\Upd (λ_=>False) w w':=by
 have hU:Upd (λ_=>False) w (w.alloc (.cells #[.pointer (some ⟨p,0,none⟩),.pointer (some ⟨tp,0,none⟩),.int .i64 who,.func (.func DF) #[] caps,.slice none 0 0,.bool false,.slice none 0 0] 91)):=(Upd.refl _ w).alloc _;have hR:RnP (w.alloc (.cells #[.pointer (some ⟨p,0,none⟩),.pointer (some ⟨tp,0,none⟩),.int .i64 who,.func (.func DF) #[] caps,.slice none 0 0,.bool false,.slice none 0 0] 91)) w.heap.size p tp who (.func (.func DF) #[] caps) (.slice none 0 0) [] false (.slice none 0 0):=
  ⟨qan rfl _ _,⟨rfl,.inl ⟨rfl,rfl⟩⟩⟩
 replace hU:=waa hU;replace hR:=waa hR;go_enter Tryz.func38,Tryz.ntmps38;go_wp2_with fail;go_ret;exact⟨_,rfl,wab _,hR.out,hU.out⟩
theorem DB.At.make{G:Nat->Prop}(hR:RnP w B.X B.p B.tp B.who B.df (.slice none 0 0) [] false (.slice none 0 0))(hP:PsR w B.p B.gs B.gk B.m B.n B.tp B.tg B.nl C s.1)(hE:B.Ex s.2 G w)(hG:∀k,G k->¬psF B.p B.gs B.gk B.m B.tp B.tg k):
  B.At C [] s false [] (λk=>psF B.p B.gs B.gk B.m B.tp B.tg k\/G k\/k=B.X) w:=by
 refine⟨_,G,_,hR,⟨hP,hE⟩,⟨?_,?_,hG⟩,λe=>(by cases e),λ_=>rfl,by simp⟩
 ·rintro k (e|e|e|e|e)
  ·exact .inl e
  ·exact .inr (.inl e)
  ·exact .inr (.inr e)
  ·cases e
  ·cases e
 ·rintro k (e|e|rfl)
  ·exact hP.lts e
  ·exact B.exLt _ _ _ _ hE e
  ·exact hR.lt
theorem qgn(h:B.At C l s ov T F w):Calls Tryz.prog 26 #[.pointer (some ⟨B.X,0,none⟩)] w λe w'=>e= .returned (.int .i64 (l.length:Int))/\w=w':=by
 obtain⟨lv,G,an,hR,-⟩:=h;obtain⟨-,-,-,-,x4,-,-,-⟩:=hR.cells;obtain⟨LA,LC,rfl⟩:=hR.logv;clear hR;go_enter Tryz.func26,Tryz.ntmps26;go_wp2_with fail;go_ret;exact⟨rfl,rfl⟩
def AnsV(w w':World)(v:Value)(T:List Nat):Prop:=w'.ownsRow w.heap.size 27 1 v T.length (u64V T)/\(T.length=0->v= .slice none 0 0)/\Below w.heap.size w w'
theorem qdv(h:B.At C l s ov T F w)(hT:T.length<=2000)(hov:ov=false->T=[]):Calls Tryz.prog 18 #[.pointer (some ⟨B.X,0,none⟩)] w λe w'=>∃v,e= .returned v/\AnsV w w' v T:=by
 obtain⟨lv,G,an,hR,-,-,k7,k8⟩:=h;obtain⟨-,-,-,-,-,-,x6,-⟩:=hR.cells;have hcl:Calls Tryz.prog 44 #[an] w λe w'=>∃v',e= .returned v'/\AnsV w w' v' T:=by
  unfold AnsV;cases ov with
  |true=>exact qjf (k7 rfl).1 (k7 rfl).2 hT
  |false=>
   obtain rfl:=hov rfl;exact qjf (base:=0) (T:=[]) (by rw[k8.1 rfl];exact⟨rfl,.inl ⟨rfl,rfl⟩⟩) (λ_=>k8.1 rfl) Zs
 have hav:∃Y k c,an= .slice Y k c:=by
  cases ov with
  |true=>
   obtain⟨Y,c,e,-⟩:=Rd.of_own (k7 rfl).1;exact⟨Y,_,c,e⟩
  |false=>exact⟨none,0,0,k8.1 rfl⟩
 obtain⟨Y,k,c,rfl⟩:=hav;replace hcl:=waa hcl;clear hR k7 k8;go_enter Tryz.func18,Tryz.ntmps18;go_wp2_with fail;refine hcl.out.mono ?_;rintro e w' ⟨v,rfl,h1⟩;obtain⟨AV,cV,rfl,-⟩:=Rd.of_own h1.1;generalize T.length=NV at h1 ⊢;replace h1:=waa h1;clear hcl;go_wp2_with fail;go_ret;exact⟨_,rfl,h1.out⟩
end
end Go.Proofs.YtocncmbeinmiaaaGreat
