/- Parts. No condition. -/
import Derived.Test.YtgjhkafggagniaaGreatJoinV18
set_option linter.unusedVariables false
set_option maxRecDepth 100000
set_option maxHeartbeats 8000000
namespace Go.Proofs.YtgjhkafggagniaaGreat
open Go Go.RowKit
structure DB (τ:Type) where
 X:Nat
 p:Nat
 gs:Nat
 gk:Nat
 m:Nat
 n:Nat
 tp:Nat
 tg:Nat
 nl:Nat
 who:Int
 df:Value
 Ex:τ->(Nat->Prop)->World->Prop
 exUpd:∀(t:τ) (G H:Nat->Prop) (w w':World),Ex t G w->Upd H w w'->(∀k,G k->¬H k)->Ex t G w'
 exLt:∀(t:τ) (G:Nat->Prop) (w:World) (k:Nat),Ex t G w->G k->k<w.heap.size
 exNot:∀(t:τ) (G:Nat->Prop) (w:World) (k:Nat) (Cs:Array Value) (ty:TypeId) (fr:Nat×Nat),Ex t G w->G k->w.heap[k]? =some (.cells Cs ty fr)->ty≠324/\ty≠97/\ty≠161
section
variable {τ:Type}
def DB.env(B:DB τ)(eb a b c:Nat)(fs:Value)(fuse:Int)(bef c0:Nat):DP τ:=⟨B.X,B.p,B.gs,B.gk,B.m,B.n,B.tp,B.tg,B.nl,eb,a,b,c,B.who,B.df,fs,fuse,bef,c0,B.Ex,B.exUpd,B.exLt,B.exNot⟩
def DB.At(B:DB τ)(C:Nat)(l:List Nat)(s:DM×τ)(ov:Bool)(T:List Nat)(F:Nat->Prop)(w:World):Prop:=
 ∃lv G an,RnP w B.X B.p B.tp B.who B.df lv l ov an/\(PsR w B.p B.gs B.gk B.m B.n B.tp B.tg B.nl C s.1/\B.Ex s.2 G w)/\
  ((∀k,psF B.p B.gs B.gk B.m B.tp B.tg k\/G k\/k=B.X\/lv.ownBlock=some k\/an.ownBlock=some k->F k)/\(∀k,F k->k<w.heap.size)/\(∀k,G k->¬psF B.p B.gs B.gk B.m B.tp B.tg k))/\
  (ov=true->w.ownsRow (B.X+1) 40 1 an T.length (u64V T)/\(T.length=0->an= .slice none 0 0))/\(ov=false->an= .slice none 0 0)/\∀y∈l,y<18446744073709551616
variable {B:DB τ} {l l':List Nat} {s s':DM×τ} {F F':Nat->Prop} {w w' V w2 w3:World} {eb a b c b5 Bb C:Nat} {fs:Value} {fuse:Int} {ov:Bool} {T:List Nat}
def DB.Pre(B:DB τ)(E:DP τ)(l:List Nat)(s:DM×τ)(F:Nat->Prop)(w V:World)(Bb b5:Nat):Prop:=
 E.In 0 l s (λk=>F k\/k=E.eb) V/\Boxed V b5 153 (.pointer (some ⟨E.eb,0,none⟩))/\Boxed V Bb 4 (.bool false)/\Upd (λ_=>False) w V/\w.heap.size<=E.eb/\w.heap.size<=Bb/\w.heap.size<=b5/\(∀k,F k->k<w.heap.size)/\¬(F b5\/b5=E.eb)/\¬(F Bb\/Bb=E.eb)
theorem qh3(h:B.At C l s false T F w)(hC:C+100000<maxLen)(hl:l.length<=99000)(hU:Upd (λ_=>False) w V)(hE:EvR V eb (some B.X) B.who 0 fs false false)(hF:FsR V fs B.X fuse l.length a b c)(h5:Boxed V b5 153 (.pointer (some ⟨eb,0,none⟩)))(hB:Boxed V Bb 4 (.bool false))(hn:w.heap.size<=eb/\w.heap.size<=b5/\w.heap.size<=Bb/\w.heap.size<=a/\w.heap.size<=b/\w.heap.size<=c):
  B.Pre (B.env eb a b c fs fuse l.length C) l s F w V Bb b5:=by
 obtain⟨n1,n2,n3,n4,n5,n6⟩:=hn;obtain⟨lv,G,an,k1,⟨k2,k3⟩,⟨k4,k5,k6⟩,k7,k8⟩:=h;obtain rfl:=k8.1 rfl;have hnF:∀k,w.heap.size<=k->k≠eb->¬(F k\/k=eb):=λk hk hne e=>e.elim (λe=>by have:=k5 k e;omega) hne
 refine⟨⟨lv,G,hE,hF,k1.upd hU (λe=>e) (λ_ _ e=>e),⟨(k2.upd hU (λ_ _ e=>e)).more (Nat.le_add_right _ _),B.exUpd _ _ _ _ _ k3 hU (λ_ _ e=>e)⟩,⟨?_,?_,k6⟩,⟨hnF _ n4 (qaq hF.2.1 hE Zd),hnF _ n5 (qaq hF.2.2.1 hE Zd),hnF _ n6 (qaq hF.2.2.2 hE Zd)⟩,wat _,wah _,hC,hl,k8.2⟩,h5,hB,hU,n1,n3,n2,k5,hnF _ n2 (qaq h5 hE Zd),hnF _ n3 (qaq hB hE Zd)⟩
 ·rintro k (e|e|e|e|e)
  ·exact .inl (k4 k (.inl e))
  ·exact .inl (k4 k (.inr (.inl e)))
  ·exact .inr e
  ·exact .inl (k4 k (.inr (.inr (.inl e))))
  ·exact .inl (k4 k (.inr (.inr (.inr (.inl e)))))
 ·rintro k (e|e)
  ·exact wak (k5 k e) hU.size
  ·exact e▸hE.lt
theorem DB.Pre.upd{E:DP τ}(h:B.Pre E l s F w V Bb b5)(hu2:Upd (λk=>F k\/k=E.eb) V w2)(hu3:Upd (λk=>k=E.eb\/k=Bb) w2 w3):Upd F w w3:=by
 obtain⟨-,-,-,h4,h5,h6,h7,-,-,-⟩:=h;have h42:Upd F w w2:=(h4.mono (λ_ e=>e.elim)).after hu2 (λj e=>by rcases e with e|rfl;exact .inl e;exact .inr h5);exact h42.after hu3 (λj e=> .inr (by rcases e with rfl|rfl;exact h5;exact h6))
theorem qkg{E:DP τ}(h:B.Pre E l s F w V Bb b5)(hg:Grows (λk=>F k\/k=E.eb) F' V):Grows F (λk=>F' k/\k≠E.eb/\k≠Bb) w:=by
 intro k hk;rcases hg k hk.1 with (e|e)|e
 ·exact .inl e
 ·exact absurd e hk.2.1
 ·exact .inr (wam h.2.2.2.1.size e)
theorem qg1(h:B.Pre (B.env eb a b c fs fuse l.length C) l s F w V Bb b5)(hu2:Upd (λk=>F k\/k=eb) V w2)(hD:(B.env eb a b c fs fuse l.length C).Done l' s' T F' w2)(hg:Grows (λk=>F k\/k=eb) F' V)(hb2:Boxed w2 Bb 4 (.bool false))(hu3:Upd (λk=>k=eb\/k=Bb) w2 w3):Upd F w w3/\∃F',B.At (C+l'.length+1) l' s' true T F' w3/\Grows F F' w:=by
 obtain⟨lv,G,an,⟨i,hE⟩,hR,hM,hc,hca,hrow,hz,hl64⟩:=hD;refine⟨h.upd hu2 hu3,λk=>F' k/\k≠eb/\k≠Bb,?_,qkg h hg⟩;have hE:EvR w2 eb _ _ i _ false false:=hE;have hR:RnP w2 B.X B.p B.tp B.who B.df lv l' true an:=hR;have hM1:PsR w2 B.p B.gs B.gk B.m B.n B.tp B.tg B.nl (C+l'.length) s'.1:=hM.1;have hM2:B.Ex s'.2 G w2:=hM.2;have hrow:w2.ownsRow (B.X+1) 40 1 an T.length (u64V T):=hrow;have e1:∀k,psF B.p B.gs B.gk B.m B.tp B.tg k->k≠eb/\k≠Bb:=λk hk=>⟨λe=>hM1.not hE Zd Zd Zd (.inl Zd) (e▸hk),λe=>hM1.not hb2 Zd Zd Zd (.inl Zd) (e▸hk)⟩
 have hBF:¬F' Bb:=λe=>by
  rcases hg _ e with e'|e'
  ·exact h.2.2.2.2.2.2.2.2.2 e'
  ·have:=h.2.2.1.lt;omega
 have e2:∀k,G k->k≠eb/\k≠Bb:=λk hk=>⟨λe=>(B.exNot _ _ _ _ _ _ _ hM2 (e▸hk) hE).2.2 rfl,λe=>hBF (e▸hc.1 k (.inr (.inl hk)))⟩
 have e3:B.X≠eb/\B.X≠Bb:=⟨qaq hR.1 hE Zd,qaq hR.1 hb2 Zd⟩
 have e4:∀k,lv.ownBlock=some k->k≠eb/\k≠Bb:=λk hk=>⟨λe=>qao hE Zd hR.2 (by rw[hk,e]),λe=>qao hb2 Zd hR.2 (by rw[hk,e])⟩
 have e5:∀k,an.ownBlock=some k->k≠eb/\k≠Bb:=λk hk=>⟨λe=>qao hE Zd hrow (by rw[hk,e]),λe=>qao hb2 Zd hrow (by rw[hk,e])⟩
 have e0:∀{k:Nat},k≠eb/\k≠Bb->¬(k=eb\/k=Bb):=λhk e=>e.elim hk.1 hk.2
 refine⟨lv,G,an,hR.upd hu3 (e0 e3) (λk hk=>e0 (e4 k hk)),⟨(hM1.upd hu3 (λk hk=>e0 (e1 k hk))).more Zo,B.exUpd _ _ _ _ _ hM2 hu3 (λk hk=>e0 (e2 k hk))⟩,⟨?_,λk hk=>wak (hc.2.1 k hk.1) hu3.size,hc.2.2⟩,λ_=>⟨qa5 hrow hu3 (λk hk=>e0 (e5 k hk)),hz⟩,λe=>(by cases e),hl64⟩;rintro k (e|e|e|e|e)
 ·exact⟨hc.1 k (.inl e),e1 k e⟩
 ·exact⟨hc.1 k (.inr (.inl e)),e2 k e⟩
 ·exact⟨hc.1 k (.inr (.inr (.inr (.inl e)))),e▸e3⟩
 ·exact⟨hc.1 k (.inr (.inr (.inr (.inr e)))),e4 k e⟩
 ·exact⟨hca k e,e5 k e⟩
theorem qge{bl:Bool}(h:B.Pre (B.env eb a b c fs fuse l.length C) l s F w V Bb b5)(hu2:Upd (λk=>F k\/k=eb) V w2)(hD:(B.env eb a b c fs fuse l.length C).Off bl l' s' F' w2)(hg:Grows (λk=>F k\/k=eb) F' V)(hb2:Boxed w2 Bb 4 (.bool false))(hu3:Upd (λk=>k=eb\/k=Bb) w2 w3):Upd F w w3/\∃F',B.At (C+l'.length+1) l' s' false [] F' w3/\Grows F F' w:=by
 obtain⟨lv,G,⟨i,hE⟩,hR,hM,hc,hl64⟩:=hD;refine⟨h.upd hu2 hu3,λk=>F' k/\k≠eb/\k≠Bb,?_,qkg h hg⟩;have hE:EvR w2 eb _ _ i _ true bl:=hE;have hR:RnP w2 B.X B.p B.tp B.who B.df lv l' false (.slice none 0 0):=hR;have hM1:PsR w2 B.p B.gs B.gk B.m B.n B.tp B.tg B.nl (C+l'.length+1) s'.1:=hM.1;have hM2:B.Ex s'.2 G w2:=hM.2;have e1:∀k,psF B.p B.gs B.gk B.m B.tp B.tg k->k≠eb/\k≠Bb:=λk hk=>⟨λe=>hM1.not hE Zd Zd Zd (.inl Zd) (e▸hk),λe=>hM1.not hb2 Zd Zd Zd (.inl Zd) (e▸hk)⟩
 have hBF:¬F' Bb:=λe=>by
  rcases hg _ e with e'|e'
  ·exact h.2.2.2.2.2.2.2.2.2 e'
  ·have:=h.2.2.1.lt;omega
 have e2:∀k,G k->k≠eb/\k≠Bb:=λk hk=>⟨λe=>(B.exNot _ _ _ _ _ _ _ hM2 (e▸hk) hE).2.2 rfl,λe=>hBF (e▸hc.1 k (.inr (.inl hk)))⟩
 have e3:B.X≠eb/\B.X≠Bb:=⟨qaq hR.1 hE Zd,qaq hR.1 hb2 Zd⟩
 have e4:∀k,lv.ownBlock=some k->k≠eb/\k≠Bb:=λk hk=>⟨λe=>qao hE Zd hR.2 (by rw[hk,e]),λe=>qao hb2 Zd hR.2 (by rw[hk,e])⟩
 have e0:∀{k:Nat},k≠eb/\k≠Bb->¬(k=eb\/k=Bb):=λhk e=>e.elim hk.1 hk.2
 refine⟨lv,G,_,hR.upd hu3 (e0 e3) (λk hk=>e0 (e4 k hk)),⟨hM1.upd hu3 (λk hk=>e0 (e1 k hk)),B.exUpd _ _ _ _ _ hM2 hu3 (λk hk=>e0 (e2 k hk))⟩,⟨?_,λk hk=>wak (hc.2.1 k hk.1) hu3.size,hc.2.2⟩,λe=>(by cases e),λ_=>rfl,hl64⟩;rintro k (e|e|e|e|e)
 ·exact⟨hc.1 k (.inl e),e1 k e⟩
 ·exact⟨hc.1 k (.inr (.inl e)),e2 k e⟩
 ·exact⟨hc.1 k (.inr (.inr (.inr (.inl e)))),e▸e3⟩
 ·exact⟨hc.1 k (.inr (.inr (.inr (.inr e)))),e4 k e⟩
 ·cases e
def DB.LetO(B:DB τ)(C:Nat)(F:Nat->Prop)(w:World)(e:Ending)(w':World):Out (DM×τ) (List Nat)->Prop
 | .done T i l s=>e= .returned (.bool false)/\∃F',B.At (C+l.length+1) l s true T F' w'/\Grows F F' w
 | .stop bl l s=>e= .returned (.bool bl)/\∃F',B.At (C+l.length+1) l s false [] F' w'/\Grows F F' w
 | .wild=>True
def DB.Let(B:DB τ)(C:Nat)(o:Out (DM×τ) (List Nat))(F:Nat->Prop)(w:World)(e:Ending)(w':World):Prop:=Upd F w w'/\B.LetO C F w e w' o
theorem qw0{DF:Nat}{caps:Array Value}{t:AP (DM×τ) (List Nat)}(hen:∀(args:Array Value) (w:World),(callFunc DF args).run Tryz.prog w= .ok (.enter DF args) w)(h:B.At C l s false T F w)(hC:C+100000<maxLen)(hl:l.length<=99000)(fuse:Int)(hdf:B.df= .func (.func DF) #[] caps)(hw:t (qa0 fuse l.length) 0 l s≠ .wild)(hdeed:∀eb a b c fs V F',Upd (λ_=>False) w V->(B.env eb a b c fs fuse l.length C).In 0 l s F' V->(∀k,F' k->F k\/w.heap.size<=k)->Calls Tryz.prog DF (#[.pointer (some ⟨eb,0,none⟩)]++caps) V λe w'=>(B.env eb a b c fs fuse l.length C).Post (t (qa0 fuse l.length) 0 l s) ansR F' V e w'):
  Calls Tryz.prog 39 #[.pointer (some ⟨B.X,0,none⟩),.int .i64 fuse] w λe w'=>B.Let C (t (qa0 fuse l.length) 0 l s) F w e w':=by
 have hmf:∀(fn:Fn) (first cap:Array Value) (w:World),(Instr.makeFunc fn first cap).run Tryz.prog w= .ok (.func fn first cap) w:=λ_ _ _ _=>rfl
 have hdeed:=waa hdeed;have hw:=waa hw;have hdf:=waa hdf;have hh:=waa h;obtain⟨lv,G,an,hR,-,-,-,han⟩:=h;obtain rfl:=han.1 rfl;go_enter_defers Tryz.func39,Tryz.ntmps39
 go_wp2_with fail;obtain⟨Bb,hBb⟩:∃B,w.heap.size=B:=⟨_,rfl⟩
 have hbb:Boxed (w.alloc (.cells #[.bool false] 4)) w.heap.size 4 (.bool false):=qad rfl _ _;have hU0:Upd (λ_=>False) w (w.alloc (.cells #[.bool false] 4)):=(Upd.refl _ w).alloc _;have hR0:=hR.upd hU0 (λe=>e) (λ_ _ e=>e);rw[hBb] at hbb ⊢;have hBw:=waa (wbk hBb);generalize w.alloc (.cells #[.bool false] 4)=W at hbb hU0 hR0 ⊢;have hf1:=waa (qkh (show RnP W.drew _ _ _ _ _ _ _ _ _ from hR0) fuse);have hUa:Upd (λ_=>False) W (W.drew.alloc (.cells #[.pointer none] 153)):=(Upd.refl _ W).drew.alloc _;have hf2:=waa (qkh (hR0.upd hUa (λe=>e) (λ_ _ e=>e)) fuse);have hXW:=hR0.lt;obtain⟨-,-,x2,-,-,-,-,-⟩:=hR0.cells;have hR0:=waa hR0;have hU0:=waa hU0;have hbb:=waa hbb;clear hR hBb hUa;have hb5:(W.drew.alloc (.cells #[.pointer none] 153)).heap[W.drew.heap.size]? =_:=qad (V:=W.drew) rfl #[.pointer none] 153;have hb5:=waa hb5;refine wp_region_noPanic ?_;refine wp_region_held_drew (S:=λV=>V.cell? ⟨B.X,2,none⟩=some (.int .i64 B.who)) Zk x2 (λhHeld=>?_);refine wpAnyH_take (i:=0) (v:=?_) rfl Zk Zk Zk (λ_ _ _ h=>h) (Or.inl ⟨by rfl,?_⟩) Za ?_;rotate_left;(·intro u h;(try dsimp only at h);(try simp only[wab,wac]);go_simp;try with_reducible rfl);try simp only[Act.put,waf,wae,wag,wab,wac]
 refine wpAnyH_take (i:=1) (v:=?_) rfl Zk Zk Zk (λ_ _ _ h=>h) (Or.inl ⟨by rfl,?_⟩) Za ?_;rotate_left;(·intro u h;(try dsimp only at h);(try simp only[wab,wac,wad]);go_simp;try with_reducible rfl);try simp only[Act.put,waf,wae,wag,wab,wac,wad]
 refine wpAnyH_take (i:=2) (v:=?_) rfl Zk Zk Zk (λ_ _ _ h=>h) (Or.inl ⟨by rfl,?_⟩) Za ?_;rotate_left;(·intro u h;(try dsimp only at h);(try simp only[wab,wac,wad]);go_simp;try with_reducible rfl);try simp only[Act.put,waf,wae,wag,wab,wac,wad]
 refine wpAnyH_take (i:=3) (v:=?_) rfl Zk Zk Zk (λ_ _ _ h=>h) (Or.inl ⟨by rfl,?_⟩) Za ?_;rotate_left;(·intro u h;(try dsimp only at h);(try simp only[wab,wac,wad]);go_simp;try with_reducible rfl);try simp only[Act.put,waf,wae,wag,wab,wac,wad]
 refine wpAnyH_take (i:=4) (v:=?_) rfl Zk Zk Zk (λ_ _ _ h=>h) (Or.inl ⟨by rfl,?_⟩) Za ?_;rotate_left;(·intro u h;(try dsimp only at h);(try simp only[wab,wac,wad]);go_simp;try with_reducible rfl);try simp only[Act.put,waf,wae,wag,wab,wac,wad]
 refine wpAnyH_take (i:=5) (v:=?_) rfl Zk Zk Zk (λ_ _ _ h=>h) (Or.inl ⟨by rfl,?_⟩) Za ?_;rotate_left;(·intro u h;(try dsimp only at h);(try simp only[wab,wac,wad]);go_simp;try with_reducible rfl);try simp only[Act.put,waf,wae,wag,wab,wac,wad]
 refine wpAnyH_take (i:=6) (v:=?_) rfl Zk Zk Zk (λ_ _ _ h=>h) (Or.inl ⟨by rfl,?_⟩) Za ?_;rotate_left;(·intro u h;(try dsimp only at h);(try simp only[wab,wac,wad]);go_simp;try with_reducible rfl);try simp only[Act.put,waf,wae,wag,wab,wac,wad]
 refine wpAnyH_ready (rs:=[7,10]) Zk Zs ?_;refine AllReadyH.cons rfl (λK hK=>?_) (AllReadyH.cons rfl (λK hK=>?_) AllReadyH.nil)
 ·(try simp only[wab,wac,wad])
  go_simp
  go_at_call 71
  refine hf1.out.mono ?_;rintro e w1 ⟨fs,a,b,c,rfl,⟨rfl,hF⟩,hsz,hB1⟩;have x2':w1.cell? ⟨B.X,2,none⟩=some (.int .i64 B.who):=(hB1.cell (p:=⟨B.X,2,none⟩) hXW).trans x2;have hU1:Upd (λ_=>False) W w1:=(Upd.refl _ W).drew.trans (Upd.of_below hB1 (wah _));have hsz:W.heap.size<=a/\W.heap.size<=b/\W.heap.size<=c:=hsz;go_wp2_with fail;refine hK.out _ _ (x2') (λhHeld2=>?_);clear hK K hHeld;have hHeld:=hHeld2;clear hHeld2;try simp only[Act.put,waf,wae,wag,wab,wac,wad]
  refine wpAnyH_take (i:=8) (v:=?_) rfl Zk Zk Zk (λ_ _ _ h=>h) (Or.inl ⟨by rfl,?_⟩) Za ?_;rotate_left;(·intro u h;(try dsimp only at h);(try simp only[wab,wac,wad]);go_simp;try with_reducible rfl);try simp only[Act.put,waf,wae,wag,wab,wac,wad]
  refine wpAnyH_ready (rs:=[9,10]) Zk Zs ?_;refine AllReadyH.cons rfl (λK hK=>?_) (AllReadyH.cons rfl (λK hK=>?_) AllReadyH.nil)
  ·(try simp only[wab,wac,wad])
   go_simp
   refine hK.out _ _ (by go_keep) (λhHeld2=>?_);clear hK K hHeld;have hHeld:=hHeld2;clear hHeld2;try simp only[Act.put,waf,wae,wag,wab,wac,wad]
   refine wpAnyH_ready (rs:=[10]) Zk Zs ?_;refine AllReadyH.cons rfl (λK hK=>?_) AllReadyH.nil
   ·(try simp only[wab,wac,wad])
    go_simp
    refine hK.out _ _ (by go_keep) (λhHeld2=>?_);clear hK K hHeld;have hHeld:=hHeld2;clear hHeld2;try simp only[Act.put,waf,wae,wag,wab,wac,wad]
    refine wpAnyH_ready (rs:=[11]) Zk Zs ?_;refine AllReadyH.cons rfl (λK hK=>?_) AllReadyH.nil
    ·(try simp only[wab,wac,wad])
     go_simp
     refine hK.out _ _ (by go_keep) (λhHeld2=>?_);clear hK K hHeld;have hHeld:=hHeld2;clear hHeld2;try simp only[Act.put,waf,wae,wag,wab,wac,wad]
     refine wpAnyH_done Zk ?_ _;refine NoPanic.normal ?_;have hUV:Upd (λ_=>False) W ((w1.alloc (.cells #[.pointer (some ⟨B.X,0,none⟩),.int .i64 B.who,.int .i64 0,.func (.func 129) #[] #[.pointer (some ⟨a,0,none⟩),.pointer (some ⟨b,0,none⟩),.pointer (some ⟨c,0,none⟩)],.bool false,.bool false] 161)).alloc (.cells #[.pointer (some ⟨w1.heap.size,0,none⟩)] 153)):=(hU1.alloc _).alloc _;have hW0:=hU0.out.size;have hBw1:=hBw.out;have hW1:=hU1.size;have hpre:=qh3 hh.out hC hl (hU0.out.trans hUV) (show EvR ((w1.alloc (.cells #[.pointer (some ⟨B.X,0,none⟩),.int .i64 B.who,.int .i64 0,.func (.func 129) #[] #[.pointer (some ⟨a,0,none⟩),.pointer (some ⟨b,0,none⟩),.pointer (some ⟨c,0,none⟩)],.bool false,.bool false] 161)).alloc (.cells #[.pointer (some ⟨w1.heap.size,0,none⟩)] 153)) (w1.heap.size) (some B.X) B.who 0 _ false false from qag (qad rfl _ _) _) (FsR.upd (⟨rfl,hF⟩:FsR w1 (.func (.func 129) #[] #[.pointer (some ⟨a,0,none⟩),.pointer (some ⟨b,0,none⟩),.pointer (some ⟨c,0,none⟩)]) B.X fuse l.length a b c) (((Upd.refl (λ_=>False) w1).alloc _).alloc _) (λe=>e) (λe=>e) (λe=>e)) (show Boxed ((w1.alloc (.cells #[.pointer (some ⟨B.X,0,none⟩),.int .i64 B.who,.int .i64 0,.func (.func 129) #[] #[.pointer (some ⟨a,0,none⟩),.pointer (some ⟨b,0,none⟩),.pointer (some ⟨c,0,none⟩)],.bool false,.bool false] 161)).alloc (.cells #[.pointer (some ⟨w1.heap.size,0,none⟩)] 153)) (w1.heap.size+1) 153 _ from qad Zs _ _) (qac hbb.out hUV (λe=>e)) ⟨Zo,Zo,Zo,Zo,Zo,Zo⟩;clear hHeld hUV x2' x2 hF hsz hB1 hU1 hb5;generalize ((w1.alloc (.cells #[.pointer (some ⟨B.X,0,none⟩),.int .i64 B.who,.int .i64 0,.func (.func 129) #[] #[.pointer (some ⟨a,0,none⟩),.pointer (some ⟨b,0,none⟩),.pointer (some ⟨c,0,none⟩)],.bool false,.bool false] 161)).alloc (.cells #[.pointer (some ⟨w1.heap.size,0,none⟩)] 153))=V at hpre ⊢;generalize w1.heap.size+1=b5 at hpre ⊢;generalize w1.heap.size=eb at hpre ⊢;have hend:=waa (qh5 hen hpre.1 hdf.out hw.out (hdeed.out _ _ _ _ _ _ _ hpre.2.2.2.1 hpre.1 (λk hk=>hk.imp id (λe=>by have:=hpre.2.2.2.2.1;omega))));have c5:=hpre.2.1.cell;have hpre:=waa hpre;go_wp2_with fail;refine hend.out.mono ?_;rintro e w2 ⟨hu2,hE2⟩;have hE2:DP.EndO _ _ _ e w2 (t (qa0 fuse l.length) 0 l s):=hE2;generalize ho:t (qa0 fuse l.length) 0 l s=o at hw hE2;cases o with
     |wild=>exact absurd rfl hw.out
     |done T' i' l' s'=>
      obtain⟨rfl,F',hD,hg⟩:=hE2;have hD2:=hD;obtain⟨lv2,G2,an2,⟨i2,hEv⟩,-⟩:=hD2;have h52:=qac hpre.out.2.1 hu2 hpre.out.2.2.2.2.2.2.2.2.1;have hb2:=qac hpre.out.2.2.1 hu2 hpre.out.2.2.2.2.2.2.2.2.2;have hfin:=waa (λw3 hu3=>qg1 (w3:=w3) hpre.out hu2 hD hg hb2 hu3);have hdoor:=waa (qgh hEv h52 hb2);clear hEv h52 hb2 hD hg hu2;go_wp2_with fail;refine leaves_cons (f:=72) (args:=#[.pointer (some ⟨b5,0,none⟩),.pointer (some ⟨Bb,0,none⟩)]) Zs (by simp[go_sem]) ?_;refine hdoor.out.mono ?_;rintro e u' w3 ⟨rfl,rfl,hb3,hu3⟩;have z3:=hb3.cell;have h1:=hfin.out w3 hu3;simp[Leaves,settle,results,Tryz.results39,go_sem,z3]
      rw[ho];exact⟨h1.1,rfl,h1.2⟩
     |stop bk l' s'=>
      obtain⟨F',rfl,hO,hg⟩:=hE2;have hO2:=hO;obtain⟨lv2,G2,⟨i2,hEv⟩,-⟩:=hO2;have h52:=qac hpre.out.2.1 hu2 hpre.out.2.2.2.2.2.2.2.2.1;have hb2:=qac hpre.out.2.2.1 hu2 hpre.out.2.2.2.2.2.2.2.2.2;have hfin:=waa (λw3 hu3=>qge (w3:=w3) hpre.out hu2 hO hg hb2 hu3);have hdoor:=waa (qgr hEv h52 hb2);clear hEv h52 hb2 hO hg hu2;go_wp2_with fail;refine leaves_cons (f:=72) (args:=#[.pointer (some ⟨b5,0,none⟩),.pointer (some ⟨Bb,0,none⟩)]) Zs (by simp[go_sem]) ?_;refine hdoor.out.mono ?_;rintro e u' w3 ⟨rfl,hu',hb3,hu3⟩;have z3:=hb3.cell;have h1:=hfin.out w3 hu3;cases bk<;>simp[Leaves,hu',results,Tryz.results39,go_sem,z3]<;>rw[ho]<;>exact⟨h1.1,rfl,h1.2⟩
  ·(try simp only[wab,wac,wad])
   go_simp
   refine hK.out _ _ (by go_keep) (λhHeld2=>?_);clear hK K hHeld;have hHeld:=hHeld2;clear hHeld2;try simp only[Act.put,waf,wae,wag,wab,wac,wad]
   refine wpAnyH_ready (rs:=[9]) Zk Zs ?_;refine AllReadyH.cons rfl (λK hK=>?_) AllReadyH.nil
   ·(try simp only[wab,wac,wad])
    go_simp
    refine hK.out _ _ (by go_keep) (λhHeld2=>?_);clear hK K hHeld;have hHeld:=hHeld2;clear hHeld2;try simp only[Act.put,waf,wae,wag,wab,wac,wad]
    refine wpAnyH_ready (rs:=[11]) Zk Zs ?_;refine AllReadyH.cons rfl (λK hK=>?_) AllReadyH.nil
    ·(try simp only[wab,wac,wad])
     go_simp
     refine hK.out _ _ (by go_keep) (λhHeld2=>?_);clear hK K hHeld;have hHeld:=hHeld2;clear hHeld2;try simp only[Act.put,waf,wae,wag,wab,wac,wad]
     refine wpAnyH_done Zk ?_ _;refine NoPanic.normal ?_;have hUV:Upd (λ_=>False) W ((w1.alloc (.cells #[.pointer (some ⟨w1.heap.size+1,0,none⟩)] 153)).alloc (.cells #[.pointer (some ⟨B.X,0,none⟩),.int .i64 B.who,.int .i64 0,.func (.func 129) #[] #[.pointer (some ⟨a,0,none⟩),.pointer (some ⟨b,0,none⟩),.pointer (some ⟨c,0,none⟩)],.bool false,.bool false] 161)):=(hU1.alloc _).alloc _;have hW0:=hU0.out.size;have hBw1:=hBw.out;have hW1:=hU1.size;have hpre:=qh3 hh.out hC hl (hU0.out.trans hUV) (show EvR ((w1.alloc (.cells #[.pointer (some ⟨w1.heap.size+1,0,none⟩)] 153)).alloc (.cells #[.pointer (some ⟨B.X,0,none⟩),.int .i64 B.who,.int .i64 0,.func (.func 129) #[] #[.pointer (some ⟨a,0,none⟩),.pointer (some ⟨b,0,none⟩),.pointer (some ⟨c,0,none⟩)],.bool false,.bool false] 161)) (w1.heap.size+1) (some B.X) B.who 0 _ false false from qad Zs _ _) (FsR.upd (⟨rfl,hF⟩:FsR w1 (.func (.func 129) #[] #[.pointer (some ⟨a,0,none⟩),.pointer (some ⟨b,0,none⟩),.pointer (some ⟨c,0,none⟩)]) B.X fuse l.length a b c) (((Upd.refl (λ_=>False) w1).alloc _).alloc _) (λe=>e) (λe=>e) (λe=>e)) (show Boxed ((w1.alloc (.cells #[.pointer (some ⟨w1.heap.size+1,0,none⟩)] 153)).alloc (.cells #[.pointer (some ⟨B.X,0,none⟩),.int .i64 B.who,.int .i64 0,.func (.func 129) #[] #[.pointer (some ⟨a,0,none⟩),.pointer (some ⟨b,0,none⟩),.pointer (some ⟨c,0,none⟩)],.bool false,.bool false] 161)) (w1.heap.size) 153 _ from qag (qad rfl _ _) _) (qac hbb.out hUV (λe=>e)) ⟨Zo,Zo,Zo,Zo,Zo,Zo⟩;clear hHeld hUV x2' x2 hF hsz hB1 hU1 hb5;generalize ((w1.alloc (.cells #[.pointer (some ⟨w1.heap.size+1,0,none⟩)] 153)).alloc (.cells #[.pointer (some ⟨B.X,0,none⟩),.int .i64 B.who,.int .i64 0,.func (.func 129) #[] #[.pointer (some ⟨a,0,none⟩),.pointer (some ⟨b,0,none⟩),.pointer (some ⟨c,0,none⟩)],.bool false,.bool false] 161))=V at hpre ⊢;generalize w1.heap.size+1=eb at hpre ⊢;generalize w1.heap.size=b5 at hpre ⊢;have hend:=waa (qh5 hen hpre.1 hdf.out hw.out (hdeed.out _ _ _ _ _ _ _ hpre.2.2.2.1 hpre.1 (λk hk=>hk.imp id (λe=>by have:=hpre.2.2.2.2.1;omega))));have c5:=hpre.2.1.cell;have hpre:=waa hpre;go_wp2_with fail;refine hend.out.mono ?_;rintro e w2 ⟨hu2,hE2⟩;have hE2:DP.EndO _ _ _ e w2 (t (qa0 fuse l.length) 0 l s):=hE2;generalize ho:t (qa0 fuse l.length) 0 l s=o at hw hE2;cases o with
     |wild=>exact absurd rfl hw.out
     |done T' i' l' s'=>
      obtain⟨rfl,F',hD,hg⟩:=hE2;have hD2:=hD;obtain⟨lv2,G2,an2,⟨i2,hEv⟩,-⟩:=hD2;have h52:=qac hpre.out.2.1 hu2 hpre.out.2.2.2.2.2.2.2.2.1;have hb2:=qac hpre.out.2.2.1 hu2 hpre.out.2.2.2.2.2.2.2.2.2;have hfin:=waa (λw3 hu3=>qg1 (w3:=w3) hpre.out hu2 hD hg hb2 hu3);have hdoor:=waa (qgh hEv h52 hb2);clear hEv h52 hb2 hD hg hu2;go_wp2_with fail;refine leaves_cons (f:=72) (args:=#[.pointer (some ⟨b5,0,none⟩),.pointer (some ⟨Bb,0,none⟩)]) Zs (by simp[go_sem]) ?_;refine hdoor.out.mono ?_;rintro e u' w3 ⟨rfl,rfl,hb3,hu3⟩;have z3:=hb3.cell;have h1:=hfin.out w3 hu3;simp[Leaves,settle,results,Tryz.results39,go_sem,z3]
      rw[ho];exact⟨h1.1,rfl,h1.2⟩
     |stop bk l' s'=>
      obtain⟨F',rfl,hO,hg⟩:=hE2;have hO2:=hO;obtain⟨lv2,G2,⟨i2,hEv⟩,-⟩:=hO2;have h52:=qac hpre.out.2.1 hu2 hpre.out.2.2.2.2.2.2.2.2.1;have hb2:=qac hpre.out.2.2.1 hu2 hpre.out.2.2.2.2.2.2.2.2.2;have hfin:=waa (λw3 hu3=>qge (w3:=w3) hpre.out hu2 hO hg hb2 hu3);have hdoor:=waa (qgr hEv h52 hb2);clear hEv h52 hb2 hO hg hu2;go_wp2_with fail;refine leaves_cons (f:=72) (args:=#[.pointer (some ⟨b5,0,none⟩),.pointer (some ⟨Bb,0,none⟩)]) Zs (by simp[go_sem]) ?_;refine hdoor.out.mono ?_;rintro e u' w3 ⟨rfl,hu',hb3,hu3⟩;have z3:=hb3.cell;have h1:=hfin.out w3 hu3;cases bk<;>simp[Leaves,hu',results,Tryz.results39,go_sem,z3]<;>rw[ho]<;>exact⟨h1.1,rfl,h1.2⟩
 ·(try simp only[wab,wac,wad])
  go_simp
  refine hK.out _ _ (by go_keep) (λhHeld2=>?_);clear hK K hHeld;have hHeld:=hHeld2;clear hHeld2;try simp only[Act.put,waf,wae,wag,wab,wac,wad]
  refine wpAnyH_ready (rs:=[7]) Zk Zs ?_;refine AllReadyH.cons rfl (λK hK=>?_) AllReadyH.nil
  ·(try simp only[wab,wac,wad])
   go_simp
   go_at_call 71
   refine hf2.out.mono ?_;rintro e w1 ⟨fs,a,b,c,rfl,⟨rfl,hF⟩,hsz,hB1⟩;have x2':w1.cell? ⟨B.X,2,none⟩=some (.int .i64 B.who):=(hB1.cell (p:=⟨B.X,2,none⟩) Zx).trans (by go_keep);have hb6:=(hB1.block W.drew.heap.size Zs).trans hb5.out;have g0:=qab hb6 0;have gf:=λj=>qah hb6 j
   (try simp at g0)
   (try simp at gf)
   have hb6:=waa hb6;have hU1:Upd (λ_=>False) W w1:=((Upd.refl _ W).drew.alloc _).trans (Upd.of_below hB1 (wah _));have hsz:W.heap.size<=a/\W.heap.size<=b/\W.heap.size<=c:=by obtain⟨q1,q2,q3⟩:=hsz;simp at q1 q2 q3;exact⟨Zo,Zo,Zo⟩
   go_wp2_with fail;refine hK.out _ _ (x2') (λhHeld2=>?_);clear hK K hHeld;have hHeld:=hHeld2;clear hHeld2;try simp only[Act.put,waf,wae,wag,wab,wac,wad]
   refine wpAnyH_take (i:=8) (v:=?_) rfl Zk Zk Zk (λ_ _ _ h=>h) (Or.inl ⟨by rfl,?_⟩) Za ?_;rotate_left;(·intro u h;(try dsimp only at h);(try simp only[wab,wac,wad]);go_simp;try with_reducible rfl);try simp only[Act.put,waf,wae,wag,wab,wac,wad]
   refine wpAnyH_ready (rs:=[9]) Zk Zs ?_;refine AllReadyH.cons rfl (λK hK=>?_) AllReadyH.nil
   ·(try simp only[wab,wac,wad])
    go_simp
    refine hK.out _ _ (by go_keep) (λhHeld2=>?_);clear hK K hHeld;have hHeld:=hHeld2;clear hHeld2;try simp only[Act.put,waf,wae,wag,wab,wac,wad]
    have hb7:=qag (show w1.heap[W.heap.size]? =_ from hb6.out) (.cells #[.pointer (some ⟨B.X,0,none⟩),.int .i64 B.who,.int .i64 0,.func (.func 129) #[] #[.pointer (some ⟨a,0,none⟩),.pointer (some ⟨b,0,none⟩),.pointer (some ⟨c,0,none⟩)],.bool false,.bool false] 161);have s0:=qab hb7 0;have sf:=qah hb7 0;simp at s0
    refine wpAnyH_ready (rs:=[11]) Zk Zs ?_;refine AllReadyH.cons rfl (λK hK=>?_) AllReadyH.nil
    ·(try simp only[wab,wac,wad])
     go_simp
     refine hK.out _ _ (((qf5 (G:=λk=>k=W.heap.size) (p:=⟨W.heap.size,0,none⟩) rfl _).cell (p:=⟨B.X,2,none⟩) (wal _ _ hHeld) (λe=>by have e:B.X=W.heap.size:=e;omega)).trans hHeld) (λhHeld2=>?_);clear hK K hHeld;have hHeld:=hHeld2;clear hHeld2;try simp only[Act.put,waf,wae,wag,wab,wac,wad]
     refine wpAnyH_done Zk ?_ _;refine NoPanic.normal ?_;have hWlt:W.heap.size<w1.heap.size:=(waj.1 hb6.out).1;have hUV:Upd (λ_=>False) W ((w1.alloc (.cells #[.pointer (some ⟨B.X,0,none⟩),.int .i64 B.who,.int .i64 0,.func (.func 129) #[] #[.pointer (some ⟨a,0,none⟩),.pointer (some ⟨b,0,none⟩),.pointer (some ⟨c,0,none⟩)],.bool false,.bool false] 161)).setCell ⟨W.heap.size,0,none⟩ (.pointer (some ⟨w1.heap.size,0,none⟩))):=(hU1.alloc _).setCell (p:=⟨W.heap.size,0,none⟩) (.inr (wah _)) _;have hW0:=hU0.out.size;have hBw1:=hBw.out;have hW1:=hU1.size;have hpre:=qh3 hh.out hC hl (hU0.out.trans hUV) (show EvR ((w1.alloc (.cells #[.pointer (some ⟨B.X,0,none⟩),.int .i64 B.who,.int .i64 0,.func (.func 129) #[] #[.pointer (some ⟨a,0,none⟩),.pointer (some ⟨b,0,none⟩),.pointer (some ⟨c,0,none⟩)],.bool false,.bool false] 161)).setCell ⟨W.heap.size,0,none⟩ (.pointer (some ⟨w1.heap.size,0,none⟩))) (w1.heap.size) (some B.X) B.who 0 _ false false from EvR.upd (qad rfl _ _:EvR (w1.alloc (.cells #[.pointer (some ⟨B.X,0,none⟩),.int .i64 B.who,.int .i64 0,.func (.func 129) #[] #[.pointer (some ⟨a,0,none⟩),.pointer (some ⟨b,0,none⟩),.pointer (some ⟨c,0,none⟩)],.bool false,.bool false] 161)) w1.heap.size (some B.X) B.who 0 _ false false) (qf5 (G:=λk=>k=W.heap.size) (p:=⟨W.heap.size,0,none⟩) rfl _) (λe=>by omega)) (FsR.upd (⟨rfl,hF⟩:FsR w1 (.func (.func 129) #[] #[.pointer (some ⟨a,0,none⟩),.pointer (some ⟨b,0,none⟩),.pointer (some ⟨c,0,none⟩)]) B.X fuse l.length a b c) (((Upd.refl (λk=>k=W.heap.size) w1).alloc _).setCell (p:=⟨W.heap.size,0,none⟩) (.inl rfl) _) (qaq hF.1 hb6.out Zd) (qaq hF.2.1 hb6.out Zd) (qaq hF.2.2 hb6.out Zd)) (show Boxed ((w1.alloc (.cells #[.pointer (some ⟨B.X,0,none⟩),.int .i64 B.who,.int .i64 0,.func (.func 129) #[] #[.pointer (some ⟨a,0,none⟩),.pointer (some ⟨b,0,none⟩),.pointer (some ⟨c,0,none⟩)],.bool false,.bool false] 161)).setCell ⟨W.heap.size,0,none⟩ (.pointer (some ⟨w1.heap.size,0,none⟩))) (W.heap.size) 153 _ from qaj hb7 0 _) (qac hbb.out hUV (λe=>e)) ⟨Zo,Zo,Zo,Zo,Zo,Zo⟩;clear hHeld hUV x2' x2 hF hsz hB1 hU1 hb5;clear hb6 hb7 s0 sf g0 gf hWlt;generalize ((w1.alloc (.cells #[.pointer (some ⟨B.X,0,none⟩),.int .i64 B.who,.int .i64 0,.func (.func 129) #[] #[.pointer (some ⟨a,0,none⟩),.pointer (some ⟨b,0,none⟩),.pointer (some ⟨c,0,none⟩)],.bool false,.bool false] 161)).setCell ⟨W.heap.size,0,none⟩ (.pointer (some ⟨w1.heap.size,0,none⟩)))=V at hpre ⊢;generalize w1.heap.size=eb at hpre ⊢;generalize W.heap.size=b5 at hpre ⊢;have hend:=waa (qh5 hen hpre.1 hdf.out hw.out (hdeed.out _ _ _ _ _ _ _ hpre.2.2.2.1 hpre.1 (λk hk=>hk.imp id (λe=>by have:=hpre.2.2.2.2.1;omega))));have c5:=hpre.2.1.cell;have hpre:=waa hpre;go_wp2_with fail;refine hend.out.mono ?_;rintro e w2 ⟨hu2,hE2⟩;have hE2:DP.EndO _ _ _ e w2 (t (qa0 fuse l.length) 0 l s):=hE2;generalize ho:t (qa0 fuse l.length) 0 l s=o at hw hE2;cases o with
     |wild=>exact absurd rfl hw.out
     |done T' i' l' s'=>
      obtain⟨rfl,F',hD,hg⟩:=hE2;have hD2:=hD;obtain⟨lv2,G2,an2,⟨i2,hEv⟩,-⟩:=hD2;have h52:=qac hpre.out.2.1 hu2 hpre.out.2.2.2.2.2.2.2.2.1;have hb2:=qac hpre.out.2.2.1 hu2 hpre.out.2.2.2.2.2.2.2.2.2;have hfin:=waa (λw3 hu3=>qg1 (w3:=w3) hpre.out hu2 hD hg hb2 hu3);have hdoor:=waa (qgh hEv h52 hb2);clear hEv h52 hb2 hD hg hu2;go_wp2_with fail;refine leaves_cons (f:=72) (args:=#[.pointer (some ⟨b5,0,none⟩),.pointer (some ⟨Bb,0,none⟩)]) Zs (by simp[go_sem]) ?_;refine hdoor.out.mono ?_;rintro e u' w3 ⟨rfl,rfl,hb3,hu3⟩;have z3:=hb3.cell;have h1:=hfin.out w3 hu3;simp[Leaves,settle,results,Tryz.results39,go_sem,z3]
      rw[ho];exact⟨h1.1,rfl,h1.2⟩
     |stop bk l' s'=>
      obtain⟨F',rfl,hO,hg⟩:=hE2;have hO2:=hO;obtain⟨lv2,G2,⟨i2,hEv⟩,-⟩:=hO2;have h52:=qac hpre.out.2.1 hu2 hpre.out.2.2.2.2.2.2.2.2.1;have hb2:=qac hpre.out.2.2.1 hu2 hpre.out.2.2.2.2.2.2.2.2.2;have hfin:=waa (λw3 hu3=>qge (w3:=w3) hpre.out hu2 hO hg hb2 hu3);have hdoor:=waa (qgr hEv h52 hb2);clear hEv h52 hb2 hO hg hu2;go_wp2_with fail;refine leaves_cons (f:=72) (args:=#[.pointer (some ⟨b5,0,none⟩),.pointer (some ⟨Bb,0,none⟩)]) Zs (by simp[go_sem]) ?_;refine hdoor.out.mono ?_;rintro e u' w3 ⟨rfl,hu',hb3,hu3⟩;have z3:=hb3.cell;have h1:=hfin.out w3 hu3;cases bk<;>simp[Leaves,hu',results,Tryz.results39,go_sem,z3]<;>rw[ho]<;>exact⟨h1.1,rfl,h1.2⟩
end
end Go.Proofs.YtgjhkafggagniaaGreat
