/- Parts. No condition. -/
import Derived.Recover
import Derived.Defers
import Derived.Test.YtgjhkafggagniaaGreatJoinV05
set_option linter.unusedVariables false
set_option maxRecDepth 100000
set_option maxHeartbeats 8000000
namespace Go.Proofs.YtgjhkafggagniaaGreat
open Go Go.RowKit
inductive Out (σ α:Type) where
 |done (a:α) (i:Nat) (l:List Nat) (s:σ)
 |stop (bl:Bool) (l:List Nat) (s:σ)
 |wild
def AP(σ α:Type):=(Nat->Bool)->Nat->List Nat->σ->Out σ α
def AP.ret{σ α:Type}(a:α):AP σ α:=λ_ i l s=> .done a i l s
def AP.ask{σ α:Type}(q:σ->Option (Nat×σ))(f:Nat->α):AP σ α:=λsp i l s=>
 match l[i]? with
 |some y=> .done (f y) (i+1) l s
 |none=>if 99000<=l.length then .wild else if sp l.length then .stop false l s else match q s with
  |none=> .stop true l s
  |some (y,s')=> .done (f y) (i+1) (l++[y]) s'
def AP.bind{σ α β:Type}(t:AP σ α)(f:α->AP σ β):AP σ β:=λsp i l s=>
 match t sp i l s with
 | .done a i' l' s'=>f a sp i' l' s'
 | .stop b l' s'=> .stop b l' s'
 | .wild=> .wild
theorem AP.bind_done{σ α β:Type}{t:AP σ α}{f:α->AP σ β}{sp:Nat->Bool}{i i':Nat}{l l':List Nat}{s s':σ}{a:α}(h:t sp i l s= .done a i' l' s'):(t.bind f) sp i l s=f a sp i' l' s':=by simp only[AP.bind,h]
theorem AP.bind_stop{σ α β:Type}{t:AP σ α}{f:α->AP σ β}{sp:Nat->Bool}{i:Nat}{l l':List Nat}{s s':σ}{b:Bool}(h:t sp i l s= .stop b l' s'):(t.bind f) sp i l s= .stop b l' s':=by simp only[AP.bind,h]
theorem AP.tame{σ α β:Type}{t:AP σ α}{f:α->AP σ β}{sp:Nat->Bool}{i:Nat}{l:List Nat}{s:σ}(h:(t.bind f) sp i l s≠ .wild):t sp i l s≠ .wild:=λe=>h (by simp only[AP.bind,e])
theorem AP.tame_next{σ α β:Type}{t:AP σ α}{f:α->AP σ β}{sp:Nat->Bool}{i i':Nat}{l l':List Nat}{s s':σ}{a:α}(h:(t.bind f) sp i l s≠ .wild)(e:t sp i l s= .done a i' l' s'):f a sp i' l' s'≠ .wild:=by rw[AP.bind_done e] at h;exact h
theorem AP.bind_bind{σ α β γ:Type}(t:AP σ α)(f:α->AP σ β)(g:β->AP σ γ):(t.bind f).bind g=t.bind (λa=>(f a).bind g):=by
 funext sp i l s
 simp only[AP.bind];cases t sp i l s<;>rfl
theorem AP.bind_ret{σ α:Type}(t:AP σ α):t.bind AP.ret=t:=by
 funext sp i l s
 simp only[AP.bind,AP.ret];cases t sp i l s<;>rfl
def onM{τ:Type}(f:DM->Option (Nat×DM))(s:DM×τ):Option (Nat×DM×τ):=(f s.1).map λr=>(r.1,r.2,s.2)
def AP.each{σ β:Type}(f:β->AP σ Unit):List β->AP σ Unit
 |[]=>AP.ret ()
 |b::r=>(f b).bind λ_=>AP.each f r
structure DP (τ:Type) where
 X:Nat
 p:Nat
 gs:Nat
 gk:Nat
 m:Nat
 n:Nat
 tp:Nat
 tg:Nat
 nl:Nat
 eb:Nat
 a:Nat
 b:Nat
 c:Nat
 who:Int
 df:Value
 fs:Value
 fuse:Int
 bef:Nat
 c0:Nat
 Ex:τ->(Nat->Prop)->World->Prop
 exUpd:∀(t:τ) (G H:Nat->Prop) (w w':World),Ex t G w->Upd H w w'->(∀k,G k->¬H k)->Ex t G w'
 exLt:∀(t:τ) (G:Nat->Prop) (w:World) (k:Nat),Ex t G w->G k->k<w.heap.size
 exNot:∀(t:τ) (G:Nat->Prop) (w:World) (k:Nat) (Cs:Array Value) (ty:TypeId) (fr:Nat×Nat),Ex t G w->G k->w.heap[k]? =some (.cells Cs ty fr)->ty≠324/\ty≠97/\ty≠161
section
variable {τ:Type}
def DP.ps(E:DP τ)(k:Nat):Prop:=psF E.p E.gs E.gk E.m E.tp E.tg k
def DP.sp(E:DP τ)(n:Nat):Bool:=qa0 E.fuse E.bef n
def DP.Cov(E:DP τ)(lv:Value)(G F:Nat->Prop)(w:World):Prop:=
 (∀k,E.ps k\/G k\/k=E.eb\/k=E.X\/lv.ownBlock=some k->F k)/\(∀k,F k->k<w.heap.size)/\(∀k,G k->¬E.ps k)
def DP.Mem(E:DP τ)(C:Nat)(s:DM×τ)(G:Nat->Prop)(w:World):Prop:=PsR w E.p E.gs E.gk E.m E.n E.tp E.tg E.nl C s.1/\E.Ex s.2 G w
def DP.In(E:DP τ)(i:Nat)(l:List Nat)(s:DM×τ)(F:Nat->Prop)(w:World):Prop:=
 ∃lv G,EvR w E.eb (some E.X) E.who i E.fs false false/\FsR w E.fs E.X E.fuse E.bef E.a E.b E.c/\RnP w E.X E.p E.tp E.who E.df lv l false (.slice none 0 0)/\E.Mem (E.c0+l.length) s G w/\E.Cov lv G F w/\
  (¬F E.a/\¬F E.b/\¬F E.c)/\i<=l.length/\E.bef<=l.length/\E.c0+100000<maxLen/\l.length<=99000/\∀y∈l,y<18446744073709551616
def DP.Off(E:DP τ)(bl:Bool)(l:List Nat)(s:DM×τ)(F:Nat->Prop)(w:World):Prop:=
 ∃lv G,(∃i,EvR w E.eb (some E.X) E.who i E.fs true bl)/\RnP w E.X E.p E.tp E.who E.df lv l false (.slice none 0 0)/\E.Mem (E.c0+l.length+1) s G w/\E.Cov lv G F w/\∀y∈l,y<18446744073709551616
def Grows(F F':Nat->Prop)(w:World):Prop:=∀k,F' k->F k\/w.heap.size<=k
def DP.Post{α:Type}(E:DP τ)(o:Out (DM×τ) α)(R:α->Value->World->Prop)(F:Nat->Prop)(w:World)(e:Ending)(w':World):Prop:=
 Upd F w w'/\match o with
  | .done a i l s=>∃v F',e= .returned v/\R a v w'/\E.In i l s F' w'/\Grows F F' w
  | .stop bl l s=>∃F',e= .panicked (qbs E.eb)/\E.Off bl l s F' w'/\Grows F F' w
  | .wild=>True
def qbc{α:Type}(_:α)(v:Value)(_:World):Prop:=v= .tuple #[]
section
variable {E:DP τ} {i i':Nat} {l l':List Nat} {s s':DM×τ} {F F':Nat->Prop} {w w1 w':World} {α β:Type} {e:Ending}
theorem Grows.refl(F:Nat->Prop)(w:World):Grows F F w:=λ_ h=> .inl h
theorem Grows.trans{F2:Nat->Prop}(h:Grows F F' w)(k:Grows F' F2 w1)(hs:w.heap.size<=w1.heap.size):Grows F F2 w:=λj hj=>by
 rcases k j hj with h1|h1
 ·exact h j h1
 ·exact .inr Zo
theorem DP.Post.done{t:AP (DM×τ) α}{R:α->Value->World->Prop}(h:E.Post (t E.sp i l s) R F w e w')(hw:t E.sp i l s≠ .wild):
  (∃a i' l' s' v F',t E.sp i l s= .done a i' l' s'/\e= .returned v/\R a v w'/\E.In i' l' s' F' w'/\Grows F F' w/\Upd F w w')\/
   (∃bl l' s' F',t E.sp i l s= .stop bl l' s'/\e= .panicked (qbs E.eb)/\E.Off bl l' s' F' w'/\Grows F F' w/\Upd F w w'):=by
 obtain⟨hu,h⟩:=h;generalize t E.sp i l s=o at h hw;cases o with
 |done a i' l' s'=>
  obtain⟨v,F',h1,h2,h3,h4⟩:=h;exact .inl ⟨a,i',l',s',v,F',rfl,h1,h2,h3,h4,hu⟩
 |stop bl l' s'=>
  obtain⟨F',h1,h2,h3⟩:=h;exact .inr ⟨bl,l',s',F',rfl,h1,h2,h3,hu⟩
 |wild=>exact absurd rfl hw
theorem DP.Post.stopped{t:AP (DM×τ) α}{R:α->Value->World->Prop}{bl:Bool}(h:t E.sp i l s= .stop bl l' s')(he:e= .panicked (qbs E.eb))(hO:E.Off bl l' s' F' w')(hg:Grows F F' w)(hu:Upd F w w'):E.Post (t E.sp i l s) R F w e w':=by
 unfold DP.Post;rw[h];exact⟨hu,F',he,hO,hg⟩
theorem DP.Post.ended{t:AP (DM×τ) α}{R:α->Value->World->Prop}{a:α}{v:Value}(h:t E.sp i l s= .done a i' l' s')(he:e= .returned v)(hR:R a v w')(hI:E.In i' l' s' F' w')(hg:Grows F F' w)(hu:Upd F w w'):E.Post (t E.sp i l s) R F w e w':=by
 unfold DP.Post;rw[h];exact⟨hu,v,F',he,hR,hI,hg⟩
theorem DP.Post.after{o:Out (DM×τ) α}{R:α->Value->World->Prop}(h:E.Post o R F' w1 e w')(hu:Upd F w w1)(hg:Grows F F' w):E.Post o R F w e w':=by
 obtain⟨h1,h2⟩:=h;refine⟨hu.after h1 hg,?_⟩;cases o with
 |done a i' l' s'=>
  obtain⟨v,F2,h3,h4,h5,h6⟩:=h2;exact⟨v,F2,h3,h4,h5,hg.trans h6 hu.size⟩
 |stop bl l' s'=>
  obtain⟨F2,h3,h4,h5⟩:=h2;exact⟨F2,h3,h4,hg.trans h5 hu.size⟩
 |wild=>trivial
theorem DP.Post.res{o:Out (DM×τ) α}{R R':α->Value->World->Prop}(h:E.Post o R F w e w')(hR:∀a v,R a v w'->R' a v w'):E.Post o R' F w e w':=by
 obtain⟨h1,h2⟩:=h;refine⟨h1,?_⟩;cases o with
 |done a i' l' s'=>
  obtain⟨v,F2,h3,h4,h5⟩:=h2;exact⟨v,F2,h3,hR a v h4,h5⟩
 |stop bl l' s'=>exact h2
 |wild=>trivial
theorem DP.In.lt(h:E.In i l s F w){k:Nat}(hk:F k):k<w.heap.size:=by
 obtain⟨lv,G,k1,k2,k3,k4,k5,k6⟩:=h;exact k5.2.1 k hk
theorem DP.Mem.upd{C:Nat}{G H:Nat->Prop}(h:E.Mem C s G w)(hu:Upd H w w')(h1:∀k,E.ps k->¬H k)(h2:∀k,G k->¬H k):E.Mem C s G w':=⟨h.1.upd hu h1,E.exUpd _ _ _ _ _ h.2 hu h2⟩
theorem DP.In.upd{H:Nat->Prop}(h:E.In i l s F w)(hu:Upd H w w')(hG:∀k,F k->¬H k)(h1:¬H E.a)(h2:¬H E.b)(h3:¬H E.c):E.In i l s F w':=by
 obtain⟨lv,G,k1,k2,k3,k4,k5,k6⟩:=h;exact⟨lv,G,k1.upd hu (hG _ (k5.1 _ (.inr (.inr (.inl rfl))))),k2.upd hu h1 h2 h3,k3.upd hu (hG _ (k5.1 _ (.inr (.inr (.inr (.inl rfl)))))) (λk hk=>hG k (k5.1 _ (.inr (.inr (.inr (.inr hk)))))),
  k4.upd hu (λk hk=>hG k (k5.1 _ (.inl hk))) (λk hk=>hG k (k5.1 _ (.inr (.inl hk)))),⟨k5.1,λk hk=>wak (k5.2.1 k hk) hu.size,k5.2.2⟩,k6⟩
theorem DP.In.new(h:E.In i l s F w)(hu:Upd (λ_=>False) w w'):E.In i l s F w':=h.upd hu (λ_ _ e=>e) (λe=>e) (λe=>e) (λe=>e)
theorem DP.In.low(h:E.In i l s F w):∀k,F k\/k=E.a\/k=E.b\/k=E.c->k<w.heap.size:=by
 obtain⟨lv,G,k1,k2,k3,k4,k5,k6⟩:=h;rintro k (hk|rfl|rfl|rfl)
 ·exact k5.2.1 k hk
 ·exact k2.2.1.lt
 ·exact k2.2.2.1.lt
 ·exact k2.2.2.2.lt
theorem AP.ask_told{q:(DM×τ)->Option (Nat×DM×τ)}{f:Nat->α}{sp:Nat->Bool}{y:Nat}(h:l[i]? =some y):AP.ask q f sp i l s= .done (f y) (i+1) l s:=by simp only[AP.ask,h]
theorem AP.ask_past{q:(DM×τ)->Option (Nat×DM×τ)}{f:Nat->α}{sp:Nat->Bool}(hw:AP.ask q f sp l.length l s≠ .wild):
  l.length<99000/\AP.ask q f sp l.length l s=if sp l.length then .stop false l s else match q s with
   |none=> .stop true l s
   |some (y,s')=> .done (f y) (l.length+1) (l++[y]) s':=by
 have hn:l[l.length]? =none:=wb7 (wah _);unfold AP.ask at hw ⊢;rw[hn] at hw ⊢;simp only at hw ⊢;by_cases h:99000<=l.length
 ·rw[if_pos h] at hw
  exact absurd rfl hw
 ·rw[if_neg h]
  refine⟨Zo,?_⟩;cases sp l.length<;>cases q s<;>rfl
theorem qdo{Fn:Nat}{caps:Array Value}(hen:∀(args:Array Value) (w:World),(callFunc Fn args).run Tryz.prog w= .ok (.enter Fn args) w)(h:E.In i l s F w){q:(DM×τ)->Option (Nat×DM×τ)}(hw:AP.ask q id E.sp i l s≠ .wild)(hlt:∀V G y s',E.Mem (E.c0+l.length) s G V->q s=some (y,s')->y<18446744073709551616)(hyes:∀y s',q s=some (y,s')->∀V lv G,Upd (λk=>k=E.eb) w V->RnP V E.X E.p E.tp E.who E.df lv l false (.slice none 0 0)->E.Mem (E.c0+l.length) s G V->(∀k,G k->F k/\¬E.ps k)->(∀k,E.ps k->F k)->l.length<99000->
   Calls Tryz.prog Fn (#[.pointer (some ⟨E.X,0,none⟩)]++caps) V λe V'=>e= .returned (.tuple #[.agg #[.int .u64 (y:Int),.nilIface],.bool true])/\(∃G',E.Mem (E.c0+l.length+1) s' G' V'/\Grows G G' V)/\Upd (λk=>E.ps k\/G k) V V')(hno:q s=none->∃y:Nat,∀V lv G,Upd (λk=>k=E.eb) w V->RnP V E.X E.p E.tp E.who E.df lv l false (.slice none 0 0)->E.Mem (E.c0+l.length) s G V->(∀k,G k->F k/\¬E.ps k)->(∀k,E.ps k->F k)->l.length<99000->
   Calls Tryz.prog Fn (#[.pointer (some ⟨E.X,0,none⟩)]++caps) V λe V'=>e= .returned (.tuple #[.agg #[.int .u64 (y:Int),.nilIface],.bool false])/\(∃G',E.Mem (E.c0+l.length+1) s G' V'/\Grows G G' V)/\Upd (λk=>E.ps k\/G k) V V'):
  Calls Tryz.prog 281 #[.pointer (some ⟨E.eb,0,none⟩),.func (.func Fn) #[] caps] w λe w'=>E.Post (AP.ask q id E.sp i l s) (λ(y:Nat) v _=>v= .int .u64 (y:Int)) F w e w':=by
 have hlow:=h.low;obtain⟨lv,G,k1,k2,k3,k4,k5,k6,k7,k8,k9⟩:=h;have hpe:¬E.ps E.eb:=k4.1.not k1 Zd Zd Zd (.inl Zd);have hpX:¬E.ps E.X:=k4.1.not k3.1 Zd Zd Zd (.inl Zd);have hpl:∀k,lv.ownBlock=some k->¬E.ps k:=λk hk=>by
  rcases k3.2.2 with ⟨rfl,_⟩|⟨g,cap,cur,rfl,_,hb,_⟩
  ·cases hk
  ·injection hk with hk
   subst hk;exact k4.1.not hb Zd Zd Zd (.inl Zd)
 have hGe:¬G E.eb:=λe=>(E.exNot _ _ _ _ _ _ _ k4.2 e k1).2.2 rfl
 have hGX:¬G E.X:=λe=>(E.exNot _ _ _ _ _ _ _ k4.2 e k3.1).2.1 rfl
 have hGl:∀k,lv.ownBlock=some k->¬G k:=λk hk e=>by
  rcases k3.2.2 with ⟨rfl,_⟩|⟨g,cap,cur,rfl,_,hb,_⟩
  ·cases hk
  ·injection hk with hk
   subst hk;exact(E.exNot _ _ _ _ _ _ _ k4.2 e hb).1 rfl
 have hXe:E.X≠E.eb:=qaq k3.1 k1 Zd;have hle:lv.ownBlock≠some E.eb:=λe=>qao k1 Zd k3.2 e.symm
 have hH:∀k,(E.ps k\/G k)->k≠E.eb/\k≠E.X/\lv.ownBlock≠some k:=by
  rintro k (hk|hk)
  ·exact⟨λe=>hpe (e▸hk),λe=>hpX (e▸hk),λe=>hpl k e hk⟩
  ·exact⟨λe=>hGe (e▸hk),λe=>hGX (e▸hk),λe=>hGl k e hk⟩
 have heF:F E.eb:=k5.1 _ (.inr (.inr (.inl rfl)));have hpF:∀k,E.ps k->F k:=λk hk=>k5.1 _ (.inl hk)
 have hGF:∀k,G k->F k/\¬E.ps k:=λk hk=>⟨k5.1 _ (.inr (.inl hk)),k5.2.2 k hk⟩
 have heb:∀{V:World},Upd (λk=>k=E.eb) w V->RnP V E.X E.p E.tp E.who E.df lv l false (.slice none 0 0)/\E.Mem (E.c0+l.length) s G V:=λhV=>
  ⟨k3.upd hV hXe (λk hk e=>hle (by rw[hk,e])),k4.upd hV (λk hk e=>hpe (e▸hk)) (λk hk e=>hGe (e▸hk))⟩
 rcases wc6 i l.length with hil|hil
 ·obtain⟨y,hy⟩:∃y,l[i]? =some y:=⟨_,wan hil⟩
  refine(ask_told k1 k3 Zo hy _).mono ?_;rintro e w' ⟨he,hE,hu⟩;refine DP.Post.ended (t:=AP.ask q id) (AP.ask_told hy) he rfl (F':=F) ⟨lv,G,hE,k2.upd hu (λe=>k6.1 (e▸heF)) (λe=>k6.2.1 (e▸heF)) (λe=>k6.2.2 (e▸heF)),(heb hu).1,(heb hu).2,⟨k5.1,λk hk=>wak (k5.2.1 k hk) hu.size,k5.2.2⟩,k6,hil,k8,k9⟩ (Grows.refl _ _) (hu.mono (λk e=>e▸heF))
 ·obtain rfl:i=l.length:=Zo
  obtain⟨hl,hq⟩:=AP.ask_past hw;cases hsp:qa0 E.fuse E.bef l.length with
  |true=>
   rw[if_pos (show E.sp l.length=true from hsp)] at hq;refine(qs9 k1 k2 k3 Zo k8 hsp _).mono ?_;rintro e w' ⟨he,hE,hu⟩;exact DP.Post.stopped (t:=AP.ask q id) hq he (F':=F) ⟨lv,G,⟨_,hE⟩,(heb hu).1,⟨(heb hu).2.1.more Zo,(heb hu).2.2⟩,⟨k5.1,λk hk=>wak (k5.2.1 k hk) hu.size,k5.2.2⟩,k9.2.2⟩ (Grows.refl _ _) (hu.mono (λk e=>e▸heF))
  |false=>
   rw[if_neg (by rw[show E.sp l.length=false from hsp];simp)] at hq;cases ho:q s with
   |none=>
    rw[ho] at hq;obtain⟨y,hd⟩:=hno ho;refine(qos (x:=y) (Q:=λV'=>∃G',E.Mem (E.c0+l.length+1) s G' V'/\Grows G G' w) (H:=λk=>E.ps k\/G k) hen k1 k2 k3 Zo k8 hsp (λV hV=>(hd V lv G hV (heb hV).1 (heb hV).2 hGF hpF hl).mono ?_) ?_ hH).mono ?_
    ·rintro e V' ⟨he,⟨G',h1,h2⟩,h3⟩
     exact⟨he,⟨G',h1,λk hk=>(h2 k hk).imp id (λe=>wam hV.size e)⟩,h3⟩
    ·rintro V V' ⟨G',h1,h2⟩ hu
     refine⟨G',h1.upd hu (λk hk e=>hpe (e▸hk)) (λk hk e=>?_),h2⟩;rcases h2 k hk with h3|h3
     ·exact hGe (e▸h3)
     ·have:=k1.lt;omega
    ·rintro e w' ⟨he,hE,⟨G',hM,hG'⟩,hR,hu⟩
     have hu':Upd F w w':=hu.mono (λk e=>by rcases e with (e|e)|e;exact hpF k e;exact(hGF k e).1;exact e▸heF);refine DP.Post.stopped (t:=AP.ask q id) hq he (F':=λk=>F k\/G' k) ⟨lv,G',⟨_,hE⟩,hR,hM,⟨?_,?_,?_⟩,k9.2.2⟩ ?_ hu'
     ·rintro k (e|e|e)
      ·exact .inl (hpF k e)
      ·exact .inr e
      ·exact .inl (k5.1 k (.inr (.inr e)))
     ·rintro k (e|e)
      ·exact wak (k5.2.1 k e) hu.size
      ·exact E.exLt _ _ _ _ hM.2 e
     ·intro k e hp
      rcases hG' k e with h3|h3
      ·exact(hGF k h3).2 hp
      ·have:=k4.1.lts hp;omega
     ·rintro k (e|e)
      ·exact .inl e
      ·exact(hG' k e).imp (λh3=>(hGF k h3).1) id
   |some r=>
    obtain⟨y,s'⟩:=r;rw[ho] at hq;refine(q0x (x:=y) (Q:=λV'=>∃G',E.Mem (E.c0+l.length+1) s' G' V'/\Grows G G' w) (H:=λk=>E.ps k\/G k) hen k1 k2 k3 Zo k8 hsp (λV hV=>(hyes y s' ho V lv G hV (heb hV).1 (heb hV).2 hGF hpF hl).mono ?_) ?_ hH).mono ?_
    ·rintro e V' ⟨he,⟨G',h1,h2⟩,h3⟩
     exact⟨he,⟨G',h1,λk hk=>(h2 k hk).imp id (λe=>wam hV.size e)⟩,h3⟩
    ·rintro V V' ⟨G',h1,h2⟩ hu
     refine⟨G',h1.upd hu ?_ ?_,h2⟩
     ·rintro k hk (e|e|e)
      ·exact hpe (e▸hk)
      ·exact hpX (e▸hk)
      ·exact hpl k e hk
     ·rintro k hk he
      rcases h2 k hk with h3|h3
      ·rcases he with e|e|e
       ·exact hGe (e▸h3)
       ·exact hGX (e▸h3)
       ·exact hGl k e h3
      ·rcases he with e|e|e
       ·have:=k1.lt;omega
       ·have:=k3.lt;omega
       ·have:=(k3.row_lt e).2;omega
    ·rintro e w' ⟨he,hE,⟨G',hM,hG'⟩,⟨lv',hR,hlv⟩,hu⟩
     have hu':Upd F w w':=hu.mono (λk e=>by
      rcases e with (e|e)|e
      ·exact hpF k e
      ·exact(hGF k e).1
      ·exact k5.1 k (.inr (.inr e)))
     have hold:∀k,k=E.a\/k=E.b\/k=E.c->¬(F k\/G' k\/lv'.ownBlock=some k):=by
      intro k hk hf;have hkw:=hlow k (.inr hk);have hkF:¬F k:=by rcases hk with rfl|rfl|rfl;exact k6.1;exact k6.2.1;exact k6.2.2
      rcases hf with hf|hf|hf
      ·exact hkF hf
      ·rcases hG' k hf with h3|h3
       ·exact hkF (hGF k h3).1
       ·omega
      ·rcases hlv with h3|⟨g,h3,h4⟩
       ·exact hkF (k5.1 k (.inr (.inr (.inr (.inr (h3▸hf))))))
       ·rw[h3] at hf
        injection hf with hf;omega
     have hFa:=hold _ (.inl rfl);have hFb:=hold _ (.inr (.inl rfl));have hFc:=hold _ (.inr (.inr rfl));refine DP.Post.ended (t:=AP.ask q id) hq he rfl (F':=λk=>F k\/G' k\/lv'.ownBlock=some k) ⟨lv',G',hE,k2.upd hu' k6.1 k6.2.1 k6.2.2,hR,?_,⟨?_,?_,?_⟩,⟨hFa,hFb,hFc⟩,by simp,by simp;omega,k9.1,by simp;omega,λz hz=>by
      rcases wbu.1 hz with hz|hz
      ·exact k9.2.2 z hz
      ·obtain rfl:z=y:=by simpa using hz
       exact hlt w G _ s' k4 ho⟩ ?_ hu'
     ·rw[wbh,wc0]
      exact hM
     ·rintro k (e|e|e|e|e)
      ·exact .inl (hpF k e)
      ·exact .inr (.inl e)
      ·exact .inl (k5.1 k (.inr (.inr (.inl e))))
      ·exact .inl (k5.1 k (.inr (.inr (.inr (.inl e)))))
      ·exact .inr (.inr e)
     ·rintro k (e|e|e)
      ·exact wak (k5.2.1 k e) hu'.size
      ·exact E.exLt _ _ _ _ hM.2 e
      ·exact(hR.row_lt e).2
     ·intro k e hp
      rcases hG' k e with h3|h3
      ·exact(hGF k h3).2 hp
      ·have:=k4.1.lts hp;omega
     ·rintro k (e|e|e)
      ·exact .inl e
      ·exact(hG' k e).imp (λh3=>(hGF k h3).1) id
      ·rcases hlv with h3|⟨g,h3,h4⟩
       ·exact .inl (k5.1 k (.inr (.inr (.inr (.inr (h3▸e))))))
       ·rw[h3] at e
        injection e with e;exact .inr Zo
end
end
section
variable {τ:Type} {E:DP τ} {i:Nat} {l:List Nat} {s:DM×τ} {F:Nat->Prop} {w w':World} {α:Type}
theorem AP.ask_map{σ:Type}(q:σ->Option (Nat×σ))(f:Nat->α)(sp:Nat->Bool)(i:Nat)(l:List Nat)(s:σ):
  AP.ask q f sp i l s=match AP.ask q id sp i l s with
   | .done y i' l' s'=> .done (f y) i' l' s'
   | .stop bl l' s'=> .stop bl l' s'
   | .wild=> .wild:=by
 unfold AP.ask;cases l[i]? with
 |some y=>rfl
 |none=>
  simp only
  by_cases h1:99000<=l.length
  ·rw[if_pos h1,if_pos h1]
  ·rw[if_neg h1,if_neg h1]
   by_cases h2:sp l.length=true
   ·rw[if_pos h2,if_pos h2]
   ·rw[if_neg h2,if_neg h2]
    cases q s with
    |none=>rfl
    |some r=>rfl
theorem AP.ask_tame{σ:Type}{q:σ->Option (Nat×σ)}{f:Nat->α}{sp:Nat->Bool}{i:Nat}{l:List Nat}{s:σ}(h:AP.ask q f sp i l s≠ .wild):AP.ask q id sp i l s≠ .wild:=λe=>h (by rw[AP.ask_map,e])
theorem DP.Mem.step{V V':World}{G:Nat->Prop}{C C':Nat}{D':DM}(hM:E.Mem C s G V)(hP:PsR V' E.p E.gs E.gk E.m E.n E.tp E.tg E.nl C' D')(hC:C'<=C+1)(hG:∀k,G k->F k/\¬E.ps k)(hu:Upd (psF E.p E.gs E.gk E.m E.tp E.tg) V V'):
  (∃G',E.Mem (C+1) (D',s.2) G' V'/\Grows G G' V)/\Upd (λk=>E.ps k\/G k) V V':=
 ⟨⟨G,⟨hP.more hC,E.exUpd _ _ _ _ _ hM.2 hu (λk hk e=>(hG k hk).2 e)⟩,Grows.refl _ _⟩,hu.mono (λk e=> .inl e)⟩
theorem qby{f:DM->Option (Nat×DM)}{y0:Nat}{D0:DM}(h:f s.1=some (y0,D0)){y:Nat}{s':DM×τ}(ho:onM f s=some (y,s')):y=y0/\s'=(D0,s.2):=by
 simp only[onM,h,wc5,Option.some.injEq,Prod.mk.injEq] at ho;exact⟨ho.1.symm,ho.2.symm⟩
theorem qne(h:E.In i l s F w)(a:Int){x:Nat}(hx:x<18446744073709551616)(hw:AP.ask (onM (doF E.n E.nl E.who 0 a x)) (λ_=>()) E.sp i l s≠ .wild):
  Calls Tryz.prog 220 #[.pointer (some ⟨E.eb,0,none⟩),.int .i64 a,.int .u64 (x:Int)] w λe w'=>E.Post (AP.ask (onM (doF E.n E.nl E.who 0 a x)) (λ_=>()) E.sp i l s) qbc F w e w':=by
 have hmf:∀(fn:Fn) (first cap:Array Value) (w:World),(Instr.makeFunc fn first cap).run Tryz.prog w= .ok (.func fn first cap) w:=λ_ _ _ _=>rfl
 have hu:Upd (λ_=>False) w ((w.alloc (.cells #[.int .i64 a] 3)).alloc (.cells #[.int .u64 (x:Int)] 40)):=((Upd.refl _ w).alloc _).alloc _;have hI:=h.new hu;have hb0:Boxed ((w.alloc (.cells #[.int .i64 a] 3)).alloc (.cells #[.int .u64 (x:Int)] 40)) w.heap.size 3 (.int .i64 a):=qag (qad rfl _ _) _;have hb1:Boxed ((w.alloc (.cells #[.int .i64 a] 3)).alloc (.cells #[.int .u64 (x:Int)] 40)) (w.heap.size+1) 40 (.int .u64 (x:Int)):=qad Zs _ _;have heb:E.eb<w.heap.size:=by obtain⟨lv,G,k1,_⟩:=h;exact k1.lt
 have hask:=qdo (Fn:=282) (caps:=#[.pointer (some ⟨w.heap.size,0,none⟩),.pointer (some ⟨w.heap.size+1,0,none⟩)]) (λargs w=>by simp[go_sem]) hI (AP.ask_tame hw) (λV G y s' hM ho=>by have h1:=(qby (D0:={s.1 with S:=if qay E.n a then s.1.S.set a.toNat x else s.1.S}) (y0:=0) (by simp only[doF,if_true]) ho).1;omega) (by
  intro y s' ho V lv G hV hR hM hG hp hl;obtain⟨rfl,rfl⟩:=qby (D0:={s.1 with S:=if qay E.n a then s.1.S.set a.toNat x else s.1.S}) (y0:=0) (by simp only[doF,if_true]) ho;refine(qqj hM.1 hR (qac hb0 hV Zo) (λe=>by have:=h.lt (hp _ e);omega) (qac hb1 hV Zo) hx).mono ?_;rintro e V' ⟨he,hP,hu2⟩;exact⟨he,hM.step hP Zo hG hu2⟩) (by
  intro ho;simp[onM,doF] at ho)
 have hask:=waa hask;have hus:=waa hu;have hw:=waa hw;clear hI hb0 hb1 heb h hu;go_enter Tryz.func220,Tryz.ntmps220;go_wp2_with fail;refine hask.out.mono ?_;rintro e V hpost;rcases hpost.done (AP.ask_tame hw.out) with ⟨y,i',l',s',v,F',ho,rfl,rfl,hI,hg,hu⟩|⟨bl,l',s',F',ho,rfl,hO,hg,hu⟩
 ·have hfin:=waa (DP.Post.ended (t:=AP.ask (onM (doF E.n E.nl E.who 0 a x)) (λ_=>())) (R:=qbc) (v:= .tuple #[]) (by rw[AP.ask_map,ho]) rfl rfl hI (λk hk=>(hg k hk).imp id (λe=>wam hus.out.size e)) ((hus.out.mono (λ_ e=>e.elim)).trans hu))
  clear hpost ho hI hg hu;go_wp2_with fail;go_end0
  exact hfin.out
 ·exact⟨rfl,DP.Post.stopped (t:=AP.ask (onM (doF E.n E.nl E.who 0 a x)) (λ_=>())) (by rw[AP.ask_map,ho]) rfl hO (λk hk=>(hg k hk).imp id (λe=>wam hus.out.size e)) ((hus.out.mono (λ_ e=>e.elim)).trans hu)⟩
theorem q09(h:E.In i l s F w)(a:Int)(hw:AP.ask (onM (doF E.n E.nl E.who 1 a 0)) id E.sp i l s≠ .wild):
  Calls Tryz.prog 278 #[.pointer (some ⟨E.eb,0,none⟩),.int .i64 a] w λe w'=>E.Post (AP.ask (onM (doF E.n E.nl E.who 1 a 0)) id E.sp i l s) (λ(y:Nat) v _=>v= .int .u64 (y:Int)) F w e w':=by
 have hmf:∀(fn:Fn) (first cap:Array Value) (w:World),(Instr.makeFunc fn first cap).run Tryz.prog w= .ok (.func fn first cap) w:=λ_ _ _ _=>rfl
 have hu:Upd (λ_=>False) w (w.alloc (.cells #[.int .i64 a] 3)):=(Upd.refl _ w).alloc _;have hI:=h.new hu;have hb0:Boxed (w.alloc (.cells #[.int .i64 a] 3)) w.heap.size 3 (.int .i64 a):=qad rfl _ _;have heb:E.eb<w.heap.size:=by obtain⟨lv,G,k1,_⟩:=h;exact k1.lt
 have hask:=qdo (Fn:=325) (caps:=#[.pointer (some ⟨w.heap.size,0,none⟩)]) (λargs w=>by simp[go_sem]) hI hw (λV G y s' hM ho=>by
  have h1:=(qby (D0:=s.1) (y0:=if qay E.n a then s.1.S[a.toNat]?.getD 0 else 0) Zr ho).1;subst h1;split
  ·cases hq:s.1.S[a.toNat]? with
   |none=>simp
   |some z=>exact hM.1.2.2.2.2.2 z (wb9 hq)
  ·omega) (by
  intro y s' ho V lv G hV hR hM hG hp hl;obtain⟨rfl,rfl⟩:=qby (D0:=s.1) (y0:=if qay E.n a then s.1.S[a.toNat]?.getD 0 else 0) Zr ho;refine(qua hM.1 hR (qac hb0 hV Zo) (λe=>by have:=h.lt (hp _ e);omega)).mono ?_;rintro e V' ⟨he,hP,hu2⟩;exact⟨he,hM.step hP Zo hG hu2⟩) (by
  intro ho;exact absurd ho (by simp[onM,doF]))
 have hask:=waa hask;have hus:=waa hu;have hw:=waa hw;clear hI hb0 heb h hu;go_enter Tryz.func278,Tryz.ntmps278;go_wp2_with fail;refine hask.out.mono ?_;rintro e V hpost;rcases hpost.done hw.out with ⟨y,i',l',s',v,F',ho,rfl,rfl,hI,hg,hu⟩|⟨bl,l',s',F',ho,rfl,hO,hg,hu⟩
 ·have hfin:=waa (DP.Post.ended (t:=AP.ask (onM (doF E.n E.nl E.who 1 a 0)) id) (R:=λ(y:Nat) v _=>v= .int .u64 (y:Int)) ho rfl rfl hI (λk hk=>(hg k hk).imp id (λe=>wam hus.out.size e)) ((hus.out.mono (λ_ e=>e.elim)).trans hu))
  clear hpost ho hI hg hu;go_wp2_with fail;go_ret;exact hfin.out
 ·exact⟨rfl,DP.Post.stopped (t:=AP.ask (onM (doF E.n E.nl E.who 1 a 0)) id) ho rfl hO (λk hk=>(hg k hk).imp id (λe=>wam hus.out.size e)) ((hus.out.mono (λ_ e=>e.elim)).trans hu)⟩
theorem ql8(h:E.In i l s F w)(a:Int)(hw:AP.ask (onM (doF E.n E.nl E.who 2 a 0)) (λ_=>()) E.sp i l s≠ .wild):
  Calls Tryz.prog 285 #[.pointer (some ⟨E.eb,0,none⟩),.int .i64 a] w λe w'=>E.Post (AP.ask (onM (doF E.n E.nl E.who 2 a 0)) (λ_=>()) E.sp i l s) qbc F w e w':=by
 have hmf:∀(fn:Fn) (first cap:Array Value) (w:World),(Instr.makeFunc fn first cap).run Tryz.prog w= .ok (.func fn first cap) w:=λ_ _ _ _=>rfl
 have hu:Upd (λ_=>False) w (w.alloc (.cells #[.int .i64 a] 3)):=(Upd.refl _ w).alloc _;have hI:=h.new hu;have hb0:Boxed (w.alloc (.cells #[.int .i64 a] 3)) w.heap.size 3 (.int .i64 a):=qad rfl _ _;have heb:E.eb<w.heap.size/\E.c0+100000<maxLen:=by obtain⟨lv,G,k1,_,_,_,_,_,_,_,k9,_⟩:=h;exact⟨k1.lt,k9⟩
 have hask:=qdo (Fn:=332) (caps:=#[.pointer (some ⟨w.heap.size,0,none⟩)]) (λargs w=>by simp[go_sem]) hI (AP.ask_tame hw) (λV G y s' hM ho=>by have h1:=(qby (D0:={s.1 with N:=if qay E.n a then qdy s.1.N s.1.S (a.toNat/8*8) 8 else s.1.N,B:=if qay E.n a then s.1.B.set (a.toNat/8) true else s.1.B}) (y0:=0) Zr ho).1;omega) (by
  intro y s' ho V lv G hV hR hM hG hp hl;obtain⟨rfl,rfl⟩:=qby (D0:={s.1 with N:=if qay E.n a then qdy s.1.N s.1.S (a.toNat/8*8) 8 else s.1.N,B:=if qay E.n a then s.1.B.set (a.toNat/8) true else s.1.B}) (y0:=0) Zr ho;refine(qrq hM.1 hR Zo (qac hb0 hV Zo) (λe=>by have:=h.lt (hp _ e);omega)).mono ?_;rintro e V' ⟨he,hP,hu2⟩;exact⟨he,hM.step hP Zo hG hu2⟩) (by
  intro ho;exact absurd ho (by simp[onM,doF]))
 have hask:=waa hask;have hus:=waa hu;have hw:=waa hw;clear hI hb0 heb h hu;go_enter Tryz.func285,Tryz.ntmps285;go_wp2_with fail;refine hask.out.mono ?_;rintro e V hpost;rcases hpost.done (AP.ask_tame hw.out) with ⟨y,i',l',s',v,F',ho,rfl,rfl,hI,hg,hu⟩|⟨bl,l',s',F',ho,rfl,hO,hg,hu⟩
 ·have hfin:=waa (DP.Post.ended (t:=AP.ask (onM (doF E.n E.nl E.who 2 a 0)) (λ_=>())) (R:=qbc) (v:= .tuple #[]) (by rw[AP.ask_map,ho]) rfl rfl hI (λk hk=>(hg k hk).imp id (λe=>wam hus.out.size e)) ((hus.out.mono (λ_ e=>e.elim)).trans hu))
  clear hpost ho hI hg hu;go_wp2_with fail;go_end0
  exact hfin.out
 ·exact⟨rfl,DP.Post.stopped (t:=AP.ask (onM (doF E.n E.nl E.who 2 a 0)) (λ_=>())) (by rw[AP.ask_map,ho]) rfl hO (λk hk=>(hg k hk).imp id (λe=>wam hus.out.size e)) ((hus.out.mono (λ_ e=>e.elim)).trans hu)⟩
theorem qml(h:E.In i l s F w)(hw:AP.ask (onM (doF E.n E.nl E.who 3 0 0)) (λ_=>()) E.sp i l s≠ .wild):
  Calls Tryz.prog 286 #[.pointer (some ⟨E.eb,0,none⟩)] w λe w'=>E.Post (AP.ask (onM (doF E.n E.nl E.who 3 0 0)) (λ_=>()) E.sp i l s) qbc F w e w':=by
 have hmf:∀(fn:Fn) (first cap:Array Value) (w:World),(Instr.makeFunc fn first cap).run Tryz.prog w= .ok (.func fn first cap) w:=λ_ _ _ _=>rfl
 have hask:=qdo (Fn:=334) (caps:=#[]) (λargs w=>by simp[go_sem]) h (AP.ask_tame hw) (λV G y s' hM ho=>by have h1:=(qby (D0:={s.1 with K:=fenL s.1.K s.1.N s.1.B (E.n*8),B:=List.replicate E.n false}) (y0:=0) Zr ho).1;omega) (by
  intro y s' ho V lv G hV hR hM hG hp hl;obtain⟨rfl,rfl⟩:=qby (D0:={s.1 with K:=fenL s.1.K s.1.N s.1.B (E.n*8),B:=List.replicate E.n false}) (y0:=0) Zr ho;refine(qsg hM.1 hR).mono ?_;rintro e V' ⟨he,hP,hu2⟩;exact⟨he,hM.step hP Zo hG hu2⟩) (by
  intro ho;exact absurd ho (by simp[onM,doF]))
 have hask:=waa hask;have hw:=waa hw;clear h;go_enter Tryz.func286,Tryz.ntmps286;go_wp2_with fail;refine hask.out.mono ?_;rintro e V hpost;rcases hpost.done (AP.ask_tame hw.out) with ⟨y,i',l',s',v,F',ho,rfl,rfl,hI,hg,hu⟩|⟨bl,l',s',F',ho,rfl,hO,hg,hu⟩
 ·have hfin:=waa (DP.Post.ended (t:=AP.ask (onM (doF E.n E.nl E.who 3 0 0)) (λ_=>())) (R:=qbc) (v:= .tuple #[]) (by rw[AP.ask_map,ho]) rfl rfl hI hg hu)
  clear hpost ho hI hg hu;go_wp2_with fail;go_end0
  exact hfin.out
 ·exact⟨rfl,DP.Post.stopped (t:=AP.ask (onM (doF E.n E.nl E.who 3 0 0)) (λ_=>())) (by rw[AP.ask_map,ho]) rfl hO hg hu⟩
end
theorem qr7{B:Nat}{u0 u1:Value}(w:World)(h:w.heap[B]? =some (.cells #[u0,u1] 324 (0,0))):
  CallsD Tryz.prog 376 #[.pointer (some ⟨B,0,none⟩)] .returning w λe u' w'=>e= .returned (.tuple #[])/\u'= .returning/\w'=w.setCell ⟨B,1,none⟩ .nilIface:=by
 have c1:=qab h 1;have cf:=qah h 1;simp at c1
 refine callsD_of_wpS Tryz.func376 rfl λc₀ cs hu=>?_
 apply wpS_region
 simp[wpOpsS,go_sem,recoverD,hu,Tryz.ntmps376,c1,cf,bodyPostS,results,Tryz.results376]
 cases c₀
 simp_all
theorem qmw(k:FuncId)(cs:Array Value)(w:World):(Go.binOp .neq 301 (.func (.func k) #[] cs) .nilFunc).run Tryz.prog w= .ok (.bool true) w:=by
 have h:∀d:Nat,(Op.equalIn (d+1) 301 (.func (.func k) #[] cs) .nilFunc).run Tryz.prog w= .ok false w:=λd=>by
  simp[Op.equalIn,run_underlying Tryz.underlying301]
 simp[Go.binOp,Op.equal,Op.maxDepth,h 9999]
end Go.Proofs.YtgjhkafggagniaaGreat
