/- Parts. No condition. -/
import Derived.Test.YtgjhkafggagniaaGreatJoinV49
set_option linter.unusedVariables false
set_option maxRecDepth 100000
set_option maxHeartbeats 8000000
namespace Go.Proofs.YtgjhkafggagniaaGreat
open Go Go.RowKit
def qbx(t:HS):Prop:=∀j,8<=j->t.2 j=[]
def fit8(t:HS):Bool:=(List.range 8).all λj=>decide ((t.2 j).length<=300000)
theorem qmn{t:HS}(h:qbx t):fit8 t=true↔∀j,(t.2 j).length<=300000:=by
 unfold fit8;rw[wb0];constructor
 ·intro h1 j
  by_cases hj:j<8
  ·exact of_decide_eq_true (h1 j (wcb.2 hj))
  ·rw[h j Zo];simp
 ·intro h1 j _
  exact decide_eq_true (h1 j)
def qdw(g:HS->Int×HS):AP (DM×HS) Int:=λsp i l s=>if fit8 s.2=true then qec g sp i l s else .wild
def qqq(x:Nat)(c:Int):Option (Int×Int×Int):=
 if((x=0/\qcu (f3O x).1 (f3O x).2.1 (f3O x).2.2=true)\/(qbp (f3O x).1 (f3O x).2.1 (f3O x).2.2=true/\bW (f3O x).1 (f3O x).2.1 (f3O x).2.2=x/\clN (f3O x).2.2=c))/\f3O x≠(0,0,0) then some (f3O x) else none
theorem qap(x:Nat)(c:Int):liveO x c=qqq x c:=by
 unfold liveO qqq BHit;congr
def EqT{α:Type}(t u:AP (DM×HS) α):Prop:=∀sp i l s,qbx s.2->t sp i l s=u sp i l s/\∀a i' l' s',u sp i l s= .done a i' l' s'->qbx s'.2
def MemA{α:Type}(t:AP (DM×HS) α):Prop:=∀sp i l s a i' l' s',t sp i l s= .done a i' l' s'->s'.2=s.2
section
variable {α β:Type}
theorem MemA.ret(a:α):MemA (AP.ret a):=λsp i l s a' i' l' s' h=>by
 unfold AP.ret at h;injection h with _ _ _ h;rw[h]
theorem MemA.wild:MemA (qbd (α:=α)):=λsp i l s a' i' l' s' h=>by cases h
theorem MemA.ask(q:DM->Option (Nat×DM))(f:Nat->α):MemA (AP.ask (onM (τ:=HS) q) f):=λsp i l s a' i' l' s' h=>by
 unfold AP.ask at h;split at h
 ·injection h with _ _ _ h
  rw[h]
 ·split at h
  ·cases h
  ·split at h
   ·cases h
   ·split at h
    ·cases h
    ·rename_i y s2 hq
     injection h with _ _ _ h;subst h;unfold onM at hq;obtain⟨r,-,hr⟩:=wb3.1 hq;injection hr with _ hr;rw[<-hr]
theorem MemA.bind{t:AP (DM×HS) α}{f:α->AP (DM×HS) β}(h:MemA t)(hf:∀a,MemA (f a)):MemA (t.bind f):=λsp i l s a' i' l' s' e=>by
 unfold AP.bind at e;split at e
 ·rename_i a1 i1 l1 s1 e1
  rw[hf a1 sp i1 l1 s1 a' i' l' s' e,h sp i l s a1 i1 l1 s1 e1]
 ·cases e
 ·cases e
theorem MemA.ite{c:Prop}[Decidable c]{t u:AP (DM×HS) α}(h:MemA t)(k:MemA u):MemA (if c then t else u):=by
 split
 ·exact h
 ·exact k
theorem MemA.each(f:β->AP (DM×HS) Unit)(hf:∀b,MemA (f b)):∀l:List β,MemA (AP.each f l)
 |[]=>MemA.ret ()
 |b::r=>MemA.bind (hf b) (λ_=>MemA.each f hf r)
theorem qdb(n nl:Nat)(who:Int)(ws:List (Int×Nat))(a:Int):MemA (qar n nl who ws a):=by
 unfold qar;split
 ·exact MemA.ret _
 ·exact MemA.ask _ _
theorem qgg(n nl:Nat)(who:Int)(es:List (Int×Nat)):MemA (qa7 n nl who es):=
 MemA.bind (MemA.each _ (λb=>MemA.ask _ _) _) (λ_=>MemA.bind (MemA.each _ (λb=>MemA.ask _ _) _) (λ_=>MemA.ask _ _))
theorem qmr(A:AC)(E:DP HS)(ws:List (Int×Nat)):MemA (pubA A E ws):=by
 refine MemA.bind ?_ (λ_=>MemA.ret _);unfold qcg;exact MemA.ite (MemA.bind (MemA.each _ (λb=>qgg _ _ _ _) _) (λ_=>MemA.ret _)) (MemA.ret _)
theorem qhc(E:DP HS)(k:Nat)(a:Int):MemA (lkA E k a):=MemA.ask _ _
theorem qj1(E:DP HS)(ws:List (Int×Nat))(o:Option OV):∀r k,MemA (qcr E ws o r k)
 |0,_=>MemA.ret _
 |r+1,k=>MemA.bind (qdb _ _ _ _ _) (λ_=>MemA.ite (MemA.ret _) (qj1 E ws o r (k+1)))
theorem qx4(A:AC)(E:DP HS)(ws:List (Int×Nat))(to_ j0 j4 j5 j6:Int):MemA (endA A E ws to_ j0 j4 j5 j6):=
 MemA.ite (MemA.bind (qdb _ _ _ _ _) (λ_=>MemA.bind (qmr _ _ _) (λ_=>MemA.ret _))) MemA.wild
theorem qxh(A:AC)(E:DP HS)(ws more:List (Int×Nat))(a blk ta:Int)(y:Nat):MemA (begE A E ws more a blk ta y):=
 MemA.ite (MemA.ret _) (MemA.ite (MemA.bind (qgg _ _ _ _) (λ_=>MemA.bind (qdb _ _ _ _ _) (λ_=>MemA.bind (qmr _ _ _) (λ_=>MemA.ret _)))) MemA.wild)
theorem qx8(ws:List (Int×Nat))(x:Int):MemA (tknF ws x):=MemA.ret _
theorem qv8(E:DP HS)(ws:List (Int×Nat))(ta:Int)(o:Option OV):MemA (qes E ws ta o):=
 MemA.ite (MemA.ret _) (MemA.ite (MemA.bind (qj1 _ _ _ _ _) (λ_=>MemA.ite (MemA.ret _) (MemA.ret _))) MemA.wild)
theorem EqT.mem{t:AP (DM×HS) α}(h:MemA t):EqT t t:=λsp i l s hs=>⟨rfl,λa i' l' s' e=>by rw[h sp i l s a i' l' s' e];exact hs⟩
theorem EqT.ret(a:α):EqT (AP.ret a) (AP.ret a):=EqT.mem (MemA.ret a)
theorem EqT.wild:EqT (qbd (α:=α)) qbd:=EqT.mem MemA.wild
theorem EqT.err(c:Int)(ws:List (Int×Nat)):EqT (errA c ws) (errA c ws):=EqT.mem (MemA.ret _)
theorem EqT.bind{t u:AP (DM×HS) α}{f g:α->AP (DM×HS) β}(h:EqT t u)(hf:∀a,EqT (f a) (g a)):EqT (t.bind f) (u.bind g):=λsp i l s hs=>by
 obtain⟨h1,h2⟩:=h sp i l s hs;unfold AP.bind;rw[h1];cases hu:u sp i l s with
 |done a i1 l1 s1=>exact hf a sp i1 l1 s1 (h2 a i1 l1 s1 hu)
 |stop b l1 s1=>exact⟨rfl,λa i' l' s' e=>by cases e⟩
 |wild=>exact⟨rfl,λa i' l' s' e=>by cases e⟩
theorem EqT.ite{c:Prop}[Decidable c]{t u t' u':AP (DM×HS) α}(h:c->EqT t t')(k:¬c->EqT u u'):EqT (if c then t else u) (if c then t' else u'):=by
 by_cases hc:c
 ·rw[if_pos hc,if_pos hc];exact h hc
 ·rw[if_neg hc,if_neg hc];exact k hc
theorem EqT.once(g:HS->Int×HS)(hg:∀t,qbx t->qbx (g t).2):EqT (onceH g) (qdw g):=λsp i l s hs=>by
 have h1:onceH g sp i l s=qdw g sp i l s:=by
  unfold onceH qdw;by_cases hf:fit8 s.2=true
  ·rw[if_pos hf];exact if_pos ((qmn hs).1 hf)
  ·rw[if_neg hf];exact if_neg (λe=>hf ((qmn hs).2 e))
 refine⟨h1,λa i' l' s' e=>?_⟩;unfold qdw at e;split at e
 ·unfold qec AP.ask at e
  split at e
  ·injection e with _ _ _ e
   rw[<-e];exact hs
  ·split at e
   ·cases e
   ·split at e
    ·cases e
    ·split at e
     ·cases e
     ·rename_i y s2 hq
      injection e with _ _ _ e;subst e;unfold onX at hq;injection hq with hq;injection hq with _ hq;rw[<-hq];exact hg s.2 hs
 ·cases e
end
section
variable {t:HS} {n L:Nat} {r who c z x:Int}
theorem qfs{f:Nat->List Int}{j:Nat}{v:List Int}(h:∀k,8<=k->f k=[])(hj:j<8):∀k,8<=k->upV f j v k=[]:=λk hk=>by
 rw[qcc f v Zo];exact h k hk
theorem qdk(hL:L=1)(h:qbx t):qbx (t.1,takS L t.2 who c):=by
 unfold takS qbx;simp only
 split
 ·rename_i hp
  exact qfs h (by unfold caI;unfold thP at hp;omega)
 ·exact h
theorem qdm(hL:L=1)(h:qbx t):qbx (t.1,refS L t.2 who c):=by
 unfold refS qbx;simp only
 split
 ·rename_i hp
  unfold thP at hp;exact qfs (qfs h Zo) (by unfold caI;omega)
 ·exact h
theorem qdl(hL:L=1)(h:qbx t):qbx (t.1,givS L t.2 who c x):=by
 unfold givS qbx;simp only
 split
 ·rename_i hp
  exact qfs h (by unfold caI;unfold thP at hp;omega)
 ·exact h
theorem qdn(h:qbx t):qbx (carH t.1 z c,carS n L r t.1 t.2 z c):=by
 unfold carS qbx;simp only
 split
 ·rename_i hp
  unfold carB at hp;rw[wbp,decide_eq_true_eq] at hp;exact qfs h Zo
 ·exact h
theorem EqT.under{E:DP HS}{k:Int}{t u:AP (DM×HS) (ANS×List (Int×Nat))}(h:EqT t u):EqT (qbe E k t) (qbe E k u):=
 EqT.bind (EqT.mem (qhc _ _ _)) (λ_=>EqT.bind h (λ_=>EqT.bind (EqT.mem (qhc _ _ _)) (λ_=>EqT.ret _)))
theorem EqT.underG{β:Type}{E:DP HS}{k:Int}{t u:AP (DM×HS) (β×List (Int×Nat))}(h:EqT t u):EqT (underG E k t) (underG E k u):=
 EqT.bind (EqT.mem (qhc _ _ _)) (λ_=>EqT.bind h (λ_=>EqT.bind (EqT.mem (qhc _ _ _)) (λ_=>EqT.ret _)))
end
noncomputable def bwAC (A:AC) (a:Int):AP (DM×HS) Int:=qdw (λt=>(bwN A.s A.l A.r t.1 a,(t.1,t.2)))
theorem q17(A:AC)(a:Int):EqT (bwA A a) (bwAC A a):=by
 unfold bwA bwAC;try simp only[qap]
 repeat' first
  |with_reducible exact EqT.ret _
  |(with_reducible refine EqT.once _ (λt ht=>?_);first|exact ht|exact qdk hL ht|exact qdm hL ht|exact qdl hL ht|exact qdn ht)
  |(with_reducible refine EqT.ite (λ_=>?_) (λ_=>?_))
  |(with_reducible refine EqT.bind ?_ (λ_=>?_))
noncomputable def takAC (L:Nat) (who c:Int):AP (DM×HS) Int:=qdw (λt=>((takO L t.2 who c).getD (-1),(t.1,takS L t.2 who c)))
theorem qpf(L:Nat)(who c:Int)(hL:L=1):EqT (takA L who c) (takAC L who c):=by
 unfold takA takAC;try simp only[qap]
 repeat' first
  |with_reducible exact EqT.ret _
  |(with_reducible refine EqT.once _ (λt ht=>?_);first|exact ht|exact qdk hL ht|exact qdm hL ht|exact qdl hL ht|exact qdn ht)
  |(with_reducible refine EqT.ite (λ_=>?_) (λ_=>?_))
  |(with_reducible refine EqT.bind ?_ (λ_=>?_))
noncomputable def refAC (L:Nat) (who c:Int):AP (DM×HS) Int:=qdw (λt=>((refN L t.2 who c:Int),(t.1,refS L t.2 who c)))
theorem qoy(L:Nat)(who c:Int)(hL:L=1):EqT (refA L who c) (refAC L who c):=by
 unfold refA refAC;try simp only[qap]
 repeat' first
  |with_reducible exact EqT.ret _
  |(with_reducible refine EqT.once _ (λt ht=>?_);first|exact ht|exact qdk hL ht|exact qdm hL ht|exact qdl hL ht|exact qdn ht)
  |(with_reducible refine EqT.ite (λ_=>?_) (λ_=>?_))
  |(with_reducible refine EqT.bind ?_ (λ_=>?_))
noncomputable def givAC (L:Nat) (who c x:Int):AP (DM×HS) Unit:=(qdw (λt=>(0,(t.1,givS L t.2 who c x)))).bind λ_=>AP.ret ()
theorem qoz(L:Nat)(who c x:Int)(hL:L=1):EqT (givA L who c x) (givAC L who c x):=by
 unfold givA givAC;try simp only[qap]
 repeat' first
  |with_reducible exact EqT.ret _
  |(with_reducible refine EqT.once _ (λt ht=>?_);first|exact ht|exact qdk hL ht|exact qdm hL ht|exact qdl hL ht|exact qdn ht)
  |(with_reducible refine EqT.ite (λ_=>?_) (λ_=>?_))
  |(with_reducible refine EqT.bind ?_ (λ_=>?_))
noncomputable def objectAC (A:AC) (E:DP HS) (ws:List (Int×Nat)) (a:Int):AP (DM×HS) (Option OV):=
 if a=0 then AP.ret none else(bwAC A a).bind λm=>if m=0 then AP.ret none else if ¬(0<m/\m<=4096) then qbd else
  (qar E.n E.nl E.who ws (headN A.s A.l A.r (sptN A a m).1+1)).bind λy=>if hasB y (sptN A a m).2.1=true then
   (qar E.n E.nl E.who ws a).bind λx=>AP.ret ((qqq x (clN (m - 1))).map λo=>(a,o,sptN A a m)) else AP.ret none
theorem qi2(A:AC)(E:DP HS)(ws:List (Int×Nat))(a:Int):EqT (objectA A E ws a) (objectAC A E ws a):=by
 unfold objectA objectAC;try simp only[qap]
 repeat' first
  |with_reducible exact EqT.ret _
  |with_reducible exact EqT.wild
  |with_reducible exact EqT.mem (qdb _ _ _ _ _)
  |with_reducible exact q17 _ _
  |(with_reducible refine EqT.ite (λ_=>?_) (λ_=>?_))
  |(with_reducible refine EqT.bind ?_ (λ_=>?_))
noncomputable def destAC (A:AC) (E:DP HS) (ws:List (Int×Nat)) (root:Bool) (obj idx:Int):AP (DM×HS) (Int×Bool):=
 if root=true then AP.ret (qco A.s A.l A.r idx,decide (0<=qco A.s A.l A.r idx)) else(objectAC A E ws obj).bind λo=>if okB o=true then AP.ret (qdi o idx,o.isSome&&decide (0<=qdi o idx)) else qbd
theorem qng(A:AC)(E:DP HS)(ws:List (Int×Nat))(root:Bool)(obj idx:Int):EqT (destA A E ws root obj idx) (destAC A E ws root obj idx):=by
 unfold destA destAC;try simp only[qap]
 repeat' first
  |with_reducible exact EqT.ret _
  |with_reducible exact EqT.wild
  |with_reducible exact qi2 _ _ _ _
  |(with_reducible refine EqT.ite (λ_=>?_) (λ_=>?_))
  |(with_reducible refine EqT.bind ?_ (λ_=>?_))
noncomputable def romAC (n:Nat):AP (DM×HS) Int:=qdw (λt=>(qg8 n t.1,t))
theorem qzf(n:Nat):EqT (romA n) (romAC n):=by
 unfold romA romAC;try simp only[qap]
 repeat' first
  |with_reducible exact EqT.ret _
  |(with_reducible refine EqT.once _ (λt ht=>?_);first|exact ht|exact qdk hL ht|exact qdm hL ht|exact qdl hL ht|exact qdn ht)
  |(with_reducible refine EqT.ite (λ_=>?_) (λ_=>?_))
  |(with_reducible refine EqT.bind ?_ (λ_=>?_))
noncomputable def crvAC (n L:Nat) (r z c:Int):AP (DM×HS) Int:=qdw (λt=>(if carB t.1 z c=true then 0 else 1,(carH t.1 z c,carS n L r t.1 t.2 z c)))
theorem qzw(n L:Nat)(r z c:Int)(hL:L=1):EqT (crvA n L r z c) (crvAC n L r z c):=by
 unfold crvA crvAC;try simp only[qap]
 repeat' first
  |with_reducible exact EqT.ret _
  |(with_reducible refine EqT.once _ (λt ht=>?_);first|exact ht|exact qdk hL ht|exact qdm hL ht|exact qdl hL ht|exact qdn ht)
  |(with_reducible refine EqT.ite (λ_=>?_) (λ_=>?_))
  |(with_reducible refine EqT.bind ?_ (λ_=>?_))
noncomputable def carveFC (A:AC) (E:DP HS) (n L:Nat) (c z:Int):AP (DM×HS) Bool:=
 if z<0 then AP.ret false else if z<=1000/\0<=headN A.s A.l A.r z/\headN A.s A.l A.r z<16384 then
  (qa7 E.n E.nl E.who (hwL A.s A.l A.r z [(1,c,0)])).bind λ_=>(crvAC n L A.r z c).bind λ_=>AP.ret true
 else qbd
theorem qtq(A:AC)(E:DP HS)(n L:Nat)(c z:Int)(hL:L=1):EqT (carveF A E n L c z) (carveFC A E n L c z):=by
 unfold carveF carveFC;try simp only[qap]
 repeat' first
  |with_reducible exact EqT.ret _
  |with_reducible exact EqT.wild
  |with_reducible exact EqT.mem (qgg _ _ _ _)
  |with_reducible exact qzw _ _ _ _ _ hL
  |(with_reducible refine EqT.ite (λ_=>?_) (λ_=>?_))
  |(with_reducible refine EqT.bind ?_ (λ_=>?_))
noncomputable def carveAC (A:AC) (E:DP HS) (n L:Nat) (c:Int):AP (DM×HS) Bool:=(romAC n).bind (carveFC A E n L c)
theorem qvg(A:AC)(E:DP HS)(n L:Nat)(c:Int)(hL:L=1):EqT (carveA A E n L c) (carveAC A E n L c):=by
 unfold carveA carveAC;try simp only[qap]
 repeat' first
  |with_reducible exact EqT.ret _
  |with_reducible exact qzf _
  |with_reducible exact qtq _ _ _ _ _ _ hL
  |(with_reducible refine EqT.ite (λ_=>?_) (λ_=>?_))
  |(with_reducible refine EqT.bind ?_ (λ_=>?_))
noncomputable def tknLC (L:Nat) (who c:Int) (ws:List (Int×Nat)):AP (DM×HS) (ANS×List (Int×Nat)):=(takAC L who c).bind (tknF ws)
theorem qox(L:Nat)(who c:Int)(ws:List (Int×Nat))(hL:L=1):EqT (tknL L who c ws) (tknLC L who c ws):=by
 unfold tknL tknLC;try simp only[qap]
 repeat' first
  |with_reducible exact EqT.ret _
  |with_reducible exact EqT.mem (qx8 _ _)
  |with_reducible exact qpf _ _ _ hL
  |(with_reducible refine EqT.ite (λ_=>?_) (λ_=>?_))
  |(with_reducible refine EqT.bind ?_ (λ_=>?_))
noncomputable def tknCC (L:Nat) (who c:Int) (ws:List (Int×Nat)) (b:Bool):AP (DM×HS) (ANS×List (Int×Nat)):=if b=true then(refAC L who c).bind λ_=>tknLC L who c ws else tknLC L who c ws
theorem qz5(L:Nat)(who c:Int)(ws:List (Int×Nat))(b:Bool)(hL:L=1):EqT (tknC L who c ws b) (tknCC L who c ws b):=by
 unfold tknC tknCC;try simp only[qap]
 repeat' first
  |with_reducible exact EqT.ret _
  |with_reducible exact qoy _ _ _ hL
  |with_reducible exact qox _ _ _ _ hL
  |(with_reducible refine EqT.ite (λ_=>?_) (λ_=>?_))
  |(with_reducible refine EqT.bind ?_ (λ_=>?_))
noncomputable def tknZC (A:AC) (E:DP HS) (n L:Nat) (c:Int) (ws:List (Int×Nat)) (z:Int):AP (DM×HS) (ANS×List (Int×Nat)):=if z=0 then(carveAC A E n L c).bind (tknCC L A.who c ws) else tknLC L A.who c ws
theorem q01(A:AC)(E:DP HS)(n L:Nat)(c:Int)(ws:List (Int×Nat))(z:Int)(hL:L=1):EqT (tknZ A E n L c ws z) (tknZC A E n L c ws z):=by
 unfold tknZ tknZC;try simp only[qap]
 repeat' first
  |with_reducible exact EqT.ret _
  |with_reducible exact qvg _ _ _ _ _ hL
  |with_reducible exact qox _ _ _ _ hL
  |with_reducible exact qz5 _ _ _ _ _ hL
  |(with_reducible refine EqT.ite (λ_=>?_) (λ_=>?_))
  |(with_reducible refine EqT.bind ?_ (λ_=>?_))
noncomputable def tknInC (A:AC) (E:DP HS) (n L:Nat) (c:Int) (ws:List (Int×Nat)):AP (DM×HS) (ANS×List (Int×Nat)):=(refAC L A.who c).bind (tknZC A E n L c ws)
theorem qx7(A:AC)(E:DP HS)(n L:Nat)(c:Int)(ws:List (Int×Nat))(hL:L=1):EqT (tknIn A E n L c ws) (tknInC A E n L c ws):=by
 unfold tknIn tknInC;try simp only[qap]
 repeat' first
  |with_reducible exact EqT.ret _
  |with_reducible exact qoy _ _ _ hL
  |with_reducible exact q01 _ _ _ _ _ _ _ hL
  |(with_reducible refine EqT.ite (λ_=>?_) (λ_=>?_))
  |(with_reducible refine EqT.bind ?_ (λ_=>?_))
noncomputable def tknOC (A:AC) (E:DP HS) (n L:Nat) (c:Int) (ws:List (Int×Nat)) (x:Int):AP (DM×HS) (ANS×List (Int×Nat)):=if x≠-1 then AP.ret ((0,x,0),ws) else qbe E 0 (tknInC A E n L c ws)
theorem qz2(A:AC)(E:DP HS)(n L:Nat)(c:Int)(ws:List (Int×Nat))(x:Int)(hL:L=1):EqT (tknO A E n L c ws x) (tknOC A E n L c ws x):=by
 unfold tknO tknOC;try simp only[qap]
 repeat' first
  |with_reducible exact EqT.ret _
  |with_reducible exact qx7 _ _ _ _ _ _ hL
  |(with_reducible refine EqT.under ?_)
  |(with_reducible refine EqT.ite (λ_=>?_) (λ_=>?_))
  |(with_reducible refine EqT.bind ?_ (λ_=>?_))
noncomputable def tknAC (A:AC) (E:DP HS) (n L:Nat) (c:Int) (ws:List (Int×Nat)):AP (DM×HS) (ANS×List (Int×Nat)):=(takAC L A.who c).bind (tknOC A E n L c ws)
theorem qzz(A:AC)(E:DP HS)(n L:Nat)(c:Int)(ws:List (Int×Nat))(hL:L=1):EqT (tknA A E n L c ws) (tknAC A E n L c ws):=by
 unfold tknA tknAC;try simp only[qap]
 repeat' first
  |with_reducible exact EqT.ret _
  |with_reducible exact qpf _ _ _ hL
  |with_reducible exact qz2 _ _ _ _ _ _ _ hL
  |(with_reducible refine EqT.ite (λ_=>?_) (λ_=>?_))
  |(with_reducible refine EqT.bind ?_ (λ_=>?_))
noncomputable def begFC (A:AC) (E:DP HS) (ws more:List (Int×Nat)) (a blk:Int) (d:Int×Bool):DAP:=if d.2=true then(qar E.n E.nl E.who ws d.1).bind (begE A E ws more a blk d.1) else errA 3 ws
theorem q0n(A:AC)(E:DP HS)(ws more:List (Int×Nat))(a blk:Int)(d:Int×Bool):EqT (begF A E ws more a blk d) (begFC A E ws more a blk d):=by
 unfold begF begFC;try simp only[qap]
 repeat' first
  |with_reducible exact EqT.ret _
  |with_reducible exact EqT.err _ _
  |with_reducible exact EqT.mem (qdb _ _ _ _ _)
  |with_reducible exact EqT.mem (qxh _ _ _ _ _ _ _ _)
  |(with_reducible refine EqT.ite (λ_=>?_) (λ_=>?_))
  |(with_reducible refine EqT.bind ?_ (λ_=>?_))
noncomputable def beginAC (A:AC) (E:DP HS) (ws more:List (Int×Nat)) (a blk:Int):DAP:=(destAC A E ws A.root A.obj A.idx).bind (begFC A E ws more a blk)
theorem qst(A:AC)(E:DP HS)(ws more:List (Int×Nat))(a blk:Int):EqT (beginA A E ws more a blk) (beginAC A E ws more a blk):=by
 unfold beginA beginAC;try simp only[qap]
 repeat' first
  |with_reducible exact EqT.ret _
  |with_reducible exact qng _ _ _ _ _ _
  |with_reducible exact q0n _ _ _ _ _ _ _
  |(with_reducible refine EqT.ite (λ_=>?_) (λ_=>?_))
  |(with_reducible refine EqT.bind ?_ (λ_=>?_))
noncomputable def smlGC (A:AC) (L:Nat) (a c:Int) (r:ANS×List (Int×Nat)):DAP:=if r.1.1≠0 then(givAC L A.who c a).bind λ_=>AP.ret r else AP.ret r
theorem q1m(A:AC)(L:Nat)(a c:Int)(r:ANS×List (Int×Nat))(hL:L=1):EqT (smlG A L a c r) (smlGC A L a c r):=by
 unfold smlG smlGC;try simp only[qap]
 repeat' first
  |with_reducible exact EqT.ret _
  |with_reducible exact qoz _ _ _ _ hL
  |(with_reducible refine EqT.ite (λ_=>?_) (λ_=>?_))
  |(with_reducible refine EqT.bind ?_ (λ_=>?_))
noncomputable def smlBC (A:AC) (E:DP HS) (L:Nat) (ws:List (Int×Nat)) (a c:Int):DAP:=(beginAC A E ws [] a (szN c)).bind (smlGC A L a c)
theorem q0k(A:AC)(E:DP HS)(L:Nat)(ws:List (Int×Nat))(a c:Int)(hL:L=1):EqT (smlB A E L ws a c) (smlBC A E L ws a c):=by
 unfold smlB smlBC;try simp only[qap]
 repeat' first
  |with_reducible exact EqT.ret _
  |with_reducible exact qst _ _ _ _ _ _
  |with_reducible exact q1m _ _ _ _ _ hL
  |(with_reducible refine EqT.ite (λ_=>?_) (λ_=>?_))
  |(with_reducible refine EqT.bind ?_ (λ_=>?_))
noncomputable def smlCC (A:AC) (E:DP HS) (L:Nat) (c:Int) (r:ANS×List (Int×Nat)):DAP:=if r.1.1≠0 then AP.ret r else if r.2.length<=200 then qbe E 1 (smlBC A E L r.2 r.1.2.1 c) else qbd
theorem q1l(A:AC)(E:DP HS)(L:Nat)(c:Int)(r:ANS×List (Int×Nat))(hL:L=1):EqT (smlC A E L c r) (smlCC A E L c r):=by
 unfold smlC smlCC;try simp only[qap]
 repeat' first
  |with_reducible exact EqT.ret _
  |with_reducible exact EqT.wild
  |with_reducible exact q0k _ _ _ _ _ _ hL
  |(with_reducible refine EqT.under ?_)
  |(with_reducible refine EqT.ite (λ_=>?_) (λ_=>?_))
  |(with_reducible refine EqT.bind ?_ (λ_=>?_))
noncomputable def smallAC (A:AC) (E:DP HS) (n L:Nat) (c:Int) (ws:List (Int×Nat)):DAP:=(tknAC A E n L c ws).bind (smlCC A E L c)
theorem qsl(A:AC)(E:DP HS)(n L:Nat)(c:Int)(ws:List (Int×Nat))(hL:L=1):EqT (smallA A E n L c ws) (smallAC A E n L c ws):=by
 unfold smallA smallAC;try simp only[qap]
 repeat' first
  |with_reducible exact EqT.ret _
  |with_reducible exact qzz _ _ _ _ _ _ hL
  |with_reducible exact q1l _ _ _ _ _ hL
  |(with_reducible refine EqT.ite (λ_=>?_) (λ_=>?_))
  |(with_reducible refine EqT.bind ?_ (λ_=>?_))
noncomputable def mallocAC (A:AC) (E:DP HS) (n L:Nat) (ws:List (Int×Nat)):DAP:=
 if A.slots<0\/A.words<A.slots\/255<A.slots then errA 1 ws else if clN A.words<0 then errA 2 ws else if A.root=true/\qco A.s A.l A.r A.idx<0 then errA 3 ws
 else if 0<=clN A.words/\clN A.words<4 then smallAC A E n L (clN A.words) ws else qbd
theorem qr6(A:AC)(E:DP HS)(n L:Nat)(ws:List (Int×Nat))(hL:L=1):EqT (mallocA A E n L ws) (mallocAC A E n L ws):=by
 unfold mallocA mallocAC;try simp only[qap]
 repeat' first
  |with_reducible exact EqT.ret _
  |with_reducible exact EqT.wild
  |with_reducible exact EqT.err _ _
  |with_reducible exact qsl _ _ _ _ _ _ hL
  |(with_reducible refine EqT.ite (λ_=>?_) (λ_=>?_))
  |(with_reducible refine EqT.bind ?_ (λ_=>?_))
noncomputable def ovrAC (L:Nat) (who c:Int):AP (DM×HS) Int:=qdw (λt=>(((cchL L t.2 who c).length:Int),t))
theorem q0y(L:Nat)(who c:Int)(hL:L=1):EqT (ovrA L who c) (ovrAC L who c):=by
 unfold ovrA ovrAC;try simp only[qap]
 repeat' first
  |with_reducible exact EqT.ret _
  |(with_reducible refine EqT.once _ (λt ht=>?_);first|exact ht|exact qdk hL ht|exact qdm hL ht|exact qdl hL ht|exact qdn ht)
  |(with_reducible refine EqT.ite (λ_=>?_) (λ_=>?_))
  |(with_reducible refine EqT.bind ?_ (λ_=>?_))
noncomputable def overAC (L:Nat) (who c:Int):AP (DM×HS) Bool:=(ovrAC L who c).bind λz=>AP.ret (decide (8<z))
theorem qyn(L:Nat)(who c:Int)(hL:L=1):EqT (overA L who c) (overAC L who c):=by
 unfold overA overAC;try simp only[qap]
 repeat' first
  |with_reducible exact EqT.ret _
  |with_reducible exact q0y _ _ _ hL
  |(with_reducible refine EqT.ite (λ_=>?_) (λ_=>?_))
  |(with_reducible refine EqT.bind ?_ (λ_=>?_))
noncomputable def endgYC (A:AC) (E:DP HS) (ws:List (Int×Nat)) (ta:Int) (y:Nat):EAP:=if wrap64 (y:Int)=0 then AP.ret (0,none,6) else(objectAC A E ws (wrap64 (y:Int))).bind (qes E ws ta)
theorem qyu(A:AC)(E:DP HS)(ws:List (Int×Nat))(ta:Int)(y:Nat):EqT (endgY A E ws ta y) (endgYC A E ws ta y):=by
 unfold endgY endgYC;try simp only[qap]
 repeat' first
  |with_reducible exact EqT.ret _
  |with_reducible exact EqT.mem (qv8 _ _ _ _)
  |with_reducible exact qi2 _ _ _ _
  |(with_reducible refine EqT.ite (λ_=>?_) (λ_=>?_))
  |(with_reducible refine EqT.bind ?_ (λ_=>?_))
noncomputable def endgFC (A:AC) (E:DP HS) (ws:List (Int×Nat)) (d:Int×Bool):EAP:=if d.2=true then(qar E.n E.nl E.who ws d.1).bind (endgYC A E ws d.1) else AP.ret (0,none,3)
theorem qw1(A:AC)(E:DP HS)(ws:List (Int×Nat))(d:Int×Bool):EqT (endgF A E ws d) (endgFC A E ws d):=by
 unfold endgF endgFC;try simp only[qap]
 repeat' first
  |with_reducible exact EqT.ret _
  |with_reducible exact EqT.mem (qdb _ _ _ _ _)
  |with_reducible exact qyu _ _ _ _ _
  |(with_reducible refine EqT.ite (λ_=>?_) (λ_=>?_))
  |(with_reducible refine EqT.bind ?_ (λ_=>?_))
noncomputable def endingAC (A:AC) (E:DP HS) (ws:List (Int×Nat)):EAP:=(destAC A E ws A.root A.obj A.idx).bind (endgFC A E ws)
theorem qre(A:AC)(E:DP HS)(ws:List (Int×Nat)):EqT (endingA A E ws) (endingAC A E ws):=by
 unfold endingA endingAC;try simp only[qap]
 repeat' first
  |with_reducible exact EqT.ret _
  |with_reducible exact qng _ _ _ _ _ _
  |with_reducible exact qw1 _ _ _ _
  |(with_reducible refine EqT.ite (λ_=>?_) (λ_=>?_))
  |(with_reducible refine EqT.bind ?_ (λ_=>?_))
noncomputable def backAC (L:Nat) (who c a:Int):AP (DM×HS) Unit:=if c≠4 then givAC L who c a else qbd
theorem qxv(L:Nat)(who c a:Int)(hL:L=1):EqT (backA L who c a) (backAC L who c a):=by
 unfold backA backAC;try simp only[qap]
 repeat' first
  |with_reducible exact EqT.ret _
  |with_reducible exact EqT.wild
  |with_reducible exact qoz _ _ _ _ hL
  |(with_reducible refine EqT.ite (λ_=>?_) (λ_=>?_))
  |(with_reducible refine EqT.bind ?_ (λ_=>?_))
noncomputable def frcAC (L:Nat) (who:Int) (o:Option OV) (r:Unit×List (Int×Nat)):FAP:=(backAC L who (clN (ocN o 3)) (ocN o 0)).bind λ_=>AP.ret (((0,ocN o 0,0),clN (ocN o 3)),r.2)
theorem q1b(L:Nat)(who:Int)(o:Option OV)(r:Unit×List (Int×Nat))(hL:L=1):EqT (frcA L who o r) (frcAC L who o r):=by
 unfold frcA frcAC;try simp only[qap]
 repeat' first
  |with_reducible exact EqT.ret _
  |with_reducible exact qxv _ _ _ _ hL
  |(with_reducible refine EqT.ite (λ_=>?_) (λ_=>?_))
  |(with_reducible refine EqT.bind ?_ (λ_=>?_))
noncomputable def frbAC (A:AC) (E:DP HS) (L:Nat) (ws:List (Int×Nat)) (x:Int×Option OV×Int):FAP:=
 if x.2.2≠0 then AP.ret (((x.2.2,0,0),0),ws) else(endA A E ws x.1 (ocN x.2.1 0) (ocN x.2.1 4) (ocN x.2.1 5) (ocN x.2.1 6)).bind (frcAC L A.who x.2.1)
theorem q1k(A:AC)(E:DP HS)(L:Nat)(ws:List (Int×Nat))(x:Int×Option OV×Int)(hL:L=1):EqT (frbA A E L ws x) (frbAC A E L ws x):=by
 unfold frbA frbAC;try simp only[qap]
 repeat' first
  |with_reducible exact EqT.ret _
  |with_reducible exact EqT.mem (qx4 _ _ _ _ _ _ _ _)
  |with_reducible exact q1b _ _ _ _ hL
  |(with_reducible refine EqT.ite (λ_=>?_) (λ_=>?_))
  |(with_reducible refine EqT.bind ?_ (λ_=>?_))
noncomputable def fraAC (A:AC) (E:DP HS) (L:Nat) (ws:List (Int×Nat)):FAP:=(endingAC A E ws).bind (frbAC A E L ws)
theorem qzb(A:AC)(E:DP HS)(L:Nat)(ws:List (Int×Nat))(hL:L=1):EqT (fraA A E L ws) (fraAC A E L ws):=by
 unfold fraA fraAC;try simp only[qap]
 repeat' first
  |with_reducible exact EqT.ret _
  |with_reducible exact qre _ _ _
  |with_reducible exact q1k _ _ _ _ _ hL
  |(with_reducible refine EqT.ite (λ_=>?_) (λ_=>?_))
  |(with_reducible refine EqT.bind ?_ (λ_=>?_))
noncomputable def freeOC (L:Nat) (who:Int) (r:(ANS×Int)×List (Int×Nat)):DAP:=if r.1.1.1≠0 then AP.ret (r.1.1,r.2) else(overAC L who r.1.2).bind λb=>if b=true then qbd else AP.ret (r.1.1,r.2)
theorem qwt(L:Nat)(who:Int)(r:(ANS×Int)×List (Int×Nat))(hL:L=1):EqT (freeO L who r) (freeOC L who r):=by
 unfold freeO freeOC;try simp only[qap]
 repeat' first
  |with_reducible exact EqT.ret _
  |with_reducible exact EqT.wild
  |with_reducible exact qyn _ _ _ hL
  |(with_reducible refine EqT.ite (λ_=>?_) (λ_=>?_))
  |(with_reducible refine EqT.bind ?_ (λ_=>?_))
noncomputable def freeAC (A:AC) (E:DP HS) (L:Nat) (ws:List (Int×Nat)):DAP:=(underG E 1 (fraAC A E L ws)).bind (freeOC L A.who)
theorem qww(A:AC)(E:DP HS)(L:Nat)(ws:List (Int×Nat))(hL:L=1):EqT (freeA A E L ws) (freeAC A E L ws):=by
 unfold freeA freeAC;try simp only[qap]
 repeat' first
  |with_reducible exact EqT.ret _
  |with_reducible exact qzb _ _ _ _ hL
  |with_reducible exact qwt _ _ _ hL
  |(with_reducible refine EqT.underG ?_)
  |(with_reducible refine EqT.ite (λ_=>?_) (λ_=>?_))
  |(with_reducible refine EqT.bind ?_ (λ_=>?_))
noncomputable def doneAC (A:AC) (E:DP HS) (n L:Nat) (ws:List (Int×Nat)):DAP:=
 if(A.kind<1\/9<=A.kind)\/qa3 A.s A.l A.r A.who<0 then errA 1 ws else if A.kind=1 then mallocAC A E n L ws else if A.kind=2 then freeAC A E L ws else qbd
theorem qyt(A:AC)(E:DP HS)(n L:Nat)(ws:List (Int×Nat))(hL:L=1):EqT (doneA A E n L ws) (doneAC A E n L ws):=by
 unfold doneA doneAC;try simp only[qap]
 repeat' first
  |with_reducible exact EqT.ret _
  |with_reducible exact EqT.wild
  |with_reducible exact EqT.err _ _
  |with_reducible exact qr6 _ _ _ _ _ hL
  |with_reducible exact qww _ _ _ _ hL
  |(with_reducible refine EqT.ite (λ_=>?_) (λ_=>?_))
  |(with_reducible refine EqT.bind ?_ (λ_=>?_))
noncomputable def deed19C (A:AC) (E:DP HS) (n L:Nat):AP (DM×HS) (List Nat):=(doneAC A E n L []).bind λr=>AP.ret (ansN r.1)
theorem qts(A:AC)(E:DP HS)(n L:Nat)(hL:L=1):EqT (deed19 A E n L) (deed19C A E n L):=by
 unfold deed19 deed19C;try simp only[qap]
 repeat' first
  |with_reducible exact EqT.ret _
  |with_reducible exact qyt _ _ _ _ _ hL
  |(with_reducible refine EqT.ite (λ_=>?_) (λ_=>?_))
  |(with_reducible refine EqT.bind ?_ (λ_=>?_))
section
variable {τ:Type} {E:DP τ} {i:Nat} {l:List Nat} {s:DM×τ} {F:Nat->Prop} {w w':World}
structure LdSt (V:World) (be bg eb:Nat) (gs gl gr:Int):Prop where
 env:Boxed V be 153 (.pointer (some ⟨eb,0,none⟩))
 geo:Gi V bg gs gl gr
end
structure CleanD (n:Nat) (D:DM):Prop where
 kept:D.K=D.S
 len:D.S.length=n*8
 nlen:D.N.length=n*8
 none:D.B=List.replicate n false
def ofD(S:List Nat)(n nl:Nat):DM:=⟨S,S,List.replicate (n*8) 0,List.replicate n false,List.replicate nl (-1),0,[]⟩
theorem q2i{w:World}{base p n gs gk m tp tg nl:Nat}{S:List Nat}(hr:RegQ w base p n 0 gs gk m S S (λ_=>none))(hl:LkR w tp tg nl (List.replicate nl (-1)))(hS:∀x∈S,x<18446744073709551616):PsR w p gs gk m n tp tg nl 0 (ofD S n nl):=by
 refine⟨⟨λ_=>none,hr.lower,Alike.none _ _⟩,hl,λx hx=>?_,by simp[ofD],by simp[ofD],hS⟩;obtain⟨_,rfl⟩:=wfb.1 hx;omega
section
variable {w:World} {X p gs gk m n tp tg nl:Nat} {D:DM}
end
def E19(E:DP HS):DP HS:={E with n:=16,nl:=2,who:=0}
def A19(kind words:Int):AC:=⟨0,0,0,1,1,1,kind,0,true,0,0,words,0,0,0,0,.slice none 0 0⟩
noncomputable def run19 (E:DP HS) (kind words:Int) (s:DM×HS):Option (List Nat×DM×HS):=match deed19C (A19 kind words) (E19 E) 1 1 (λ_=>false) 0 [] s with
 | .done a _ l s'=>if l.length<=90000 then some (a,s') else none
 |_=>none
noncomputable def four19 (E:DP HS) (s:DM×HS):Option (List (List Nat)):=match run19 E 1 3 s with
 |some (a,s1)=>match run19 E 1 3 s1 with
  |some (b,s2)=>match run19 E 2 0 s2 with
   |some (c,s3)=>match run19 E 2 0 s3 with
    |some (d,s4)=>some [a,b,c,d]
    |none=>none
   |none=>none
  |none=>none
 |none=>none
theorem qzj(E:DP HS):four19 E (ofD (qbn 1 1 1) 16 2,frH 1,λ_=>[])=some [[0,76,0],[5,0,0],[0,76,0],[6,0,0]]:=by kernel_rfl
end Go.Proofs.YtgjhkafggagniaaGreat
