/- Parts. No condition. -/
import Derived.Test.YtocncmbeinmiaaaGreatProg
import Derived.Sort.LotA
import Derived.Sort.LotB
import Derived.RangeFuncBox
import Derived.Laws.OwnMore
import Derived.Deep.AppendLies
import Derived.WalkSmall
import Derived.OpenShut
import Derived.Deep.MidRow
import Derived.StillTailTactics
import Derived.Laws.MakeOwn
import Derived.BigRegion
import Derived.RegionTactic
import Derived.Test.YtocncmbeinmiaaaGreatJoinUA
set_option linter.unusedVariables false
set_option maxRecDepth 100000
set_option maxHeartbeats 8000000
namespace Go.Proofs.YtocncmbeinmiaaaGreat
open Go Go.RowKit
def Keep(p:Prop):Prop:=∃u:Unit,u=()/\p
theorem keep{p:Prop}(h:p):Keep p:=⟨(),rfl,h⟩
theorem Keep.out{p:Prop}(h:Keep p):p:=h.choose_spec.2
theorem qb9{a b:Int}(h:a=b):Ending.returned (.int .u64 a)= .returned (.int .u64 b):=by rw[h]
theorem qfz{a b:Int}(h:a=b):Ending.returned (.int .u32 a)= .returned (.int .u32 b):=by rw[h]
theorem qbz{a b:Int}(h:a=b):Ending.returned (.int .i64 a)= .returned (.int .i64 b):=by rw[h]
theorem qab{a b:Bool}(h:a=b):Ending.returned (.bool a)= .returned (.bool b):=by rw[h]
theorem qau{P:Program}{f:FuncId}{args:Array Value}{w:World}{n:Nat}{v:Value}(h:Calls P f args (w.drewN n) λe w'=>e= .returned v/\w.drewN n=w'):
  Calls P f args (w.drewN n) λe w''=>e= .returned v/\∃m,w''=w.drewN m:=Calls.quiet_of_same (h.mono λ_ _ ⟨he,hm⟩=>⟨he,hm.symm⟩)
theorem qcu{P:Program}{f:FuncId}{args:Array Value}{w:World}{a n:Nat}{v:Value}(h:Calls P f args (w.drewN (a+n)) λe w'=>e= .returned v/\w.drewN (a+n)=w'):
  Calls P f args (w.drewN (a+n)) λe w''=>e= .returned v/\∃m,w''=w.drewN (a+m):=h.mono λ_ _ ⟨he,hm⟩=>⟨he,n,hm.symm⟩
end Go.Proofs.YtocncmbeinmiaaaGreat
namespace Go.Proofs.YtocncmbeinmiaaaGreat
open Go Go.RowKit
open Go.Sort (SWO PermIn SortedIn swp permIn_refl permIn_trans permIn_all permIn_mono swp_permIn size_swp swp_other swp_left swp_right)
def ltNI(x y:Int):Bool:=decide (x<y)
theorem ltN_noI{x y:Int}:ltNI x y=false↔y<=x:=by unfold ltNI;simp
structure SortsI (a b:Nat) (d d':Array Int):Prop where
 perm:PermIn a b d d'
 rise:∀i j,a<=i->i<j->j<b->d'[i]! <=d'[j]!
theorem SortsI.of{a b:Nat}{d d':Array Int}(h:PermIn a b d d'/\SortedIn ltNI a b d'):SortsI a b d d':=⟨h.1,λi j h1 h2 h3=>ltN_noI.1 (h.2 i j h1 h2 h3)⟩
def ForeI(a b:Nat)(d:Array Int):Prop:=0<a->∀i,a<=i->i<b->d[a - 1]! <=d[i]!
theorem qfe{d d':Array Int}{a b:Nat}(hb:b<=d.size)(h:PermIn a b d d'){p:Int->Prop}(hp:∀i,a<=i->i<b->p d[i]!):∀i,a<=i->i<b->p d'[i]! :=permIn_all d d' a b p hb h hp
theorem ForeI.perm{a b:Nat}{d d':Array Int}(h:ForeI a b d)(hb:b<=d.size)(hp:PermIn a b d d'):ForeI a b d':=λh0 i hi hib=>by
 rw[hp.2.1 (a - 1) (.inl Zo)];exact qfe hb hp (p:=λx=>d[a - 1]! <=x) (h h0) i hi hib
theorem SortsI.perm_left{a b:Nat}{d d1 d':Array Int}(h:PermIn a b d d1)(h':SortsI a b d1 d'):SortsI a b d d':=⟨permIn_trans _ _ _ _ _ h h'.perm,h'.rise⟩
structure PartI (lo:Int->Int->Prop) (d:Array Int) (a b i j:Nat) (e:Array Int):Prop where
 perm:PermIn a b d e
 ai:a<i
 ij:i<=j+1
 jb:j<b
 low:∀k,a<k->k<i->lo e[k]! e[a]!
 high:∀k,j<k->k<b->¬lo e[k]! e[a]!
section
variable {lo:Int->Int->Prop} {d e:Array Int} {a b i j:Nat}
theorem PartI.up(h:PartI lo d a b i j e)(hij:i<=j)(hl:lo e[i]! e[a]!):PartI lo d a b (i+1) j e:=
 ⟨h.perm,by have:=h.ai;omega,Zo,h.jb,λk h1 h2=>by
  by_cases hk:k=i
  ·rw[hk];exact hl
  ·exact h.low k h1 Zo,h.high⟩
theorem PartI.down(h:PartI lo d a b i j e)(hij:i<=j)(hl:¬lo e[j]! e[a]!):PartI lo d a b i (j - 1) e:=
 ⟨h.perm,h.ai,by have:=h.ai;omega,by have:=h.jb;omega,h.low,λk h1 h2=>by
  by_cases hk:k=j
  ·rw[hk];exact hl
  ·exact h.high k Zo h2⟩
theorem PartI.size(h:PartI lo d a b i j e):e.size=d.size:=h.perm.1
theorem PartI.swap(h:PartI lo d a b i j e)(hb:b<=d.size)(hij:i<=j)(hi:¬lo e[i]! e[a]!)(hj:lo e[j]! e[a]!):PartI lo d a b (i+1) (j - 1) (swp e i j):=by
 have hne:i≠j:=λe'=>by subst e';exact hi hj
 have hs:=h.size;have ha:=h.ai;have hjb:=h.jb;have ea:(swp e i j)[a]! =e[a]! :=swp_other _ _ _ _ Zo Zo;refine⟨permIn_trans _ _ _ _ _ h.perm (swp_permIn e a b i j Zo Zo Zo Zo Zo),Zo,Zo,Zo,λk h1 h2=>?_,λk h1 h2=>?_⟩
 ·rw[ea]
  by_cases hk:k=i
  ·subst hk
   rw[swp_left _ _ _ Zo hne];exact hj
  ·rw[swp_other _ _ _ _ hk Zo]
   exact h.low k h1 Zo
 ·rw[ea]
  by_cases hk:k=j
  ·subst hk
   rw[swp_right _ _ _ Zo];exact hi
  ·rw[swp_other _ _ _ _ Zo hk]
   exact h.high k Zo h2
theorem PartI.done_eq(h:PartI lo d a b i j e)(hij:j<i):i=j+1:=by have:=h.ij;omega
end
structure PartedI (d:Array Int) (a b m:Nat) (e:Array Int):Prop where
 perm:PermIn a b d e
 am:a<=m
 mb:m<b
 low:∀k,a<=k->k<m->e[k]! <e[m]!
 high:∀k,m<k->k<b->e[m]! <=e[k]!
theorem PartI.done{d e:Array Int}{a b i j:Nat}(h:PartI (λx p=>x<p) d a b i j e)(hb:b<=d.size)(hij:j<i):PartedI d a b j (swp e j a):=by
 have hi:=h.done_eq hij;have hs:=h.size;have ha:=h.ai;have hjb:=h.jb;have em:(swp e j a)[j]! =e[a]! :=by
  by_cases hja:j=a
  ·subst hja
   exact swp_right _ _ _ Zo
  ·exact swp_left _ _ _ Zo hja
 refine⟨permIn_trans _ _ _ _ _ h.perm (swp_permIn e a b j a Zo Zo (wab a) Zo Zo),Zo,hjb,λk h1 h2=>?_,λk h1 h2=>?_⟩
 ·rw[em]
  by_cases hk:k=a
  ·subst hk
   rw[swp_right _ _ _ Zo];exact h.low j Zo Zo
  ·rw[swp_other _ _ _ _ Zo hk]
   exact h.low k Zo Zo
 ·rw[em,swp_other _ _ _ _ Zo Zo]
  have:=h.high k h1 h2
  omega
structure AlikeSI (d:Array Int) (a b m:Nat) (e:Array Int):Prop where
 perm:PermIn a b d e
 am:a<m
 mb:m<=b
 low:∀k,a<=k->k<m->e[k]! <=e[a]!
 high:∀k,m<=k->k<b->e[a]! <e[k]!
theorem PartI.alike{d e:Array Int}{a b i j:Nat}(h:PartI (λx p=>x<=p) d a b i j e)(hij:j<i):AlikeSI d a b i e:=by
 have hi:=h.done_eq hij;refine⟨h.perm,h.ai,by have:=h.jb;omega,λk h1 h2=>?_,λk h1 h2=>?_⟩
 ·by_cases hk:k=a
  ·rw[hk];exact wen _
  ·exact h.low k Zo h2
 ·have:=h.high k Zo h2
  omega
theorem AlikeSI.sorts{d e d':Array Int}{a b m:Nat}(h:AlikeSI d a b m e)(hb:b<=d.size)(hmin:∀i,a<=i->i<b->e[a]! <=e[i]!)(h':SortsI m b e d'):SortsI a b d d':=by
 have hs:=h.perm.1;have ham:=h.am;have hmb:=h.mb;refine⟨permIn_trans _ _ _ _ _ h.perm (permIn_mono e d' m b a b Zo (wab b) Zo h'.perm),λi j h1 h2 h3=>?_⟩;have hhi:=qfe Zo h'.perm (p:=λx=>e[a]! <x) h.high;by_cases hi:m<=i
 ·exact h'.rise i j hi h2 h3
 ·rw[h'.perm.2.1 i (.inl Zo)]
  have e1:=h.low i h1 Zo;by_cases hj:m<=j
  ·have:=hhi j hj h3
   omega
  ·rw[h'.perm.2.1 j (.inl Zo)]
   have e2:=hmin j Zo h3;omega
theorem AlikeSI.fore{d e:Array Int}{a b m:Nat}(h:AlikeSI d a b m e):ForeI m b e:=λh0 i hi hib=>by
 have e1:=h.low (m - 1) (by have:=h.am;omega) Zo;have e2:=h.high i hi hib;omega
theorem PartedI.fore{d e:Array Int}{a b m:Nat}(h:PartedI d a b m e):ForeI (m+1) b e:=λh0 i hi hib=>by
 have:=h.high i Zo hib
 rw[show m+1 - 1=m by omega];exact this
theorem PartedI.fore_left{d e:Array Int}{a b m:Nat}(h:PartedI d a b m e)(hb:b<=d.size)(hf:ForeI a b d):ForeI a m e:=λh0 i hi hib=>(hf.perm hb h.perm) h0 i hi (by have:=h.mb;omega)
theorem PartedI.sorts{d e d':Array Int}{a b m:Nat}(h:PartedI d a b m e)(hb:b<=d.size){f:Array Int}(h1:PermIn a m e f)(h2:PermIn (m+1) b f d')(r1:∀i j,a<=i->i<j->j<m->d'[i]! <=d'[j]!)(r2:∀i j,m+1<=i->i<j->j<b->d'[i]! <=d'[j]!):SortsI a b d d':=by
 have hs:=h.perm.1;have hs1:=h1.1;have ham:=h.am;have hmb:=h.mb;refine⟨permIn_trans _ _ _ _ _ h.perm (permIn_trans _ _ _ _ _ (permIn_mono e f a m a b (wab a) Zo Zo h1) (permIn_mono f d' (m+1) b a b Zo (wab b) Zo h2)),?_⟩;have em:d'[m]! =e[m]! :=by rw[h2.2.1 m (.inl Zo),h1.2.1 m (.inr Zo)]
 have lo:∀k,a<=k->k<m->d'[k]! <e[m]! :=λk k1 k2=>by
  rw[h2.2.1 k (.inl Zo)];exact qfe Zo h1 (p:=λx=>x<e[m]!) h.low k k1 k2
 have hi:∀k,m+1<=k->k<b->e[m]! <=d'[k]! :=λk k1 k2=>by
  refine qfe Zo h2 (p:=λx=>e[m]! <=x) (λi i1 i2=>?_) k k1 k2;rw[h1.2.1 i (.inr Zo)];exact h.high i Zo i2
 intro i j k1 k2 k3;by_cases him:i<m
 ·have e1:=lo i k1 him
  by_cases hjm:j<m
  ·exact r1 i j k1 k2 hjm
  ·by_cases hj:j=m
   ·rw[hj,em];omega
   ·have:=hi j Zo k3
    omega
 ·by_cases hi2:i=m
  ·rw[hi2,em]
   exact hi j Zo k3
  ·exact r2 i j Zo k2 k3
theorem PartedI.left{d e f d':Array Int}{a b m:Nat}(h:PartedI d a b m e)(hb:b<=d.size)(h1:SortsI a m e f)(h2:SortsI (m+1) b f d'):SortsI a b d d':=
 h.sorts hb h1.perm h2.perm (λi j k1 k2 k3=>by
  rw[h2.perm.2.1 i (.inl Zo),h2.perm.2.1 j (.inl Zo)];exact h1.rise i j k1 k2 k3) h2.rise
theorem PartedI.right{d e f d':Array Int}{a b m:Nat}(h:PartedI d a b m e)(hb:b<=d.size)(h1:SortsI (m+1) b e f)(h2:SortsI a m f d'):SortsI a b d d':=by
 have hs:=h.perm.1;have ham:=h.am;have hmb:=h.mb;refine⟨permIn_trans _ _ _ _ _ h.perm (permIn_trans _ _ _ _ _ (permIn_mono e f (m+1) b a b Zo (wab b) Zo h1.perm) (permIn_mono f d' a m a b (wab a) Zo (by have:=h1.perm.1;omega) h2.perm)),?_⟩;have hs1:=h1.perm.1;have em:d'[m]! =e[m]! :=by rw[h2.perm.2.1 m (.inr Zo),h1.perm.2.1 m (.inl Zo)]
 have lo:∀k,a<=k->k<m->d'[k]! <e[m]! :=λk k1 k2=>by
  refine qfe Zo h2.perm (p:=λx=>x<e[m]!) (λi i1 i2=>?_) k k1 k2;rw[h1.perm.2.1 i (.inl Zo)];exact h.low i i1 i2
 have hi:∀k,m+1<=k->k<b->e[m]! <=d'[k]! :=λk k1 k2=>by
  rw[h2.perm.2.1 k (.inr Zo)];exact qfe Zo h1.perm (p:=λx=>e[m]! <=x) (λi i1 i2=>h.high i Zo i2) k k1 k2
 intro i j k1 k2 k3;by_cases him:i<m
 ·have e1:=lo i k1 him
  by_cases hjm:j<m
  ·exact h2.rise i j k1 k2 hjm
  ·by_cases hj:j=m
   ·rw[hj,em];omega
   ·have:=hi j Zo k3
    omega
 ·by_cases hi2:i=m
  ·rw[hi2,em]
   exact hi j Zo k3
  ·rw[h2.perm.2.1 i (.inr Zo),h2.perm.2.1 j (.inr Zo)]
   exact h1.rise i j Zo k2 k3
end Go.Proofs.YtocncmbeinmiaaaGreat
namespace Go.Proofs.YtocncmbeinmiaaaGreat
open Go Go.RowKit
def Rd(w:World)(A:Option Addr)(n:Nat)(xs:List Value):Prop:=
 xs.length=n/\(0<n->∃p,A=some p/\∀j u,xs[j]? =some u->w.cell? (p.add j)=some u)
def i64V(l:List Int):List Value:=l.map (Value.int .i64)
def u64V(l:List Nat):List Value:=l.map (λ(x:Nat)=>Value.int .u64 (x:Int))
def u8V(l:List Nat):List Value:=l.map (λ(x:Nat)=>Value.int .u8 (x:Int))
theorem qaan(l:List Nat):(u8V l).length=l.length:=by simp[u8V]
theorem q58(l:List Nat)(x:Nat):u8V (l++[x])=u8V l++[.int .u8 (x:Int)]:=by simp[u8V]
theorem qcn(l:List Int):(i64V l).length=l.length:=by simp[i64V]
theorem qai(l:List Nat):(u64V l).length=l.length:=by simp[u64V]
theorem qd8(l:List Nat)(x:Nat):u64V (l++[x])=u64V l++[.int .u64 (x:Int)]:=by simp[u64V]
section
variable {w w':World} {A:Option Addr} {n:Nat} {xs:List Value}
theorem Rd.nil_(w:World)(A:Option Addr):Rd w A 0 []:=⟨rfl,λh=>absurd h Zo⟩
theorem Rd.at_{k:Nat}(h:Rd w A n xs)(hk:k<n):∃p u,A=some p/\xs[k]? =some u/\w.cell? (p.add k)=some u:=by
 obtain⟨p,e,hc⟩:=h.2 Zo;have hl:k<xs.length:=by rw[h.1];exact hk
 exact⟨p,xs[k],e,waj hl,hc k _ (waj hl)⟩
theorem Rd.kept(h:Rd w A n xs){B:Nat}(hb:Below B w w')(hB:w.heap.size<=B):Rd w' A n xs:=
 ⟨h.1,λhn=>by
  obtain⟨p,e,hc⟩:=h.2 hn;exact⟨p,e,λj u hu=>(hb.cell (p:=p.add j) (waw (wak w _ (hc j u hu)) hB)).trans (hc j u hu)⟩⟩
theorem Rd.below(h:Rd w A n xs)(hb:Below w.heap.size w w'):Rd w' A n xs:=h.kept hb (wab _)
theorem Rd.of_own{base:Nat}{e:TypeId}{v:Value}(h:w.ownsRow base e 1 v n xs):∃A cap,v= .slice A n cap/\Rd w A n xs:=by
 by_cases hn:0<n
 ·obtain⟨g,cap,rfl,_,hlt⟩:=h.form hn
  have hx:xs.length=n:=by have:=h.1;omega
  exact⟨_,cap,rfl,hx,λ_=>⟨_,rfl,h.cells (g:=g) rfl⟩⟩
 ·have e0:n=0:=Zo
  subst e0;have hx:xs.length=0:=by have:=h.1;omega
  rcases h.2 with ⟨rfl,_⟩|⟨g',cap',cur,rfl,_⟩
  ·exact⟨_,_,rfl,hx,λh=>absurd h Zo⟩
  ·exact⟨_,_,rfl,hx,λh=>absurd h Zo⟩
theorem Rd.i64_at{k:Nat}{l:List Int}(h:Rd w A n (i64V l))(hk:k<n):∃p x,A=some p/\l.drop k=x::l.drop (k+1)/\x∈l/\w.cell? (p.add k)=some (.int .i64 x):=by
 obtain⟨p,u,e,hu,hc⟩:=h.at_ hk;have hl:k<l.length:=by have:=h.1;rw[qcn] at this;omega
 refine⟨p,l[k],e,wbc hl,wb6 hl,?_⟩;rw[hc];simp[i64V,List.getElem?_eq_getElem hl] at hu
 rw[hu]
theorem Rd.u64_at{k:Nat}{l:List Nat}(h:Rd w A n (u64V l))(hk:k<n):∃p x,A=some p/\l.drop k=x::l.drop (k+1)/\x∈l/\w.cell? (p.add k)=some (.int .u64 (x:Int)):=by
 obtain⟨p,u,e,hu,hc⟩:=h.at_ hk;have hl:k<l.length:=by have:=h.1;rw[qai] at this;omega
 refine⟨p,l[k],e,wbc hl,wb6 hl,?_⟩;rw[hc];simp[u64V,List.getElem?_eq_getElem hl] at hu
 rw[hu]
theorem Rd.u8_at{k:Nat}{l:List Nat}(h:Rd w A n (u8V l))(hk:k<n):∃p x,A=some p/\l.drop k=x::l.drop (k+1)/\x∈l/\w.cell? (p.add k)=some (.int .u8 (x:Int)):=by
 obtain⟨p,u,e,hu,hc⟩:=h.at_ hk;have hl:k<l.length:=by have:=h.1;rw[qaan] at this;omega
 refine⟨p,l[k],e,wbc hl,wb6 hl,?_⟩;rw[hc];simp[u8V,List.getElem?_eq_getElem hl] at hu
 rw[hu]
end
theorem qa0{W:World}{base:Nat}{e:TypeId}{size k:Nat}{v:Value}{xs:List Value}(h:W.ownsRow base e size v k xs):∀j,v.ownBlock=some j->base<=j:=λj hj=>(h.lt j hj).1
theorem qfa{w:World}{base size n:Nat}{e:TypeId}{v:Value}{xs:List Value}(h:w.ownsRow base e size v n xs)(t:Nat):(w.drewN t).ownsRow base e size v n xs:=h
theorem qf3{w:World}{B:Nat}{e:TypeId}{v:Value}(h:Boxed w B e v)(t:Nat):Boxed (w.drewN t) B e v:=h
theorem qd3{W:World}{H:Nat}(hH:W.heap.size=H)(x:Value)(t:TypeId):∀j u,[x][j]? =some u->(W.alloc (.cells #[x] t)).cell? ((⟨H,0,none⟩:Addr).add j)=some u:=by
 subst hH;intro j u hj;match j,hj with
 |0,hj=>
  obtain rfl:x=u:=by simpa using hj
  exact(Boxed.new W t x).cell
theorem qam{W W1:World}{B:Nat}(hb:Below B W W1):(∀b o,b<B->W1.cell? ⟨b,o,none⟩=W.cell? ⟨b,o,none⟩)/\(∀b o,b<B->W1.frozen? ⟨b,o,none⟩=W.frozen? ⟨b,o,none⟩):=
 ⟨λb o h=>hb.cell (p:=⟨b,o,none⟩) h,λb o h=>hb.frozen (p:=⟨b,o,none⟩) h⟩
theorem qad{B:Nat}{a w:World}(h:Below B a w)(t:Nat):Below B a (w.drewN t):=below_drewN h t
theorem qj1{k:IntKind}{w:World}{a:Option Addr}{len cap:Nat}{zs:List Int}(h:(a=none/\len=0/\cap=0/\zs=[])\/∃x,a=some x/\len<=cap/\cap<=maxLen/\zs.length=cap/\(∀i,i<zs.length->w.cell? (x.add i)=some (.int k (zs.getD i 0)))/\∀n∈zs,(Lit.int k n).wf=true):
  ∃l:List Int,l.length=len/\len<=maxLen/\Rd w a len (l.map (Value.int k))/\∀n∈l,(Lit.int k n).wf=true:=by
 rcases h with ⟨rfl,rfl,rfl,rfl⟩|⟨x,rfl,hl,hm,hz,hc,hw⟩
 ·exact⟨[],rfl,wau _,Rd.nil_ _ _,by simp⟩
 ·refine⟨zs.take len,by rw[war];omega,Zo,⟨by rw[wbr,war];omega,λ_=>⟨x,rfl,?_⟩⟩,λn hn=>hw n (wb0 hn)⟩
  intro j u hu;rw[wa1,wbh] at hu;by_cases hj:j<len
  ·rw[if_pos hj,waj Zo] at hu
   simp at hu
   rw[hc j Zo,<-hu];simp[List.getElem?_eq_getElem (show j<zs.length by omega)]
  ·rw[if_neg hj] at hu;simp at hu
theorem qvz{w:World}{a:Option Addr}{len:Nat}{l:List Int}(h:Rd w a len (l.map (Value.int .u64)))(hw:∀n∈l,(Lit.int .u64 n).wf=true):
  ∃v:List Nat,v.length=l.length/\Rd w a len (u64V v)/\∀n∈v,n<18446744073709551616:=by
 refine⟨l.map Int.toNat,by simp,?_,?_⟩
 ·have:u64V (l.map Int.toNat)=l.map (Value.int .u64):=by
   unfold u64V;rw[List.map_map];apply wdb
   intro n hn;have:=bounds_u64 (hw n hn)
   simp only[Function.comp_apply];rw[weo this.1]
  rw[this];exact h
 ·intro n hn
  obtain⟨x,hx,rfl⟩:=wav.1 hn;have:=bounds_u64 (hw x hx)
  omega
theorem qcg:(Tryz.prog.info? 27).map (λi=>(i.zero,i.size,i.bytes))=some (some (.int .u64 0),1,8):=by kernel_rfl
theorem q93:(Tryz.prog.info? 5).map (λi=>(i.zero,i.size,i.bytes))=some (some (.int .u8 0),1,1):=by kernel_rfl
theorem qaa{w:World}{b:Nat}{C:Array Value}{t:TypeId}{fr:Nat×Nat}(h:w.heap[b]? =some (.cells C t fr))(j:Nat):w.cell? ⟨b,j,none⟩=C[j]?:=by simp[World.cell?,h]
theorem qaj{w:World}{b:Nat}{C:Array Value}{t:TypeId}(h:w.heap[b]? =some (.cells C t (0,0)))(j:Nat):w.frozen? ⟨b,j,none⟩=false:=by simp[World.frozen?,h]
theorem qah{w:World}{b:Nat}{C:Array Value}{t:TypeId}(h:w.heap[b]? =some (.cells C t (0,0)))(j:Nat)(v:Value):(w.setCell ⟨b,j,none⟩ v).heap[b]? =some (.cells (C.setIfInBounds j v) t (0,0)):=by
 obtain⟨hlt,hk⟩:=wal.1 h;show(w.heap.modify b _)[b]? =_
 rw[wep (by rw[Array.size_modify];exact hlt),Array.getElem_modify_self,hk];rfl
theorem qbb(w:World)(a:Addr)(v:Value):w.grownBy (w.setCell a v) (some a.block):=⟨rfl,rfl,rfl,by simp[World.setCell],λk _ hne=>wat _ _ _ _ (λe=>hne (by rw[e]))⟩
theorem qlf{a b c:World}{r:Option Nat}(h:a.grownBy b r)(k:b.grownBy c r):a.grownBy c r:=
 ⟨k.os.trans h.os,k.tape.trans h.tape,k.output.trans h.output,wap h.size k.size,λi hi hr=>(k.block i (waw hi h.size) hr).trans (h.block i hi hr)⟩
theorem qek(b:Nat):∀(vs:List Value) (o:Nat) (w:World),w.grownBy (w.setCells b o vs) (some b)
 |[],_,_=>⟨rfl,rfl,rfl,wab _,λ_ _ _=>rfl⟩
 |v::r,o,w=>qlf (qbb w ⟨b,o,none⟩ v) (qek b r (o+1) _)
theorem qem{B b:Nat}(hB:B<=b):∀(vs:List Value) (o:Nat) (a w:World),Below B a w->Below B a (w.setCells b o vs)
 |[],_,_,_,h=>h
 |v::r,o,a,w,h=>qem hB r (o+1) a _ (h.setCell (p:=⟨b,o,none⟩) hB v)
theorem qb0{W:World}{H:Nat}(hH:W.heap.size=H)(C:Array Value)(t:TypeId):(W.alloc (.cells C t)).there H 0 C.size:=by
 subst hH;intro j hj;have hb:(W.alloc (.cells C t)).heap[W.heap.size]? =some (.cells C t (0,0)):=World.alloc_heap_new W _;exact⟨by rw[qaa hb,wa4,wep hj];rfl,qaj hb _⟩
theorem qdc{W:World}(C:Array Value)(t:TypeId)(vs:List Value):Below W.heap.size W ((W.alloc (.cells C t)).setCells W.heap.size 0 vs):=
 qem (wab _) vs 0 _ _ ((wac _ W).alloc (wab _) _)
theorem qdq{W:World}{C:Array Value}{t:TypeId}{vs:List Value}(h:vs.length=C.size):((W.alloc (.cells C t)).setCells W.heap.size 0 vs).rangeAt W.heap.size 0 vs:=
 World.rangeAt_setCells_same _ _ _ _ (by rw[h];exact qb0 rfl C t)
theorem ql4{P:Program}{ops:Array Oper}{w:World}{Q:Act->Prop}{rest:List Oper}{op:Oper}{a:Act}(hw:Region.wanted op (yielded ops a.tmps)=true)(ty:TypeId)(x:Operand)(ho:op.op= .load ty x)(b o:Nat)(hx:a.eval x= .pointer (some ⟨b,o,none⟩))(cs:List Value)(d:TypeDesc)(hc:w.rangeAt b o cs)(hu:P.underlying ty=some d)(hd:d.isRow=true)(hi:(P.info? ty).map (·.size)=some cs.length)(h:wpStill P ops w Q rest (a.put op.dst (.agg cs.toArray))):wpStill P ops w Q (op::rest) a:=by
 have he:(execOp a.eval op).run P w= .ok (.value (.agg cs.toArray)) w:=by
  unfold execOp;simp only[ho,hx,wfb,run_loadAt_mid w b o ty cs d hc hu hd hi,wgq,Sem.run_pure]
 unfold wpStill;rw[if_pos hw];unfold Oper.still;rw[he];exact⟨rfl,h⟩
theorem qhw{V V':World}{B b o n:Nat}(hb:Below B V V')(hB:b<B)(h:V.there b o n):V'.there b o n:=λj hj=>
 ⟨by rw[hb.cell (p:=⟨b,o+j,none⟩) hB];exact(h j hj).1,by rw[hb.frozen (p:=⟨b,o+j,none⟩) hB];exact(h j hj).2⟩
theorem qbr{V V':World}{B b o:Nat}{x:Value}(hb:Below B V V')(hB:b<B)(h:V.cell? ⟨b,o,none⟩=some x):V'.cell? ⟨b,o,none⟩=some x:=(hb.cell (p:=⟨b,o,none⟩) hB).trans h
theorem qq2{w:World}{b o n B O:Nat}{v:Value}(h:w.there b o n):(w.setCell ⟨B,O,none⟩ v).there b o n:=World.there_setCells h B O [v]
theorem qtf{w:World}{b n:Nat}(h:w.there b 0 n):∀o,o<n->w.frozen? ⟨b,o,none⟩=false:=λo ho=>by have:=(h o ho).2;rwa [wa4] at this
theorem q7k{w:World}{b n:Nat}(h:w.there b 0 n)(hn:0<n):b<w.heap.size:=by
 obtain⟨u,hu⟩:=Option.isSome_iff_exists.1 (h 0 hn).1;exact wak w _ hu
theorem qd0{w:World}{A:Option Addr}{n:Nat}{xs:List Value}(h:Rd w A n xs)(o:Obj):Rd (w.alloc o) A n xs:=h.below ((wac _ w).alloc (wab _) o)
theorem qch{w:World}{A:Option Addr}{n:Nat}{xs:List Value}(h:Rd w A n xs):Rd w.drew A n xs:=h
theorem qabz{W:World}{H:Nat}(hH:W.heap.size=H)(xs:List Value)(t:TypeId)(fr:Nat×Nat):Rd (W.alloc (.cells xs.toArray t fr)) (some ⟨H,0,none⟩) xs.length xs:=by
 subst hH;refine⟨rfl,λ_=>⟨_,rfl,λj u hu=>?_⟩⟩;have e:(⟨W.heap.size,0,none⟩:Addr).add j=⟨W.heap.size,j,none⟩:=by
  cases j with
  |zero=>rfl
  |succ j=>simp[Addr.add]
 rw[e,World.cell?_alloc_mark,wcs];exact hu
theorem qbv{W:World}{H n:Nat}{C:Array Value}{xs:List Value}{t:TypeId}(hC:C=xs.toArray)(hn:xs.length=n)(hH:W.heap.size=H):Rd (W.alloc (.cells C t)) (some ⟨H,0,none⟩) n xs:=by subst hC hn;exact qabz hH xs t (0,0)
theorem q6s{t:Nat}(h:t<64):IntKind.u64.wrap ((2:Int) ^ t)=((2 ^ t:Nat):Int):=by
 have hl:2 ^ t<18446744073709551616:=Nat.pow_lt_pow_of_lt (a:=2) (n:=t) (m:=64) Zo h;have e:((2:Int) ^ t)=((2 ^ t:Nat):Int):=by simp
 rw[wa5,e];generalize 2 ^ t=y at hl ⊢;omega
theorem qaf{w w':World}{base size n:Nat}{e:TypeId}{v:Value}{xs:List Value}(h:w.ownsRow base e size v n xs)(hb:Below w.heap.size w w'):w'.ownsRow base e size v n xs:=
 h.kept (row:=none) ⟨hb.os,hb.tape,hb.output,hb.size,λk hk _=>hb.block k hk⟩ (by cases h':v.ownBlock<;>simp)
theorem qax{w:World}{b base size n:Nat}{e:TypeId}{v:Value}{xs:List Value}(h:w.ownsRow base e size v n xs)(hb:b<=base):w.ownsRow b e size v n xs:=
 ⟨h.1,h.2.imp id (λ⟨g,cap,cur,h1,h2,r⟩=>⟨g,cap,cur,h1,wap hb h2,r⟩)⟩
theorem qb3{W:World}{H:Nat}(hH:W.heap.size=H){C:Array Value}(xs:List Value)(hC:C=xs.toArray)(t:TypeId):∀j u,xs[j]? =some u->(W.alloc (.cells C t)).cell? ((⟨H,0,none⟩:Addr).add j)=some u:=by
 subst hH hC;intro j u hu;exact World.news_of_block (World.alloc_heap_new W _) j u (by simpa using hu)
theorem qp3{w W w4:World}{o:Obj}{row:Option Nat}(hB:Below w.heap.size w W)(hgrow:(W.alloc o).drew.grownBy w4 row)(hown:∀j,row=some j->w.heap.size<=j):Below w.heap.size w w4:=
 (hB.alloc hB.size o).drew.grown hgrow (by have:=hB.size;simp;omega) hown
theorem qaav{w3 w4:World}{o:Obj}{row:Option Nat}{q:Addr}{u:Value}(hgrow:(w3.alloc o).drew.grownBy w4 row)(h:w3.cell? q=some u)(hne:some q.block≠row):w4.cell? q=some u:=by
 have hl:=wak w3 _ h;have hb:Below w3.heap.size w3 (w3.alloc o).drew:=((wac _ w3).alloc (wab _) o).drew;rw[hgrow.cell_far q Zx hne,hb.cell hl];exact h
theorem qan{V:World}{H:Nat}(hH:V.heap.size=H)(C:Array Value)(t:TypeId):(V.alloc (.cells C t)).heap[H]? =some (.cells C t (0,0)):=by subst hH;exact World.alloc_heap_new V _
theorem qag{V:World}{b:Nat}{C:Array Value}{t:TypeId}{fr:Nat×Nat}(h:V.heap[b]? =some (.cells C t fr))(o:Obj):(V.alloc o).heap[b]? =some (.cells C t fr):=(wbv V o b (wal.1 h).1).trans h
theorem qao{V V':World}{b B:Nat}{C:Array Value}{t:TypeId}{fr:Nat×Nat}(h:V.heap[b]? =some (.cells C t fr))(hb:Below B V V')(hB:b<B):V'.heap[b]? =some (.cells C t fr):=(hb.block b hB).trans h
theorem qaz{W:World}{B:Nat}{C:Array Value}{t e:TypeId}{fr:Nat×Nat}(h:W.heap[B]? =some (.cells C t fr))(hte:t≠e){base size k:Nat}{v:Value}{xs:List Value}(hr:W.ownsRow base e size v k xs):some B≠v.ownBlock:=by
 rcases hr.2 with ⟨rfl,_⟩|⟨g,cap,cur,rfl,_,hgb,_⟩
 ·simp[Value.ownBlock]
 ·intro e'
  obtain rfl:B=g:=by simpa[Value.ownBlock] using e'
  have:=h.symm.trans hgb
  simp at this
  exact hte this.2.1
theorem qb1{W w1:World}{B:Nat}{C:Array Value}{t e:TypeId}{fr:Nat×Nat}(h:W.heap[B]? =some (.cells C t fr))(hte:t≠e){base size k:Nat}{v:Value}{xs:List Value}{tmp:Obj}(hr:W.ownsRow base e size v k xs)(hgrow:(W.alloc tmp).grownBy w1 v.ownBlock):w1.heap[B]? =some (.cells C t fr):=
 (hgrow.block B (by have:=(wal.1 h).1;simp;omega) (qaz h hte hr)).trans (qag h _)
theorem qmk(t:Nat):madeCells #[Value.int .u64 0] t=(u64V (List.replicate t 0)).toArray:=by
 apply Array.ext'
 apply wa3
 intro j;by_cases hj:j<t
 ·simp[madeCells,u64V,hj,Nat.mod_one]
 ·simp[madeCells,u64V,hj]
theorem qit(t:Nat)(ht:t<=2000)(w:World):(Instr.makeSlice 40 (.int .i64 (t:Int)) (.int .i64 (t:Int))).run Tryz.prog w= .ok (.slice (some ⟨w.heap.size,0,none⟩) t t) (w.alloc (.cells (u64V (List.replicate t 0)).toArray 27)):=by
 obtain⟨i,hi,hz,hs,hb⟩:=info_parts qcg;have h:=run_makeSlice (P:=Tryz.prog) w 40 27 i _ wbi hi hz .i64 .i64 (t:Int) (t:Int) Zo (wen _) (by rw[hs,wam];omega) (by rw[hb];omega) Zo;rw[hs,wam,wb7] at h;rw[h,<-qmk];rfl
end Go.Proofs.YtocncmbeinmiaaaGreat
namespace Go.Proofs.YtocncmbeinmiaaaGreat
open Go Go.RowKit
open Go.Sort (SWO PermIn SortedIn swp permIn_refl permIn_trans permIn_all permIn_mono swp_permIn size_swp swp_other swp_left swp_right)
def SrtI(W:World)(g c:Nat)(d:Array Int):Prop:=∃cur:Array Value,W.heap[g]? =some (.cells cur 3 (0,0))/\cur.size=c/\d.size<=c/\∀t,t<d.size->cur[t]? =some (.int .i64 (d[t]!))
theorem SrtI.lt{W:World}{g c:Nat}{d:Array Int}(h:SrtI W g c d):g<W.heap.size:=by
 obtain⟨cur,hb,-⟩:=h;exact(wal.1 hb).1
theorem SrtI.cell{W:World}{g c:Nat}{d:Array Int}(h:SrtI W g c d)(t:Nat)(ht:t<d.size):W.cell? ⟨g,t,none⟩=some (.int .i64 (d[t]!)):=by
 obtain⟨cur,hb,h1,h2,h3⟩:=h;rw[qaa hb,h3 t ht]
theorem SrtI.froz{W:World}{g c:Nat}{d:Array Int}(h:SrtI W g c d)(t:Nat):W.frozen? ⟨g,t,none⟩=false:=by
 obtain⟨cur,hb,-⟩:=h;exact qaj hb t
theorem SrtI.below{W W':World}{g c B:Nat}{d:Array Int}(h:SrtI W g c d)(hb:Below B W W')(hg:g<B):SrtI W' g c d:=by
 obtain⟨cur,h0,r⟩:=h;exact⟨cur,(hb.block g hg).trans h0,r⟩
theorem SrtI.drewN{W:World}{g c:Nat}{d:Array Int}(h:SrtI W g c d)(n:Nat):SrtI (W.drewN n) g c d:=h
theorem SrtI.alloc{W:World}{g c:Nat}{d:Array Int}(h:SrtI W g c d)(o:Obj):SrtI (W.alloc o) g c d:=h.below ((wac _ W).alloc (wab _) o) h.lt
theorem SrtI.other{W:World}{g c:Nat}{d:Array Int}(h:SrtI W g c d){p:Addr}(hp:p.block≠g)(v:Value):SrtI (W.setCell p v) g c d:=by
 obtain⟨cur,h0,r⟩:=h;exact⟨cur,(wat _ _ _ _ (λe=>hp e.symm)).trans h0,r⟩
theorem SrtI.swap{W:World}{g c:Nat}{d:Array Int}(h:SrtI W g c d){i j:Nat}(hi:i<d.size)(hj:j<d.size){x y:Int}(hx:x=(d[j]!))(hy:y=(d[i]!)):SrtI ((W.setCell ⟨g,i,none⟩ (.int .i64 x)).setCell ⟨g,j,none⟩ (.int .i64 y)) g c (swp d i j):=by
 obtain⟨cur,hb,h1,h2,h3⟩:=h;refine⟨_,qah (qah hb i _) j _,by simp[h1],by rw[size_swp];exact h2,λt ht=>?_⟩;rw[size_swp] at ht;subst hx hy;by_cases htj:t=j
 ·subst htj
  rw[swp_right _ _ _ ht,wct Zx]
 ·rw[wbw (λe=>htj e.symm)]
  by_cases hti:t=i
  ·subst hti
   rw[swp_left _ _ _ ht htj,wct Zo]
  ·rw[wbw (λe=>hti e.symm),swp_other _ _ _ _ hti htj]
   exact h3 t ht
theorem SrtI.words{W:World}{g c:Nat}{d:Array Int}(h:SrtI W g c d):∃G:Nat->Int,Hid (∀t,G t=d[t]!)/\(∀t,t<d.size->W.cell? ⟨g,t,none⟩=some (.int .i64 (G t)))/\(∀t,W.frozen? ⟨g,t,none⟩=false):=
 ⟨λt=>d[t]!,waa (λ_=>rfl),h.cell,h.froz⟩
theorem SrtI.swapped{W:World}{g c:Nat}{d:Array Int}(h:SrtI W g c d){i j:Nat}(hi:i<d.size)(hj:j<d.size){x y:Int}(hx:x=(d[j]!))(hy:y=(d[i]!)):SrtI ((W.setCell ⟨g,i,none⟩ (.int .i64 x)).setCell ⟨g,j,none⟩ (.int .i64 y)).drew g c (swp d i j):=h.swap hi hj hx hy
theorem SrtI.again{W:World}{g c:Nat}{d:Array Int}(h:SrtI W g c d)(i:Nat){j:Nat}{v:Value}(hv:W.cell? ⟨g,j,none⟩=some v):(W.setCell ⟨g,i,none⟩ v).cell? ⟨g,j,none⟩=some v:=by
 obtain⟨cur,hb,h1,h2,h3⟩:=h;rw[qaa hb] at hv;rw[qaa (qah hb i v)];obtain⟨hj,hjv⟩:=wal.1 hv;by_cases hij:i=j
 ·subst hij
  exact wct hj
 ·rw[wbw hij]
  exact hv
def ltN(x y:Nat):Bool:=decide (x<y)
theorem swoN:SWO ltN where
 irrefl:=λx=>by unfold ltN;simp
 trans:=λx y z h1 h2=>by unfold ltN at*;simp only[decide_eq_true_eq] at*;omega
 ntrans:=λx y z h1 h2=>by unfold ltN at*;simp only[decide_eq_false_iff_not] at*;omega
theorem ltN_no{x y:Nat}:ltN x y=false↔y<=x:=by unfold ltN;simp
theorem ltN_yes{x y:Nat}:ltN x y=true↔x<y:=by unfold ltN;simp
structure Sorts (a b:Nat) (d d':Array Nat):Prop where
 perm:PermIn a b d d'
 rise:∀i j,a<=i->i<j->j<b->d'[i]! <=d'[j]!
theorem Sorts.of{a b:Nat}{d d':Array Nat}(h:PermIn a b d d'/\SortedIn ltN a b d'):Sorts a b d d':=⟨h.1,λi j h1 h2 h3=>ltN_no.1 (h.2 i j h1 h2 h3)⟩
def Fore(a b:Nat)(d:Array Nat):Prop:=0<a->∀i,a<=i->i<b->d[a - 1]! <=d[i]!
theorem qe6{d d':Array Nat}{a b:Nat}(hb:b<=d.size)(h:PermIn a b d d'){p:Nat->Prop}(hp:∀i,a<=i->i<b->p d[i]!):∀i,a<=i->i<b->p d'[i]! :=permIn_all d d' a b p hb h hp
theorem Fore.perm{a b:Nat}{d d':Array Nat}(h:Fore a b d)(hb:b<=d.size)(hp:PermIn a b d d'):Fore a b d':=λh0 i hi hib=>by
 rw[hp.2.1 (a - 1) (.inl Zo)];exact qe6 hb hp (p:=λx=>d[a - 1]! <=x) (h h0) i hi hib
theorem Sorts.perm_left{a b:Nat}{d d1 d':Array Nat}(h:PermIn a b d d1)(h':Sorts a b d1 d'):Sorts a b d d':=⟨permIn_trans _ _ _ _ _ h h'.perm,h'.rise⟩
structure Part (lo:Nat->Nat->Prop) (d:Array Nat) (a b i j:Nat) (e:Array Nat):Prop where
 perm:PermIn a b d e
 ai:a<i
 ij:i<=j+1
 jb:j<b
 low:∀k,a<k->k<i->lo e[k]! e[a]!
 high:∀k,j<k->k<b->¬lo e[k]! e[a]!
section
variable {lo:Nat->Nat->Prop} {d e:Array Nat} {a b i j:Nat}
theorem qmp{pv:Nat}(h1:a<=pv)(h2:pv<b)(hb:b<=d.size):Part lo d a b (a+1) (b - 1) (swp d a pv):=
 ⟨swp_permIn d a b a pv (wab a) Zo h1 h2 hb,Zo,Zo,Zo,λk h h'=>by omega,λk h h'=>by omega⟩
theorem Part.up(h:Part lo d a b i j e)(hij:i<=j)(hl:lo e[i]! e[a]!):Part lo d a b (i+1) j e:=
 ⟨h.perm,by have:=h.ai;omega,Zo,h.jb,λk h1 h2=>by
  by_cases hk:k=i
  ·rw[hk];exact hl
  ·exact h.low k h1 Zo,h.high⟩
theorem Part.down(h:Part lo d a b i j e)(hij:i<=j)(hl:¬lo e[j]! e[a]!):Part lo d a b i (j - 1) e:=
 ⟨h.perm,h.ai,by have:=h.ai;omega,by have:=h.jb;omega,h.low,λk h1 h2=>by
  by_cases hk:k=j
  ·rw[hk];exact hl
  ·exact h.high k Zo h2⟩
theorem Part.size(h:Part lo d a b i j e):e.size=d.size:=h.perm.1
theorem Part.swap(h:Part lo d a b i j e)(hb:b<=d.size)(hij:i<=j)(hi:¬lo e[i]! e[a]!)(hj:lo e[j]! e[a]!):Part lo d a b (i+1) (j - 1) (swp e i j):=by
 have hne:i≠j:=λe'=>by subst e';exact hi hj
 have hs:=h.size;have ha:=h.ai;have hjb:=h.jb;have ea:(swp e i j)[a]! =e[a]! :=swp_other _ _ _ _ Zo Zo;refine⟨permIn_trans _ _ _ _ _ h.perm (swp_permIn e a b i j Zo Zo Zo Zo Zo),Zo,Zo,Zo,λk h1 h2=>?_,λk h1 h2=>?_⟩
 ·rw[ea]
  by_cases hk:k=i
  ·subst hk
   rw[swp_left _ _ _ Zo hne];exact hj
  ·rw[swp_other _ _ _ _ hk Zo]
   exact h.low k h1 Zo
 ·rw[ea]
  by_cases hk:k=j
  ·subst hk
   rw[swp_right _ _ _ Zo];exact hi
  ·rw[swp_other _ _ _ _ Zo hk]
   exact h.high k Zo h2
theorem Part.done_eq(h:Part lo d a b i j e)(hij:j<i):i=j+1:=by have:=h.ij;omega
end
structure Parted (d:Array Nat) (a b m:Nat) (e:Array Nat):Prop where
 perm:PermIn a b d e
 am:a<=m
 mb:m<b
 low:∀k,a<=k->k<m->e[k]! <e[m]!
 high:∀k,m<k->k<b->e[m]! <=e[k]!
theorem Part.done{d e:Array Nat}{a b i j:Nat}(h:Part (λx p=>x<p) d a b i j e)(hb:b<=d.size)(hij:j<i):Parted d a b j (swp e j a):=by
 have hi:=h.done_eq hij;have hs:=h.size;have ha:=h.ai;have hjb:=h.jb;have em:(swp e j a)[j]! =e[a]! :=by
  by_cases hja:j=a
  ·subst hja
   exact swp_right _ _ _ Zo
  ·exact swp_left _ _ _ Zo hja
 refine⟨permIn_trans _ _ _ _ _ h.perm (swp_permIn e a b j a Zo Zo (wab a) Zo Zo),Zo,hjb,λk h1 h2=>?_,λk h1 h2=>?_⟩
 ·rw[em]
  by_cases hk:k=a
  ·subst hk
   rw[swp_right _ _ _ Zo];exact h.low j Zo Zo
  ·rw[swp_other _ _ _ _ Zo hk]
   exact h.low k Zo Zo
 ·rw[em,swp_other _ _ _ _ Zo Zo]
  have:=h.high k h1 h2
  omega
structure AlikeS (d:Array Nat) (a b m:Nat) (e:Array Nat):Prop where
 perm:PermIn a b d e
 am:a<m
 mb:m<=b
 low:∀k,a<=k->k<m->e[k]! <=e[a]!
 high:∀k,m<=k->k<b->e[a]! <e[k]!
theorem Part.alike{d e:Array Nat}{a b i j:Nat}(h:Part (λx p=>x<=p) d a b i j e)(hij:j<i):AlikeS d a b i e:=by
 have hi:=h.done_eq hij;refine⟨h.perm,h.ai,by have:=h.jb;omega,λk h1 h2=>?_,λk h1 h2=>?_⟩
 ·by_cases hk:k=a
  ·rw[hk];exact wab _
  ·exact h.low k Zo h2
 ·have:=h.high k Zo h2
  omega
theorem AlikeS.sorts{d e d':Array Nat}{a b m:Nat}(h:AlikeS d a b m e)(hb:b<=d.size)(hmin:∀i,a<=i->i<b->e[a]! <=e[i]!)(h':Sorts m b e d'):Sorts a b d d':=by
 have hs:=h.perm.1;have ham:=h.am;have hmb:=h.mb;refine⟨permIn_trans _ _ _ _ _ h.perm (permIn_mono e d' m b a b Zo (wab b) Zo h'.perm),λi j h1 h2 h3=>?_⟩;have hhi:=qe6 Zo h'.perm (p:=λx=>e[a]! <x) h.high;by_cases hi:m<=i
 ·exact h'.rise i j hi h2 h3
 ·rw[h'.perm.2.1 i (.inl Zo)]
  have e1:=h.low i h1 Zo;by_cases hj:m<=j
  ·have:=hhi j hj h3
   omega
  ·rw[h'.perm.2.1 j (.inl Zo)]
   have e2:=hmin j Zo h3;omega
theorem AlikeS.fore{d e:Array Nat}{a b m:Nat}(h:AlikeS d a b m e):Fore m b e:=λh0 i hi hib=>by
 have e1:=h.low (m - 1) (by have:=h.am;omega) Zo;have e2:=h.high i hi hib;omega
theorem Parted.fore{d e:Array Nat}{a b m:Nat}(h:Parted d a b m e):Fore (m+1) b e:=λh0 i hi hib=>by
 have:=h.high i Zo hib
 rw[show m+1 - 1=m by omega];exact this
theorem Parted.fore_left{d e:Array Nat}{a b m:Nat}(h:Parted d a b m e)(hb:b<=d.size)(hf:Fore a b d):Fore a m e:=λh0 i hi hib=>(hf.perm hb h.perm) h0 i hi (by have:=h.mb;omega)
theorem Parted.sorts{d e d':Array Nat}{a b m:Nat}(h:Parted d a b m e)(hb:b<=d.size){f:Array Nat}(h1:PermIn a m e f)(h2:PermIn (m+1) b f d')(r1:∀i j,a<=i->i<j->j<m->d'[i]! <=d'[j]!)(r2:∀i j,m+1<=i->i<j->j<b->d'[i]! <=d'[j]!):Sorts a b d d':=by
 have hs:=h.perm.1;have hs1:=h1.1;have ham:=h.am;have hmb:=h.mb;refine⟨permIn_trans _ _ _ _ _ h.perm (permIn_trans _ _ _ _ _ (permIn_mono e f a m a b (wab a) Zo Zo h1) (permIn_mono f d' (m+1) b a b Zo (wab b) Zo h2)),?_⟩;have em:d'[m]! =e[m]! :=by rw[h2.2.1 m (.inl Zo),h1.2.1 m (.inr Zo)]
 have lo:∀k,a<=k->k<m->d'[k]! <e[m]! :=λk k1 k2=>by
  rw[h2.2.1 k (.inl Zo)];exact qe6 Zo h1 (p:=λx=>x<e[m]!) h.low k k1 k2
 have hi:∀k,m+1<=k->k<b->e[m]! <=d'[k]! :=λk k1 k2=>by
  refine qe6 Zo h2 (p:=λx=>e[m]! <=x) (λi i1 i2=>?_) k k1 k2;rw[h1.2.1 i (.inr Zo)];exact h.high i Zo i2
 intro i j k1 k2 k3;by_cases him:i<m
 ·have e1:=lo i k1 him
  by_cases hjm:j<m
  ·exact r1 i j k1 k2 hjm
  ·by_cases hj:j=m
   ·rw[hj,em];omega
   ·have:=hi j Zo k3
    omega
 ·by_cases hi2:i=m
  ·rw[hi2,em]
   exact hi j Zo k3
  ·exact r2 i j Zo k2 k3
theorem Parted.left{d e f d':Array Nat}{a b m:Nat}(h:Parted d a b m e)(hb:b<=d.size)(h1:Sorts a m e f)(h2:Sorts (m+1) b f d'):Sorts a b d d':=
 h.sorts hb h1.perm h2.perm (λi j k1 k2 k3=>by
  rw[h2.perm.2.1 i (.inl Zo),h2.perm.2.1 j (.inl Zo)];exact h1.rise i j k1 k2 k3) h2.rise
theorem Parted.right{d e f d':Array Nat}{a b m:Nat}(h:Parted d a b m e)(hb:b<=d.size)(h1:Sorts (m+1) b e f)(h2:Sorts a m f d'):Sorts a b d d':=by
 have hs:=h.perm.1;have ham:=h.am;have hmb:=h.mb;refine⟨permIn_trans _ _ _ _ _ h.perm (permIn_trans _ _ _ _ _ (permIn_mono e f (m+1) b a b Zo (wab b) Zo h1.perm) (permIn_mono f d' a m a b (wab a) Zo (by have:=h1.perm.1;omega) h2.perm)),?_⟩;have hs1:=h1.perm.1;have em:d'[m]! =e[m]! :=by rw[h2.perm.2.1 m (.inr Zo),h1.perm.2.1 m (.inl Zo)]
 have lo:∀k,a<=k->k<m->d'[k]! <e[m]! :=λk k1 k2=>by
  refine qe6 Zo h2.perm (p:=λx=>x<e[m]!) (λi i1 i2=>?_) k k1 k2;rw[h1.perm.2.1 i (.inl Zo)];exact h.low i i1 i2
 have hi:∀k,m+1<=k->k<b->e[m]! <=d'[k]! :=λk k1 k2=>by
  rw[h2.perm.2.1 k (.inr Zo)];exact qe6 Zo h1.perm (p:=λx=>e[m]! <=x) (λi i1 i2=>h.high i Zo i2) k k1 k2
 intro i j k1 k2 k3;by_cases him:i<m
 ·have e1:=lo i k1 him
  by_cases hjm:j<m
  ·exact h2.rise i j k1 k2 hjm
  ·by_cases hj:j=m
   ·rw[hj,em];omega
   ·have:=hi j Zo k3
    omega
 ·by_cases hi2:i=m
  ·rw[hi2,em]
   exact hi j Zo k3
  ·rw[h2.perm.2.1 i (.inr Zo),h2.perm.2.1 j (.inr Zo)]
   exact h1.rise i j Zo k2 k3
end Go.Proofs.YtocncmbeinmiaaaGreat
