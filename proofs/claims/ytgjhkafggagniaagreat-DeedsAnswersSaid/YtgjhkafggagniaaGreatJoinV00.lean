/- Parts. No condition. -/
import Derived.Test.YtgjhkafggagniaaGreatProg
import Derived.RangeFuncBox
import Derived.Laws.OwnMore
import Derived.Deep.AppendLies
import Derived.WalkSmall
import Derived.OpenShut
import Derived.Deep.MidRow
import Derived.StillTailTactics
import Derived.Laws.MakeOwn
import Derived.Test.YtgjhkafggagniaaGreatJoinVA
set_option linter.unusedVariables false
set_option maxRecDepth 100000
set_option maxHeartbeats 8000000
namespace Go.Proofs.YtgjhkafggagniaaGreat
open Go Go.RowKit
def Keep(p:Prop):Prop:=∃u:Unit,u=()/\p
theorem keep{p:Prop}(h:p):Keep p:=⟨(),rfl,h⟩
theorem Keep.out{p:Prop}(h:Keep p):p:=h.choose_spec.2
theorem qcv{a b:Int}(h:a=b):Ending.returned (.int .u64 a)= .returned (.int .u64 b):=by rw[h]
theorem qd8{a b:Int}(h:a=b):Ending.returned (.int .u32 a)= .returned (.int .u32 b):=by rw[h]
theorem qb2{a b:Int}(h:a=b):Ending.returned (.int .i64 a)= .returned (.int .i64 b):=by rw[h]
theorem qae{a b:Bool}(h:a=b):Ending.returned (.bool a)= .returned (.bool b):=by rw[h]
theorem qcn{P:Program}{f:FuncId}{args:Array Value}{w:World}{n:Nat}{v:Value}(h:Calls P f args (w.drewN n) λe w'=>e= .returned v/\w.drewN n=w'):
  Calls P f args (w.drewN n) λe w''=>e= .returned v/\∃m,w''=w.drewN m:=Calls.quiet_of_same (h.mono λ_ _ ⟨he,hm⟩=>⟨he,hm.symm⟩)
def Rd(w:World)(A:Option Addr)(n:Nat)(xs:List Value):Prop:=
 xs.length=n/\(0<n->∃p,A=some p/\∀j u,xs[j]? =some u->w.cell? (p.add j)=some u)
def i64V(l:List Int):List Value:=l.map (Value.int .i64)
def u64V(l:List Nat):List Value:=l.map (λ(x:Nat)=>Value.int .u64 (x:Int))
def u8V(l:List Nat):List Value:=l.map (λ(x:Nat)=>Value.int .u8 (x:Int))
theorem qy9(l:List Nat):(u8V l).length=l.length:=by simp[u8V]
theorem qwq(l:List Nat)(x:Nat):u8V (l++[x])=u8V l++[.int .u8 (x:Int)]:=by simp[u8V]
theorem qbi(l:List Int):(i64V l).length=l.length:=by simp[i64V]
theorem qat(l:List Nat):(u64V l).length=l.length:=by simp[u64V]
theorem qkd(l:List Nat)(x:Nat):u64V (l++[x])=u64V l++[.int .u64 (x:Int)]:=by simp[u64V]
section
variable {w w':World} {A:Option Addr} {n:Nat} {xs:List Value}
theorem Rd.nil_(w:World)(A:Option Addr):Rd w A 0 []:=⟨rfl,λh=>absurd h Zo⟩
theorem Rd.at_{k:Nat}(h:Rd w A n xs)(hk:k<n):∃p u,A=some p/\xs[k]? =some u/\w.cell? (p.add k)=some u:=by
 obtain⟨p,e,hc⟩:=h.2 Zo;have hl:k<xs.length:=by rw[h.1];exact hk
 exact⟨p,xs[k],e,wan hl,hc k _ (wan hl)⟩
theorem Rd.kept(h:Rd w A n xs){B:Nat}(hb:Below B w w')(hB:w.heap.size<=B):Rd w' A n xs:=
 ⟨h.1,λhn=>by
  obtain⟨p,e,hc⟩:=h.2 hn;exact⟨p,e,λj u hu=>(hb.cell (p:=p.add j) (wak (wal w _ (hc j u hu)) hB)).trans (hc j u hu)⟩⟩
theorem Rd.below(h:Rd w A n xs)(hb:Below w.heap.size w w'):Rd w' A n xs:=h.kept hb (wah _)
theorem Rd.of_own{base:Nat}{e:TypeId}{v:Value}(h:w.ownsRow base e 1 v n xs):∃A cap,v= .slice A n cap/\Rd w A n xs:=by
 by_cases hn:0<n
 ·obtain⟨g,cap,rfl,_,hlt⟩:=h.form hn
  have hx:xs.length=n:=by have:=h.1;omega
  exact⟨_,cap,rfl,hx,λ_=>⟨_,rfl,h.cells (g:=g) rfl⟩⟩
 ·have e0:n=0:=Zo
  subst e0;have hx:xs.length=0:=by have:=h.1;omega
  rcases h.2 with ⟨rfl,_⟩|⟨g',cap',cur,rfl,_⟩
  ·exact⟨_,_,rfl,hx,λh=>absurd h Zo⟩
  ·exact⟨_,_,rfl,hx,λh=>absurd h Zo⟩
theorem Rd.i64_at{k:Nat}{l:List Int}(h:Rd w A n (i64V l))(hk:k<n):∃p x,A=some p/\l.drop k=x::l.drop (k+1)/\x∈l/\w.cell? (p.add k)=some (.int .i64 x):=by
 obtain⟨p,u,e,hu,hc⟩:=h.at_ hk;have hl:k<l.length:=by have:=h.1;rw[qbi] at this;omega
 refine⟨p,l[k],e,wbl hl,wb4 hl,?_⟩;rw[hc];simp[i64V,List.getElem?_eq_getElem hl] at hu
 rw[hu]
theorem Rd.u64_at{k:Nat}{l:List Nat}(h:Rd w A n (u64V l))(hk:k<n):∃p x,A=some p/\l.drop k=x::l.drop (k+1)/\x∈l/\w.cell? (p.add k)=some (.int .u64 (x:Int)):=by
 obtain⟨p,u,e,hu,hc⟩:=h.at_ hk;have hl:k<l.length:=by have:=h.1;rw[qat] at this;omega
 refine⟨p,l[k],e,wbl hl,wb4 hl,?_⟩;rw[hc];simp[u64V,List.getElem?_eq_getElem hl] at hu
 rw[hu]
theorem Rd.u8_at{k:Nat}{l:List Nat}(h:Rd w A n (u8V l))(hk:k<n):∃p x,A=some p/\l.drop k=x::l.drop (k+1)/\x∈l/\w.cell? (p.add k)=some (.int .u8 (x:Int)):=by
 obtain⟨p,u,e,hu,hc⟩:=h.at_ hk;have hl:k<l.length:=by have:=h.1;rw[qy9] at this;omega
 refine⟨p,l[k],e,wbl hl,wb4 hl,?_⟩;rw[hc];simp[u8V,List.getElem?_eq_getElem hl] at hu
 rw[hu]
end
theorem qbv{W:World}{base:Nat}{e:TypeId}{size k:Nat}{v:Value}{xs:List Value}(h:W.ownsRow base e size v k xs):∀j,v.ownBlock=some j->base<=j:=λj hj=>(h.lt j hj).1
theorem qc1{w:World}{base size n:Nat}{e:TypeId}{v:Value}{xs:List Value}(h:w.ownsRow base e size v n xs)(t:Nat):(w.drewN t).ownsRow base e size v n xs:=h
theorem qfi{w:World}{B:Nat}{e:TypeId}{v:Value}(h:Boxed w B e v)(t:Nat):Boxed (w.drewN t) B e v:=h
theorem qjv{W:World}{H:Nat}(hH:W.heap.size=H)(x:Value)(t:TypeId):∀j u,[x][j]? =some u->(W.alloc (.cells #[x] t)).cell? ((⟨H,0,none⟩:Addr).add j)=some u:=by
 subst hH;intro j u hj;match j,hj with
 |0,hj=>
  obtain rfl:x=u:=by simpa using hj
  exact(Boxed.new W t x).cell
theorem qfk{W W1:World}{B:Nat}(hb:Below B W W1):(∀b o,b<B->W1.cell? ⟨b,o,none⟩=W.cell? ⟨b,o,none⟩)/\(∀b o,b<B->W1.frozen? ⟨b,o,none⟩=W.frozen? ⟨b,o,none⟩):=
 ⟨λb o h=>hb.cell (p:=⟨b,o,none⟩) h,λb o h=>hb.frozen (p:=⟨b,o,none⟩) h⟩
theorem qaz{B:Nat}{a w:World}(h:Below B a w)(t:Nat):Below B a (w.drewN t):=below_drewN h t
theorem qum{k:IntKind}{w:World}{a:Option Addr}{len cap:Nat}{zs:List Int}(h:(a=none/\len=0/\cap=0/\zs=[])\/∃x,a=some x/\len<=cap/\cap<=maxLen/\zs.length=cap/\(∀i,i<zs.length->w.cell? (x.add i)=some (.int k (zs.getD i 0)))/\∀n∈zs,(Lit.int k n).wf=true):
  ∃l:List Int,l.length=len/\len<=maxLen/\Rd w a len (l.map (Value.int k))/\∀n∈l,(Lit.int k n).wf=true:=by
 rcases h with ⟨rfl,rfl,rfl,rfl⟩|⟨x,rfl,hl,hm,hz,hc,hw⟩
 ·exact⟨[],rfl,wat _,Rd.nil_ _ _,by simp⟩
 ·refine⟨zs.take len,by rw[war];omega,Zo,⟨by rw[wdh,war];omega,λ_=>⟨x,rfl,?_⟩⟩,λn hn=>hw n (wec hn)⟩
  intro j u hu;rw[way,waw] at hu;by_cases hj:j<len
  ·rw[if_pos hj,wan Zo] at hu
   simp at hu
   rw[hc j Zo,<-hu];simp[List.getElem?_eq_getElem (show j<zs.length by omega)]
  ·rw[if_neg hj] at hu;simp at hu
theorem qog{w:World}{a:Option Addr}{len:Nat}{l:List Int}(h:Rd w a len (l.map (Value.int .u64)))(hw:∀n∈l,(Lit.int .u64 n).wf=true):
  ∃v:List Nat,v.length=l.length/\Rd w a len (u64V v)/\∀n∈v,n<18446744073709551616:=by
 refine⟨l.map Int.toNat,by simp,?_,?_⟩
 ·have:u64V (l.map Int.toNat)=l.map (Value.int .u64):=by
   unfold u64V;rw[List.map_map];apply wed
   intro n hn;have:=bounds_u64 (hw n hn)
   simp only[Function.comp_apply];rw[Int.toNat_of_nonneg this.1]
  rw[this];exact h
 ·intro n hn
  obtain⟨x,hx,rfl⟩:=wbb.1 hn;have:=bounds_u64 (hw x hx)
  omega
theorem quh{n:Nat}(h:n<=maxLen):n<=9223372036854775807:=by unfold maxLen at h;omega
theorem qe1:(Tryz.prog.info? 40).map (λi=>(i.zero,i.size,i.bytes))=some (some (.int .u64 0),1,8):=by kernel_rfl
theorem qy3:(Tryz.prog.info? 5).map (λi=>(i.zero,i.size,i.bytes))=some (some (.int .u8 0),1,1):=by kernel_rfl
theorem qab{w:World}{b:Nat}{C:Array Value}{t:TypeId}{fr:Nat×Nat}(h:w.heap[b]? =some (.cells C t fr))(j:Nat):w.cell? ⟨b,j,none⟩=C[j]?:=by simp[World.cell?,h]
theorem qah{w:World}{b:Nat}{C:Array Value}{t:TypeId}(h:w.heap[b]? =some (.cells C t (0,0)))(j:Nat):w.frozen? ⟨b,j,none⟩=false:=by simp[World.frozen?,h]
theorem qaj{w:World}{b:Nat}{C:Array Value}{t:TypeId}(h:w.heap[b]? =some (.cells C t (0,0)))(j:Nat)(v:Value):(w.setCell ⟨b,j,none⟩ v).heap[b]? =some (.cells (C.setIfInBounds j v) t (0,0)):=by
 obtain⟨hlt,hk⟩:=waj.1 h;show(w.heap.modify b _)[b]? =_
 rw[wb5 (by rw[Array.size_modify];exact hlt),Array.getElem_modify_self,hk];rfl
theorem qd2(w:World)(a:Addr)(v:Value):w.grownBy (w.setCell a v) (some a.block):=⟨rfl,rfl,rfl,by simp[World.setCell],λk _ hne=>wa5 _ _ _ _ (λe=>hne (by rw[e]))⟩
theorem qnz{a b c:World}{r:Option Nat}(h:a.grownBy b r)(k:b.grownBy c r):a.grownBy c r:=
 ⟨k.os.trans h.os,k.tape.trans h.tape,k.output.trans h.output,wam h.size k.size,λi hi hr=>(k.block i (wak hi h.size) hr).trans (h.block i hi hr)⟩
theorem qdg(b:Nat):∀(vs:List Value) (o:Nat) (w:World),w.grownBy (w.setCells b o vs) (some b)
 |[],_,_=>⟨rfl,rfl,rfl,wah _,λ_ _ _=>rfl⟩
 |v::r,o,w=>qnz (qd2 w ⟨b,o,none⟩ v) (qdg b r (o+1) _)
theorem qcx{B b:Nat}(hB:B<=b):∀(vs:List Value) (o:Nat) (a w:World),Below B a w->Below B a (w.setCells b o vs)
 |[],_,_,_,h=>h
 |v::r,o,a,w,h=>qcx hB r (o+1) a _ (h.setCell (p:=⟨b,o,none⟩) hB v)
theorem qc2{W:World}{H:Nat}(hH:W.heap.size=H)(C:Array Value)(t:TypeId):(W.alloc (.cells C t)).there H 0 C.size:=by
 subst hH;intro j hj;have hb:(W.alloc (.cells C t)).heap[W.heap.size]? =some (.cells C t (0,0)):=World.alloc_heap_new W _;exact⟨by rw[qab hb,wav,wb5 hj];rfl,qah hb _⟩
theorem qe4{W:World}(C:Array Value)(t:TypeId)(vs:List Value):Below W.heap.size W ((W.alloc (.cells C t)).setCells W.heap.size 0 vs):=
 qcx (wah _) vs 0 _ _ ((wai _ W).alloc (wah _) _)
theorem qgx{W:World}{C:Array Value}{t:TypeId}{vs:List Value}(h:vs.length=C.size):((W.alloc (.cells C t)).setCells W.heap.size 0 vs).rangeAt W.heap.size 0 vs:=
 World.rangeAt_setCells_same _ _ _ _ (by rw[h];exact qc2 rfl C t)
theorem qhz{P:Program}{ops:Array Oper}{w:World}{Q:Act->Prop}{rest:List Oper}{op:Oper}{a:Act}(hw:Region.wanted op (yielded ops a.tmps)=true)(ty:TypeId)(x:Operand)(ho:op.op= .load ty x)(b o:Nat)(hx:a.eval x= .pointer (some ⟨b,o,none⟩))(cs:List Value)(d:TypeDesc)(hc:w.rangeAt b o cs)(hu:P.underlying ty=some d)(hd:d.isRow=true)(hi:(P.info? ty).map (·.size)=some cs.length)(h:wpStill P ops w Q rest (a.put op.dst (.agg cs.toArray))):wpStill P ops w Q (op::rest) a:=by
 have he:(execOp a.eval op).run P w= .ok (.value (.agg cs.toArray)) w:=by
  unfold execOp;simp only[ho,hx,wcc,run_loadAt_mid w b o ty cs d hc hu hd hi,wau,wcy]
 unfold wpStill;rw[if_pos hw];unfold Oper.still;rw[he];exact⟨rfl,h⟩
theorem qfl{V V':World}{B b o n:Nat}(hb:Below B V V')(hB:b<B)(h:V.there b o n):V'.there b o n:=λj hj=>
 ⟨by rw[hb.cell (p:=⟨b,o+j,none⟩) hB];exact(h j hj).1,by rw[hb.frozen (p:=⟨b,o+j,none⟩) hB];exact(h j hj).2⟩
theorem qa8{V V':World}{B b o:Nat}{x:Value}(hb:Below B V V')(hB:b<B)(h:V.cell? ⟨b,o,none⟩=some x):V'.cell? ⟨b,o,none⟩=some x:=(hb.cell (p:=⟨b,o,none⟩) hB).trans h
theorem qk6{w:World}{b o n B O:Nat}{v:Value}(h:w.there b o n):(w.setCell ⟨B,O,none⟩ v).there b o n:=World.there_setCells h B O [v]
theorem qlp{w:World}{b n:Nat}(h:w.there b 0 n):∀o,o<n->w.frozen? ⟨b,o,none⟩=false:=λo ho=>by have:=(h o ho).2;rwa [wav] at this
theorem qx5{w:World}{b n:Nat}(h:w.there b 0 n)(hn:0<n):b<w.heap.size:=by
 obtain⟨u,hu⟩:=Option.isSome_iff_exists.1 (h 0 hn).1;exact wal w _ hu
theorem qd7{w:World}{A:Option Addr}{n:Nat}{xs:List Value}(h:Rd w A n xs)(o:Obj):Rd (w.alloc o) A n xs:=h.below ((wai _ w).alloc (wah _) o)
theorem qb9{w:World}{A:Option Addr}{n:Nat}{xs:List Value}(h:Rd w A n xs):Rd w.drew A n xs:=h
theorem q12{W:World}{H:Nat}(hH:W.heap.size=H)(xs:List Value)(t:TypeId)(fr:Nat×Nat):Rd (W.alloc (.cells xs.toArray t fr)) (some ⟨H,0,none⟩) xs.length xs:=by
 subst hH;refine⟨rfl,λ_=>⟨_,rfl,λj u hu=>?_⟩⟩;have e:(⟨W.heap.size,0,none⟩:Addr).add j=⟨W.heap.size,j,none⟩:=by
  cases j with
  |zero=>rfl
  |succ j=>simp[Addr.add]
 rw[e,World.cell?_alloc_mark,wcd];exact hu
theorem qb3{W:World}{H n:Nat}{C:Array Value}{xs:List Value}{t:TypeId}(hC:C=xs.toArray)(hn:xs.length=n)(hH:W.heap.size=H):Rd (W.alloc (.cells C t)) (some ⟨H,0,none⟩) n xs:=by subst hC hn;exact q12 hH xs t (0,0)
structure Upd (F:Nat->Prop) (w w':World):Prop where
 os:w'.os=w.os
 tape:w'.tape=w.tape
 output:w'.output=w.output
 size:w.heap.size<=w'.heap.size
 block:∀k,k<w.heap.size->¬F k->w'.heap[k]? =w.heap[k]?
section
variable {F G:Nat->Prop} {a w w':World}
theorem Upd.refl(F:Nat->Prop)(w:World):Upd F w w:=⟨rfl,rfl,rfl,wah _,λ_ _ _=>rfl⟩
theorem Upd.trans{b c:World}(h:Upd F a b)(k:Upd F b c):Upd F a c:=
 ⟨k.os.trans h.os,k.tape.trans h.tape,k.output.trans h.output,wam h.size k.size,λi hi hn=>(k.block i (wak hi h.size) hn).trans (h.block i hi hn)⟩
theorem Upd.mono(h:Upd F w w')(hG:∀k,F k->G k):Upd G w w':=⟨h.os,h.tape,h.output,h.size,λk hk hn=>h.block k hk (λhf=>hn (hG k hf))⟩
theorem Upd.of_below{B:Nat}(h:Below B w w')(hB:w.heap.size<=B):Upd F w w':=⟨h.os,h.tape,h.output,h.size,λk hk _=>h.block k (wak hk hB)⟩
theorem Upd.below{B:Nat}(h:Upd F w w')(hF:∀k,F k->B<=k)(hB:B<=w.heap.size):Below B w w':=⟨h.os,h.tape,h.output,h.size,λk hk=>h.block k Zo (λhf=>by have:=hF k hf;omega)⟩
theorem Upd.drew(h:Upd F a w):Upd F a w.drew:=⟨h.os,h.tape,h.output,h.size,h.block⟩
theorem Upd.drewN(h:Upd F a w)(t:Nat):Upd F a (w.drewN t):=⟨h.os,h.tape,h.output,h.size,h.block⟩
theorem Upd.alloc(h:Upd F a w)(o:Obj):Upd F a (w.alloc o):=h.trans (.of_below ((wai _ w).alloc (wah _) o) (wah _))
theorem Upd.setCell(h:Upd F a w){p:Addr}(hp:F p.block\/a.heap.size<=p.block)(u:Value):Upd F a (w.setCell p u):=
 ⟨h.os,h.tape,h.output,by simp[World.setCell];exact h.size,λk hk hn=>(wa5 _ _ _ _ (λe=>by rcases hp with hp|hp;exact hn (e▸hp);omega)).trans (h.block k hk hn)⟩
theorem Upd.grown{row:Option Nat}(h:Upd F a w)(hg:w.grownBy w' row)(hr:∀k,row=some k->F k\/a.heap.size<=k):Upd F a w':=
 ⟨hg.os.trans h.os,hg.tape.trans h.tape,hg.output.trans h.output,wam h.size hg.size,λk hk hn=>(hg.block k (wak hk h.size) (λe=>by rcases hr k e.symm with hf|hf;exact hn hf;omega)).trans (h.block k hk hn)⟩
theorem Upd.cell(h:Upd F w w'){p:Addr}(hp:p.block<w.heap.size)(hF:¬F p.block):w'.cell? p=w.cell? p:=wee (w:=w) (h.block p.block hp hF)
theorem Upd.after{F G:Nat->Prop}{a b c:World}(h:Upd F a b)(k:Upd G b c)(hG:∀j,G j->F j\/a.heap.size<=j):Upd F a c:=
 ⟨k.os.trans h.os,k.tape.trans h.tape,k.output.trans h.output,wam h.size k.size,λi hi hn=>(k.block i (wak hi h.size) (λe=>by rcases hG i e with f|f;exact hn f;omega)).trans (h.block i hi hn)⟩
end
theorem qa1{w w':World}{base size n:Nat}{e:TypeId}{v:Value}{xs:List Value}(h:w.ownsRow base e size v n xs)(hb:Below w.heap.size w w'):w'.ownsRow base e size v n xs:=
 h.kept (row:=none) ⟨hb.os,hb.tape,hb.output,hb.size,λk hk _=>hb.block k hk⟩ (by cases h':v.ownBlock<;>simp)
theorem qbb{w:World}{b base size n:Nat}{e:TypeId}{v:Value}{xs:List Value}(h:w.ownsRow base e size v n xs)(hb:b<=base):w.ownsRow b e size v n xs:=
 ⟨h.1,h.2.imp id (λ⟨g,cap,cur,h1,h2,r⟩=>⟨g,cap,cur,h1,wam hb h2,r⟩)⟩
theorem qdj{W:World}{H:Nat}(hH:W.heap.size=H){C:Array Value}(xs:List Value)(hC:C=xs.toArray)(t:TypeId):∀j u,xs[j]? =some u->(W.alloc (.cells C t)).cell? ((⟨H,0,none⟩:Addr).add j)=some u:=by
 subst hH hC;intro j u hu;exact World.news_of_block (World.alloc_heap_new W _) j u (by simpa using hu)
theorem qad{V:World}{H:Nat}(hH:V.heap.size=H)(C:Array Value)(t:TypeId):(V.alloc (.cells C t)).heap[H]? =some (.cells C t (0,0)):=by subst hH;exact World.alloc_heap_new V _
theorem qag{V:World}{b:Nat}{C:Array Value}{t:TypeId}{fr:Nat×Nat}(h:V.heap[b]? =some (.cells C t fr))(o:Obj):(V.alloc o).heap[b]? =some (.cells C t fr):=(wbc V o b (waj.1 h).1).trans h
theorem qds{V V':World}{b B:Nat}{C:Array Value}{t:TypeId}{fr:Nat×Nat}(h:V.heap[b]? =some (.cells C t fr))(hb:Below B V V')(hB:b<B):V'.heap[b]? =some (.cells C t fr):=(hb.block b hB).trans h
theorem qao{W:World}{B:Nat}{C:Array Value}{t e:TypeId}{fr:Nat×Nat}(h:W.heap[B]? =some (.cells C t fr))(hte:t≠e){base size k:Nat}{v:Value}{xs:List Value}(hr:W.ownsRow base e size v k xs):some B≠v.ownBlock:=by
 rcases hr.2 with ⟨rfl,_⟩|⟨g,cap,cur,rfl,_,hgb,_⟩
 ·simp[Value.ownBlock]
 ·intro e'
  obtain rfl:B=g:=by simpa[Value.ownBlock] using e'
  have:=h.symm.trans hgb
  simp at this
  exact hte this.2.1
theorem qrw(t:Nat):madeCells #[Value.int .u64 0] t=(u64V (List.replicate t 0)).toArray:=by
 apply Array.ext'
 apply wa2
 intro j;by_cases hj:j<t
 ·simp[madeCells,u64V,hj,Nat.mod_one]
 ·simp[madeCells,u64V,hj]
theorem qjh(t:Nat)(ht:t<=2000)(w:World):(Instr.makeSlice 22 (.int .i64 (t:Int)) (.int .i64 (t:Int))).run Tryz.prog w= .ok (.slice (some ⟨w.heap.size,0,none⟩) t t) (w.alloc (.cells (u64V (List.replicate t 0)).toArray 40)):=by
 obtain⟨i,hi,hz,hs,hb⟩:=info_parts qe1;have h:=run_makeSlice (P:=Tryz.prog) w 22 40 i _ wbq hi hz .i64 .i64 (t:Int) (t:Int) Zo (wcz _) (by rw[hs,wao];omega) (by rw[hb];omega) Zo;rw[hs,wao,wbr] at h;rw[h,<-qrw];rfl
theorem qr2{w:World}{base n:Nat}{e:TypeId}{v:Value}{xs:List Value}(h:w.ownsRow base e 1 v n xs):∃A cap,v= .slice A n cap/\n<=cap/\Rd w A n xs:=by
 obtain⟨A,cap,rfl,hR⟩:=Rd.of_own h;rcases h.2 with ⟨h1,h2⟩|⟨g,cap',cur,h1,_,_,hn,_⟩
 ·injection h1 with _ _ h3
  exact⟨A,cap,rfl,Zo,hR⟩
 ·injection h1 with _ _ h3
  exact⟨A,cap,rfl,Zo,hR⟩
theorem qsk{W:World}{b1 b2 s1 s2 n1 n2:Nat}{e1 e2:TypeId}{u v:Value}{xs ys:List Value}(h1:W.ownsRow b1 e1 s1 u n1 xs)(h2:W.ownsRow b2 e2 s2 v n2 ys)(hne:e1≠e2):u.ownBlock=none\/u.ownBlock≠v.ownBlock:=by
 rcases h1.2 with ⟨rfl,_⟩|⟨g,cap,cur,rfl,_,hg,_⟩
 ·exact .inl rfl
 ·exact .inr (λe=>qao hg hne h2 (by rw[<-e];rfl))
theorem qaq{W:World}{a b:Nat}{C C':Array Value}{t t':TypeId}{fr fr':Nat×Nat}(h:W.heap[a]? =some (.cells C t fr))(h':W.heap[b]? =some (.cells C' t' fr'))(hne:t≠t'):a≠b:=λe=>by
 subst e;rw[h] at h';injection h' with h';injection h' with h1 h2;exact hne h2
theorem qtf:(Tryz.prog.info? 324).map (λi=>(i.zero,i.size,i.bytes))=some (some (.agg #[.int .u64 0,.nilIface]),2,24):=by kernel_rfl
def qd3(l:List Nat):List Value:=l.flatMap λ(x:Nat)=>[.int .u64 (x:Int),.nilIface]
theorem qsb(l:List Nat)(x:Nat):qd3 (l++[x])=qd3 l++[.int .u64 (x:Int),.nilIface]:=by simp[qd3]
theorem qxs{l:List Nat}{j x:Nat}(h:l[j]? =some x):(qd3 l)[j*2]? =some (.int .u64 (x:Int))/\(qd3 l)[j*2+1]? =some .nilIface:=by
 induction l generalizing j with
 |nil=>simp at h
 |cons e r ih=>
  have e1:qd3 (e::r)= .int .u64 (e:Int):: .nilIface::qd3 r:=rfl;rw[e1];cases j with
  |zero=>
   simp at h
   subst h;exact⟨rfl,rfl⟩
  |succ j=>
   rw[List.getElem?_cons_succ] at h;have h':=ih h;rw[show(j+1)*2=j*2+1+1 by omega];simpa using h'
def RnP(w:World)(X rp tp:Nat)(who:Int)(df lv:Value)(l:List Nat)(ov:Bool)(an:Value):Prop:=
 w.heap[X]? =some (.cells #[.pointer (some ⟨rp,0,none⟩),.pointer (some ⟨tp,0,none⟩),.int .i64 who,df,lv,.bool ov,an] 97 (0,0))/\w.ownsRow (X+1) 324 2 lv l.length (qd3 l)
def runV(o:Option Nat):Value:= .pointer (o.map λX=>⟨X,0,none⟩)
def EvR(w:World)(eb:Nat)(o:Option Nat)(who:Int)(i:Nat)(fs:Value)(st bl:Bool):Prop:=
 w.heap[eb]? =some (.cells #[runV o,.int .i64 who,.int .i64 (i:Int),fs,.bool st,.bool bl] 161 (0,0))
def FsR(w:World)(fs:Value)(X:Nat)(fuse:Int)(bef:Nat)(a b c:Nat):Prop:=
 fs= .func (.func 129) #[] #[.pointer (some ⟨a,0,none⟩),.pointer (some ⟨b,0,none⟩),.pointer (some ⟨c,0,none⟩)]/\
  Boxed w a 3 (.int .i64 fuse)/\Boxed w b 48 (.pointer (some ⟨X,0,none⟩))/\Boxed w c 3 (.int .i64 (bef:Int))
def qa0(fuse:Int)(bef n:Nat):Bool:=decide (0<=fuse)&&decide (fuse<=(n:Int) - (bef:Int))
def qbs(eb:Nat):List PanicEntry:=[{v:= .iface 163 (.agg #[.pointer (some ⟨eb,0,none⟩)]),recovered:=false}]
def qg7(G:Nat->Prop)(Q:World->Prop):Prop:=∀V V',Q V->Upd G V V'->Q V'
section
variable {w w':World} {X rp tp:Nat} {who:Int} {df lv an:Value} {l:List Nat} {ov:Bool} {G:Nat->Prop}
theorem RnP.lt(h:RnP w X rp tp who df lv l ov an):X<w.heap.size:=(waj.1 h.1).1
theorem RnP.row_lt(h:RnP w X rp tp who df lv l ov an){g:Nat}(hg:lv.ownBlock=some g):X<g/\g<w.heap.size:=by
 have:=h.2.lt g hg
 omega
theorem qa5{base size n:Nat}{e:TypeId}{v:Value}{xs:List Value}(h:w.ownsRow base e size v n xs)(hu:Upd G w w')(hG:∀k,v.ownBlock=some k->¬G k):w'.ownsRow base e size v n xs:=by
 rcases h with ⟨e1,e2⟩
 refine⟨e1,?_⟩;rcases e2 with e2|⟨g,c,cur,rfl,hb,hg,r⟩
 ·exact .inl e2
 ·exact .inr ⟨g,c,cur,rfl,hb,(hu.block g (waj.1 hg).1 (hG g rfl)).trans hg,r⟩
theorem RnP.upd(h:RnP w X rp tp who df lv l ov an)(hu:Upd G w w')(h1:¬G X)(h2:∀k,lv.ownBlock=some k->¬G k):RnP w' X rp tp who df lv l ov an:=
 ⟨(hu.block X h.lt h1).trans h.1,qa5 h.2 hu h2⟩
theorem RnP.cells(h:RnP w X rp tp who df lv l ov an):w.cell? ⟨X,0,none⟩=some (.pointer (some ⟨rp,0,none⟩))/\w.cell? ⟨X,1,none⟩=some (.pointer (some ⟨tp,0,none⟩))/\w.cell? ⟨X,2,none⟩=some (.int .i64 who)/\
  w.cell? ⟨X,3,none⟩=some df/\w.cell? ⟨X,4,none⟩=some lv/\w.cell? ⟨X,5,none⟩=some (.bool ov)/\w.cell? ⟨X,6,none⟩=some an/\∀j,w.frozen? ⟨X,j,none⟩=false:=
 ⟨by rw[qab h.1];rfl,by rw[qab h.1];rfl,by rw[qab h.1];rfl,by rw[qab h.1];rfl,by rw[qab h.1];rfl,by rw[qab h.1];rfl,by rw[qab h.1];rfl,λj=>qah h.1 j⟩
theorem RnP.log(h:RnP w X rp tp who df lv l ov an){j x:Nat}(hj:l[j]? =some x):∃g c,lv= .slice (some ⟨g,0,none⟩) l.length c/\w.cell? ⟨g,j*2,none⟩=some (.int .u64 (x:Int))/\w.cell? ⟨g,j*2+1,none⟩=some .nilIface:=by
 have hjl:j<l.length:=(was.1 hj).1;obtain⟨h1,h2⟩:=qxs hj;obtain⟨e1,e2⟩:=h.2;rcases e2 with ⟨_,e2⟩|⟨g,c,cur,rfl,hb,hg,hn,hc,hs,ht⟩
 ·omega
 ·refine⟨g,c,rfl,?_,?_⟩
  ·rw[qab hg,<-wbm,<-h1,<-ht,waw,if_pos Zo]
  ·rw[qab hg,<-wbm,<-h2,<-ht,waw,if_pos Zo]
theorem RnP.logv(h:RnP w X rp tp who df lv l ov an):∃A c,lv= .slice A l.length c:=by
 obtain⟨e1,e2⟩:=h.2;rcases e2 with ⟨rfl,e2⟩|⟨g,c,cur,rfl,_⟩
 ·exact⟨none,0,by rw[e2]⟩
 ·exact⟨_,c,rfl⟩
variable {eb i:Nat} {o:Option Nat} {fs:Value} {st bl:Bool}
theorem EvR.lt(h:EvR w eb o who i fs st bl):eb<w.heap.size:=(waj.1 h).1
theorem EvR.upd(h:EvR w eb o who i fs st bl)(hu:Upd G w w')(h1:¬G eb):EvR w' eb o who i fs st bl:=(hu.block eb h.lt h1).trans h
theorem EvR.cells(h:EvR w eb o who i fs st bl):w.cell? ⟨eb,0,none⟩=some (runV o)/\w.cell? ⟨eb,1,none⟩=some (.int .i64 who)/\w.cell? ⟨eb,2,none⟩=some (.int .i64 (i:Int))/\
  w.cell? ⟨eb,3,none⟩=some fs/\w.cell? ⟨eb,4,none⟩=some (.bool st)/\w.cell? ⟨eb,5,none⟩=some (.bool bl)/\∀j,w.frozen? ⟨eb,j,none⟩=false:=
 ⟨by rw[qab h];rfl,by rw[qab h];rfl,by rw[qab h];rfl,by rw[qab h];rfl,by rw[qab h];rfl,by rw[qab h];rfl,λj=>qah h j⟩
theorem EvR.run(h:EvR w eb o who i fs st bl)(o':Option Nat):EvR (w.setCell ⟨eb,0,none⟩ (runV o')) eb o' who i fs st bl:=qaj h 0 _
theorem EvR.at(h:EvR w eb o who i fs st bl)(i':Nat):EvR (w.setCell ⟨eb,2,none⟩ (.int .i64 (i':Int))) eb o who i' fs st bl:=qaj h 2 _
theorem EvR.stop(h:EvR w eb o who i fs st bl)(b:Bool):EvR (w.setCell ⟨eb,4,none⟩ (.bool b)) eb o who i fs b bl:=qaj h 4 _
theorem EvR.block(h:EvR w eb o who i fs st bl)(b:Bool):EvR (w.setCell ⟨eb,5,none⟩ (.bool b)) eb o who i fs st b:=qaj h 5 _
theorem qf5{G:Nat->Prop}{p:Addr}(hp:G p.block)(v:Value):Upd G w (w.setCell p v):=(Upd.refl G w).setCell (.inl hp) v
theorem qac{b:Nat}{t:TypeId}{v:Value}(h:Boxed w b t v)(hu:Upd G w w')(h1:¬G b):Boxed w' b t v:=(hu.block b h.lt h1).trans h
variable {fuse:Int} {bef a b c:Nat}
theorem FsR.upd(h:FsR w fs X fuse bef a b c)(hu:Upd G w w')(h1:¬G a)(h2:¬G b)(h3:¬G c):FsR w' fs X fuse bef a b c:=
 ⟨h.1,qac h.2.1 hu h1,qac h.2.2.1 hu h2,qac h.2.2.2 hu h3⟩
theorem RnP.told{w4:World}{g c y:Nat}(h:RnP w X rp tp who df lv l ov an){O:Obj}(hown:w4.ownsRow (X+1) 324 2 (.slice (some ⟨g,0,none⟩) (l.length+1) c) (l.length+1) (qd3 l++[.int .u64 (y:Int),.nilIface]))(hgrow:(w.alloc O).grownBy w4 lv.ownBlock):
  w4.heap[X]? =w.heap[X]?/\RnP (w4.setCell ⟨X,4,none⟩ (.slice (some ⟨g,0,none⟩) (l.length+1) c)) X rp tp who df (.slice (some ⟨g,0,none⟩) (l.length+1) c) (l++[y]) ov an/\
  Upd (λk=>k=X\/lv.ownBlock=some k) w (w4.setCell ⟨X,4,none⟩ (.slice (some ⟨g,0,none⟩) (l.length+1) c)):=by
 have hX:=h.lt;have hx4:w4.heap[X]? =w.heap[X]?:=
  (hgrow.block X Zx (λe=>by have:=h.row_lt e.symm;omega)).trans (wbc _ _ _ hX)
 have hx5:=hx4.trans h.1;refine⟨hx4,⟨by rw[qaj hx5];rfl,?_⟩,(((Upd.refl _ w).alloc O).grown hgrow (λk hk=> .inl (.inr hk))).setCell (p:=⟨X,4,none⟩) (.inl (.inl rfl)) _⟩;rw[wbh,wc0,qsb];exact hown.kept (qd2 w4 ⟨X,4,none⟩ _) (.inr (λe=>by injection e with e;have:=(hown.lt g rfl).1;simp at e;omega))
end
end Go.Proofs.YtgjhkafggagniaaGreat
