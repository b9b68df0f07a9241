/- Parts. No condition. -/
import Derived.Test.YtocncmbeinmiaaaGreatJoinU28
set_option linter.unusedVariables false
set_option maxRecDepth 100000
set_option maxHeartbeats 8000000
namespace Go.Proofs.YtocncmbeinmiaaaGreat
open Go Go.RowKit
section
variable {rt:List Nat} {kd kd':Nat->List Nat} {ob ob':Nat->Option LV} {L:List LV}
end
section
variable {s l r:Int} {hs:List HD} {ws:List Nat} {L:List LV}
def qmv(ws v u:List Nat):Prop:=u.length=ws.length/\∀i:Nat,u[i]? =ws[i]?\/u[i]? =v[i]?
end
def unl:List Nat->List Nat->List Nat
 |L,[]=>L
 |L,x::r=>if x∈L then unl L r else unl (L++[x]) r
def qac2(l:List Nat)(x:Nat)(w:World)(e:Ending)(w':World):Prop:=∃i:Int,(0<=i↔x∈l)/\e= .returned (.int .i64 i)/\w=w'
def Pick(w0 w:World)(bn bl k:Nat)(A:Option Addr)(len cap:Nat)(L:List Int):Prop:=
 Boxed w bn 3 (.int .i64 (k:Int))/\Boxed w bl 65 (.slice A len cap)/\Rd w0 A len (i64V L)/\Below w0.heap.size w0 w/\w0.heap.size<=bn/\bn≠bl/\len<=9223372036854775807
theorem Pick.told{w0 w:World}{bn bl k k':Nat}{A:Option Addr}{len cap:Nat}{L:List Int}(h:Pick w0 w bn bl k A len cap L):Pick w0 (w.setCell ⟨bn,0,none⟩ (.int .i64 (k':Int))) bn bl k' A len cap L:=by
 obtain⟨h1,h2,h3,h4,h5,h6,h7⟩:=h;exact⟨h1.set _,h2.kept (qbb w ⟨bn,0,none⟩ _) Zx,h3,h4.setCell (p:=⟨bn,0,none⟩) h5 _,h5,h6,h7⟩
theorem Pick.below{w0 w w':World}{bn bl k:Nat}{A:Option Addr}{len cap:Nat}{L:List Int}(h:Pick w0 w bn bl k A len cap L)(hb:Below w.heap.size w w'):Pick w0 w' bn bl k A len cap L:=by
 obtain⟨h1,h2,h3,h4,h5,h6,h7⟩:=h;exact⟨(hb.block bn h1.lt).trans h1,(hb.block bl h2.lt).trans h2,h3,h4.trans (hb.mono h4.size),h5,h6,h7⟩
theorem Pick.kept{w0 w w':World}{b bn bl k:Nat}{A:Option Addr}{len cap:Nat}{L:List Int}(h:Pick w0 w bn bl k A len cap L)(hg:w.grownBy w' (some b))(hb:w0.heap.size<=b)(h1:b≠bn)(h2:b≠bl):Pick w0 w' bn bl k A len cap L:=by
 obtain⟨a1,a2,a3,a4,a5,a6,a7⟩:=h;exact⟨a1.kept hg Zx,a2.kept hg Zx,a3,a4.grown hg a4.size (λk hk=>by injection hk with hk;omega),a5,a6,a7⟩
def Told(bn k len:Nat)(w:World)(e:Ending)(w':World):Prop:=∃(i:Int) (k':Nat),Hid (k'=k+1)/\Hid (len<=k->i=0)/\e= .returned (.int .i64 i)/\w'=w.setCell ⟨bn,0,none⟩ (.int .i64 (k':Int))
def qacq(bn k len:Nat)(l:List Nat)(w:World)(e:Ending)(w':World):Prop:=
 ∃(x k':Nat),x∈l/\(len=0->l[0]? =some x)/\k'<=k+1/\e= .returned (.int .u64 (x:Int))/\w'=w.setCell ⟨bn,0,none⟩ (.int .i64 (k':Int))
end Go.Proofs.YtocncmbeinmiaaaGreat
namespace Go.Proofs.YtocncmbeinmiaaaGreat
open Go Go.RowKit
open Go.Maps (Keyed)
def Crashed(z:Prop)(n:Nat)(S K:List Nat)(f:Nat->Option (List Nat))(L:List Nat):Prop:=
 L.length=n*8/\(∀i,i<n*8->L[i]? =K[i]?\/L[i]? =S[i]?\/∃l,f (i/8)=some l/\L[i]? =l[i%8]?)/\(z->L=K)
theorem Crashed.start{z:Prop}{n:Nat}{S K:List Nat}{f:Nat->Option (List Nat)}(h:K.length=n*8):Crashed z n S K f K:=⟨h,λ_ _=> .inl rfl,λ_=>rfl⟩
theorem qabf{K:List Nat}{a x:Nat}(h:K[a]? =some x):K.set a x=K:=by
 apply wa3
 intro i;by_cases e:a=i
 ·subst e;rw[wb3 (wan.1 h).1,h]
 ·rw[wbe e]
theorem Crashed.set{z:Prop}{n a x:Nat}{S K L:List Nat}{f:Nat->Option (List Nat)}(h:Crashed z n S K f L)(ha:a<n*8)(hx:K[a]? =some x\/S[a]? =some x\/∃l,f (a/8)=some l/\l[a%8]? =some x)(hz:z->K[a]? =some x):Crashed z n S K f (L.set a x):=by
 refine⟨by rw[wb1];exact h.1,λi hi=>?_,λhzz=>by rw[h.2.2 hzz];exact qabf (hz hzz)⟩;by_cases e:a=i
 ·subst e
  rw[wb3 (by rw[h.1];exact ha)];rcases hx with hx|hx|⟨l,h1,h2⟩
  ·exact .inl hx.symm
  ·exact .inr (.inl hx.symm)
  ·exact .inr (.inr ⟨l,h1,h2.symm⟩)
 ·rw[wbe e]
  exact h.2.1 i hi
theorem qpg{w w':World}{base g n cap:Nat}{e:TypeId}{xs:List Value}(h:w.ownsRow base e 8 (.slice (some ⟨g,0,none⟩) n cap) n xs)(hb:Below w.heap.size w w'):w'.ownsRow base e 8 (.slice (some ⟨g,0,none⟩) n cap) n xs:=qa5 h (hb.block g (qcs h).2)
def CI(w0 w W:World)(p n c gs cs gk ck m:Nat)(st:Int)(D:DataW Value)(S K:List Nat)(f:Nat->Option (List Nat))(gl cl bn bl k:Nat)(A:Option Addr)(len cap:Nat)(T:List Int)(L:List Nat):Prop:=
 RegAt W w0.heap.size p n c gs cs gk ck m st D S K f/\W.ownsRow w.heap.size 101 8 (.slice (some ⟨gl,0,none⟩) n cl) n (u64V L)/\Crashed (len=0) n S K f L/\Pick w0 W bn bl k A len cap T/\Below w0.heap.size w W
theorem qmz{w0 W:World}{base p n c gs cs gk ck m:Nat}{st:Int}{D:DataW Value}{S K:List Nat}{f:Nat->Option (List Nat)}{b:Nat}{t:TypeId}{v:Value}(h:RegAt W base p n c gs cs gk ck m st D S K f)(hb:Boxed W b t v)(ht:t≠101):b≠p/\b≠gs/\b≠gk/\b≠m:=by
 have hb':W.heap[b]? =some (.cells #[v] t (0,0)):=hb;obtain⟨_,_,_,_,_,_,_,hp,hs,hk,⟨es,clock,hm,_⟩,_⟩:=h;refine⟨λe=>?_,λe=>?_,λe=>?_,λe=>?_⟩
 ·rw[e,hp] at hb';simp at hb'
 ·obtain⟨_,e2⟩:=hs
  rcases e2 with ⟨e2,_⟩|⟨g,cap,cur,a1,a2,a3,a4⟩
  ·cases e2
  ·injection a1 with a1;injection a1 with a1;injection a1 with a1
   rw[<-a1,<-e,hb'] at a3;simp at a3
   exact ht a3.2
 ·obtain⟨_,e2⟩:=hk
  rcases e2 with ⟨e2,_⟩|⟨g,cap,cur,a1,a2,a3,a4⟩
  ·cases e2
  ·injection a1 with a1;injection a1 with a1;injection a1 with a1
   rw[<-a1,<-e,hb'] at a3;simp at a3
   exact ht a3.2
 ·rw[e,hm] at hb';cases hb'
section
variable {w0 w W:World} {p n c gs cs gk ck m:Nat} {st:Int} {D:DataW Value} {S K:List Nat} {f:Nat->Option (List Nat)} {gl cl bn bl k:Nat} {A:Option Addr} {len cap:Nat} {T:List Int} {L:List Nat}
theorem CI.below{W':World}(h:CI w0 w W p n c gs cs gk ck m st D S K f gl cl bn bl k A len cap T L)(hb:Below W.heap.size W W'):CI w0 w W' p n c gs cs gk ck m st D S K f gl cl bn bl k A len cap T L:=by
 obtain⟨h1,h2,h3,h4,h5⟩:=h;exact⟨h1.below hb,qpg h2 hb,h3,h4.below hb,h5.trans (hb.mono h4.2.2.2.1.size)⟩
theorem CI.kept{W':World}{b:Nat}(h:CI w0 w W p n c gs cs gk ck m st D S K f gl cl bn bl k A len cap T L)(hg:W.grownBy W' (some b))(hb:w0.heap.size<=b)(h1:b≠p)(h2:b≠gs)(h3:b≠gk)(h4:b≠m)(h5:b≠gl)(h6:b≠bn)(h7:b≠bl):CI w0 w W' p n c gs cs gk ck m st D S K f gl cl bn bl k A len cap T L:=by
 obtain⟨a1,a2,a3,a4,a5⟩:=h;exact⟨a1.kept hg h1 h2 h3 h4,qa5 a2 (hg.block gl (qcs a2).2 (λe=>h5 (by injection e with e;exact e.symm))),a3,a4.kept hg hb h6 h7,a5.grown hg a4.2.2.2.1.size (λk hk=>by injection hk with hk;omega)⟩
theorem qlj{w:World}{base g n cap b:Nat}{t:TypeId}{v:Value}{xs:List Value}(h:w.ownsRow base 101 8 (.slice (some ⟨g,0,none⟩) n cap) n xs)(hb:Boxed w b t v)(ht:t≠101):b≠g:=λe=>by
 have hb':w.heap[b]? =some (.cells #[v] t (0,0)):=hb;obtain⟨_,e2⟩:=h;rcases e2 with ⟨e2,_⟩|⟨g,cap,cur,a1,a2,a3,a4⟩
 ·cases e2
 ·injection a1 with a1;injection a1 with a1;injection a1 with a1
  rw[<-a1,<-e,hb'] at a3;simp at a3
  exact ht a3.2
theorem CI.apart(h:CI w0 w W p n c gs cs gk ck m st D S K f gl cl bn bl k A len cap T L):(bn≠p/\bn≠gs/\bn≠gk/\bn≠m/\bn≠gl)/\(bl≠p/\bl≠gs/\bl≠gk/\bl≠m/\bl≠gl):=by
 obtain⟨h1,h2,h3,h4,h5⟩:=h;have a:=qmz (w0:=w0) h1 h4.1 Zd;have b:=qmz (w0:=w0) h1 h4.2.1 Zd;exact⟨⟨a.1,a.2.1,a.2.2.1,a.2.2.2,qlj h2 h4.1 Zd⟩,b.1,b.2.1,b.2.2.1,b.2.2.2,qlj h2 h4.2.1 Zd⟩
theorem CI.told{k':Nat}(h:CI w0 w W p n c gs cs gk ck m st D S K f gl cl bn bl k A len cap T L):CI w0 w (W.setCell ⟨bn,0,none⟩ (.int .i64 (k':Int))) p n c gs cs gk ck m st D S K f gl cl bn bl k' A len cap T L:=by
 obtain⟨⟨b1,b2,b3,b4,b5⟩,_⟩:=h.apart;obtain⟨a1,a2,a3,a4,a5⟩:=h;have hg:=qbb W ⟨bn,0,none⟩ (.int .i64 (k':Int));exact⟨a1.kept hg b1 b2 b3 b4,qa5 a2 (hg.block gl (qcs a2).2 (λe=>b5 (by injection e with e;exact e.symm))),a3,a4.told,a5.setCell (p:=⟨bn,0,none⟩) a4.2.2.2.2.1 _⟩
theorem CI.left{a x:Nat}(h:CI w0 w W p n c gs cs gk ck m st D S K f gl cl bn bl k A len cap T L)(hw:p<w.heap.size/\gs<w.heap.size/\gk<w.heap.size/\m<w.heap.size)(hC:Crashed (len=0) n S K f (L.set a x))(hb:w0.heap.size<=w.heap.size):CI w0 w (W.setCell ⟨gl,a,none⟩ (.int .u64 (x:Int))) p n c gs cs gk ck m st D S K f gl cl bn bl k A len cap T (L.set a x):=by
 obtain⟨⟨_,_,_,_,b5⟩,_,_,_,_,b6⟩:=h.apart;obtain⟨a1,a2,a3,a4,a5⟩:=h;have hg:=qbb W ⟨gl,a,none⟩ (.int .u64 (x:Int));have hgl:=(qcs a2).1;have hst:=(a2.stored a (.int .u64 (x:Int))).1;rw[show(u64V L).set a (.int .u64 (x:Int))=u64V (L.set a x) by simp[u64V,List.map_set]] at hst;exact⟨a1.kept hg (by show gl≠p;omega) (by show gl≠gs;omega) (by show gl≠gk;omega) (by show gl≠m;omega),hst,hC,a4.kept hg (by show _<=gl;omega) (by show gl≠bn;omega) (by show gl≠bl;omega),a5.setCell (p:=⟨gl,a,none⟩) (by show _<=gl;omega) _⟩
end
end Go.Proofs.YtocncmbeinmiaaaGreat
