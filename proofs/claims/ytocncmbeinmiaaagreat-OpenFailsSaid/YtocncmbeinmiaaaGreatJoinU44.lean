/- Parts. No condition. -/
import Derived.Test.YtocncmbeinmiaaaGreatJoinU41
import Derived.Test.YtocncmbeinmiaaaGreatJoinU35
set_option linter.unusedVariables false
set_option maxRecDepth 100000
set_option maxHeartbeats 8000000
namespace Go.Proofs.YtocncmbeinmiaaaGreat
open Go Go.RowKit
theorem qjj(b:Nat):∀(vs:List Value) (o:Nat) (w:World),(w.setCells b o vs).heap.size=w.heap.size
 |[],_,_=>rfl
 |v::r,o,w=>by rw[World.setCells,qjj b r];simp[World.setCell]
theorem q4j{W:World}(xs:List Value)(t:TypeId):Rd (W.alloc (.cells xs.toArray t)) (some ⟨W.heap.size,0,none⟩) xs.length xs:=by
 refine⟨rfl,λ_=>⟨_,rfl,λj u hu=>?_⟩⟩;have e:(⟨W.heap.size,0,none⟩:Addr).add j=⟨W.heap.size,j,none⟩:=by
  cases j with
  |zero=>rfl
  |succ j=>simp[Addr.add]
 have hb:(W.alloc (.cells xs.toArray t)).heap[W.heap.size]? =some (.cells xs.toArray t (0,0)):=World.alloc_heap_new W _;rw[e,qaa hb,wcs];exact hu
end Go.Proofs.YtocncmbeinmiaaaGreat
namespace Go.Proofs.YtocncmbeinmiaaaGreat
open Go Go.RowKit
open Go.Maps (Keyed)
theorem q06(w:World):(zeroValue 101).run Tryz.prog w= .ok (qcd [0,0,0,0,0,0,0,0]) w:=by kernel_rfl
theorem q4x{w:World}{m c n i:Nat}{D:DataW Value}{f:Nat->Option (List Nat)}(hm:w.ownsMap Tryz.prog 3 qd1 m c D)(hD:Noted D n f)(hi:i<n)(hn:n<=2048):
  (Instr.lookup 95 (.map (some m)) (.int .i64 (i:Int)) true).run Tryz.prog w= .ok (.tuple #[qcd ((f i).getD [0,0,0,0,0,0,0,0]),.bool (f i).isSome]) w:=by
 obtain⟨v,ps,hrun,hv⟩:=hm.look_ok qk6 we1 (q06 w) (zd:= .held (qcd [0,0,0,0,0,0,0,0])) (zp:=[]) rfl (qxb (i:=i) Zo);obtain⟨_,_,h2,h3⟩:=hD;cases hf:f i with
 |none=>
  have hh:=h2 i hf;rw[Maps.atKey_of_not_has hh] at hv;have hv':v=qcd [0,0,0,0,0,0,0,0]:=by
   unfold qd1 at hv;injection hv with hv;injection hv with hv;injection hv
  rw[hrun,hh,hv'];rfl
 |some l=>
  obtain⟨_,_,_,hh,hat⟩:=h3 i l hf;rw[hat] at hv;have hv':v=qcd l:=by
   unfold qd1 at hv;injection hv with hv;injection hv with hv;injection hv
  rw[hrun,hh,hv'];rfl
theorem qg8{ops:Array Oper}{rest:List Oper}{o:Oper}{a:Act}{Q:Exit->Act->World->Prop}{w:World}{m c n:Nat}{i:Nat}{D:DataW Value}{f:Nat->Option (List Nat)}(hg:o.guard=none)(x y:Operand)(hop:o.op=Op.lookup 95 x y true)(hx:a.eval x= .map (some m))(hy:a.eval y= .int .i64 (i:Int))(hm:w.ownsMap Tryz.prog 3 qd1 m c D)(hD:Noted D n f)(hi:i<n)(hn:n<=2048)(hK:wpList Tryz.prog ops Q rest (a.put o.dst (.tuple #[qcd ((f i).getD [0,0,0,0,0,0,0,0]),.bool (f i).isSome])) w):wpList Tryz.prog ops Q (o::rest) a w:=by
 refine wpList_plain hg λK' hK'=>?_
 unfold Oper.wp;simp[execOp,hop,hx,hy,q4x hm hD hi hn,Result.andThen]
 exact hK' _ _ hK
section
variable {w:World} {base p n c:Nat} {S K:List Nat} {f:Nat->Option (List Nat)}
end
end Go.Proofs.YtocncmbeinmiaaaGreat
namespace Go.Proofs.YtocncmbeinmiaaaGreat
open Go Go.RowKit
theorem qwe:∀{n k i:Nat} {t:List HD},qdk k n t=true->i<n->∃h,t[i]? =some h/\h.1=3
 |0,_,_,_,_,h=>by omega
 |_+1,_,_,[],h,_=>by cases h
 |n+1,k,i,a::t,h,hi=>by
  rw[qeo,wce,decide_eq_true_eq] at h;cases i with
  |zero=>exact⟨a,rfl,h.1.1⟩
  |succ i=>
   obtain⟨x,hx,hk⟩:=qwe (n:=n) (i:=i) h.2 Zo;exact⟨x,by simpa using hx,hk⟩
theorem qpt{s l r:Int}{hs:List HD}(h:hdsB s l r hs=true){j:Nat}(hj:j<hs.length){b:BL}(hb:b∈qc6 s l r hs j):0<=b.1/\b.1<=4000/\0<=b.2.2.2/\b.2.2.2<=256/\qby s l r j<=b.1/\∃x,hs[j]? =some x/\hdB x=true/\whoB hs j=true/\b.1+b.2.2.2<=qby s l r j+adNb x*adWd x:=by
 obtain⟨h0,h1,h2⟩:=hdsB_iff.1 h;obtain⟨⟨s0,s1⟩,⟨l0,l1⟩,r0,r1⟩:=mayB_iff.1 h0;obtain⟨x,hx,hw,i,hi,rfl⟩:=qgm hb;have hm:=h2 x (waq hx);have hd:=qib hm;have hn:=qh9 x;have hp:=q9o hm hi hd.1;have hq:0<=(i:Int)*adWd x:=we3 Zo hd.1;have hsp:=qf1 (j:=j) h0 Zo;have hq2:adNb x*adWd x<=256:=by
  have hmm:=(hmay_iff (k:=x.1) (c:=x.2.1) (n:=x.2.2)).1 hm;by_cases hk:x.1=2
  ·obtain⟨a1,a2,a3,a4⟩:=qe8 hm hk
   rw[a1,a2];omega
  ·by_cases hk1:x.1=1
   ·have:=(qiv hm hk1).1
    omega
   ·exfalso
    have hd':hs.drop j=x::hs.drop (j+1):=by
     have:=wbc hj
     rw[waj hj] at hx;injection hx with hx;rw[hx] at this;exact this
    rw[qeb hd' hk1 hk] at hw;cases hw
 refine⟨?_,?_,hd.1,hd.2,?_,x,hx,hm,hw,?_⟩<;>simp only<;>omega
theorem qvr{s l r:Int}{hs:List HD}(h:hdsB s l r hs=true){j k:Nat}(hjk:j<k)(hk:k<hs.length){b c:BL}(hb:b∈qc6 s l r hs j)(hc:c∈qc6 s l r hs k):b.1+b.2.2.2<=c.1:=by
 obtain⟨h0,h1,h2⟩:=hdsB_iff.1 h;obtain⟨-,-,-,-,-,x,hx,hxm,hxw,b5⟩:=qpt h (show j<hs.length by omega) hb;obtain⟨-,-,-,-,c5,y,hy,hym,hyw,-⟩:=qpt h hk hc;have e1:=qf1 (j:=j) h0 Zo;have e2:=qf1 (j:=k) h0 Zo;have hdj:hs.drop j=x::hs.drop (j+1):=by
  have:=wbc (show j<hs.length by omega)
  rw[waj Zo] at hx;injection hx with hx;rw[hx] at this;exact this
 have hdk:hs.drop k=y::hs.drop (k+1):=by
  have:=wbc hk
  rw[waj hk] at hy;injection hy with hy;rw[hy] at this;exact this
 by_cases hk1:x.1=1
 ·have:=(qiv hxm hk1).1
  omega
 ·by_cases hk2:x.1=2
  ·obtain⟨a1,a2,a3,a4⟩:=qe8 hxm hk2
   rw[a1,a2] at b5;rw[qey hdj hk2] at hxw;by_cases hin:(k:Int)<(j:Int)+x.2.2
   ·exfalso
    obtain⟨z,hz,hz3⟩:=qwe (i:=k - (j+1)) hxw Zo;rw[wbd,show j+1+(k - (j+1))=k by omega,hy] at hz;injection hz with hz;subst hz;rw[qeb hdk Zo Zo] at hyw;cases hyw
   ·omega
  ·rw[qeb hdj hk1 hk2] at hxw
   cases hxw
theorem q1l{a sp wd:Int}(hw:0<=wd)(n:Nat):(bls a sp wd n).Pairwise λb c=>b.1+b.2.2.2<=c.1:=by
 induction n with
 |zero=>simp[bls]
 |succ n ih=>
  rw[qg7,wge];refine⟨ih,by simp,λb hb c hc=>?_⟩;obtain⟨i,hi,rfl⟩:=qwf hb;obtain rfl:=wbx.1 hc;have:((i:Int)+1)*wd<=(n:Int)*wd:=wef Zo hw
  rw[wdh,weg] at this;simp only
  omega
theorem qy8{s l r:Int}{hs:List HD}(h:hdsB s l r hs=true){n:Nat}(hn:n<=hs.length):(qas s l r hs n).Pairwise λb c=>b.1+b.2.2.2<=c.1:=by
 induction n with
 |zero=>simp[qas]
 |succ n ih=>
  rw[qdz,wge];refine⟨ih Zo,?_,λb hb c hc=>?_⟩
  ·unfold qc6
   split
   ·split
    ·rename_i x hx
     exact q1l (qib ((hdsB_iff.1 h).2.2 x (waq hx))).1 _
    ·simp
   ·simp
  ·obtain⟨j,hj,hb⟩:=qnc hb
   exact qvr h hj Zo hb hc
theorem qo0(s l r:Int)(hs:List HD):(qbd s l r hs).Pairwise λb c=>b.1+b.2.2.2<=c.1:=by
 cases h:hdsB s l r hs with
 |false=>rw[qg9 h];exact List.Pairwise.nil
 |true=>rw[qd9 h];exact qy8 h (wab _)
theorem qabq{l:Int}{hs:List HD}{ws:List Nat}{b:BL}{h':HD}(h1:hs[b.2.1.toNat]? =some h')(h2:hasB (ws.getD (hdAt l b.2.1.toNat+1) 0) b.2.2.1=true)(h3:objB (ws.getD b.1.toNat 0) h'=true):obB l hs ws b=some (lvOf (ws.getD b.1.toNat 0) b):=by
 unfold obB;rw[h1];exact if_pos ⟨h2,h3⟩
theorem q8u(s:Int):∀(n:Nat) (L:List LV),L.length=n->(∀o∈L,0<=o.sp/\o.sp<s/\0<=o.ix/\o.ix<32)->∀(j i:Nat),(j:Int)<s->(((mapF s L).getD j 0).testBit i=true↔∃o∈L,o.sp=(j:Int)/\o.ix=(i:Int)):=by
 intro n;induction n with
 |zero=>
  intro L hl h j i hj;obtain rfl:=wdu hl;have:(mapF s []).getD j 0=0:=by
   rw[mapF,List.foldl_nil,wax,wcu];split<;>rfl
  rw[this];simp
 |succ n ih=>
  intro L hl h j i hj;obtain⟨M,q,rfl⟩:∃M q,L=M++[q]:=by
   have hne:L≠[]:=λe=>by rw[e] at hl;cases hl
   exact⟨L.dropLast,L.getLast hne,(List.dropLast_concat_getLast hne).symm⟩
  have hM:M.length=n:=by rw[was,wca] at hl;omega
  have hi:=ih M hM (λo ho=>h o (whf _ ho)) j i hj;obtain⟨q0,q1,q2,q3⟩:=h q Zs;have hml:=qe4 s M;rw[qkm];by_cases hq:q.sp.toNat=j
  ·have e1:((mapF s M).set q.sp.toNat (qcy ((mapF s M)[q.sp.toNat]?.getD 0) q.ix)).getD j 0=qcy ((mapF s M).getD j 0) q.ix:=by
    rw[wax,wax,hq,wb3 Zo,wa8]
   rw[e1,qpi,wfn,hi,decide_eq_true_eq];constructor
   ·rintro(⟨o,ho,h1,h2⟩|⟨h1,h2⟩)
    ·exact⟨o,whf _ ho,h1,h2⟩
    ·exact⟨q,by simp,Zo,h1.symm⟩
   ·rintro⟨o,ho,h1,h2⟩
    rcases wa6.1 ho with ho|ho
    ·exact .inl ⟨o,ho,h1,h2⟩
    ·rw[wbx.1 ho] at h1 h2
     exact .inr ⟨h2.symm,Zo⟩
  ·have e1:((mapF s M).set q.sp.toNat (qcy ((mapF s M)[q.sp.toNat]?.getD 0) q.ix)).getD j 0=(mapF s M).getD j 0:=by
    rw[wax,wax,wbe hq]
   rw[e1,hi];constructor
   ·rintro⟨o,ho,h1,h2⟩
    exact⟨o,whf _ ho,h1,h2⟩
   ·rintro⟨o,ho,h1,h2⟩
    rcases wa6.1 ho with ho|ho
    ·exact⟨o,ho,h1,h2⟩
    ·rw[wbx.1 ho] at h1
     exact absurd Zo hq
theorem qz4{s l r:Int}{hs:List HD}{b c:BL}(hb:b∈qbd s l r hs)(hc:c∈qbd s l r hs)(h:b.1=c.1):b=c:=by
 have hp:=qo0 s l r hs;obtain⟨i,hi⟩:=wc0 hb;obtain⟨k,hk⟩:=wc0 hc;obtain⟨hi1,hi2⟩:=wan.1 hi;obtain⟨hk1,hk2⟩:=wan.1 hk;have hp':=web.1 hp;obtain⟨-,-,-,-,-,b5,-⟩:=qej hb;obtain⟨-,-,-,-,-,c5,-⟩:=qej hc;rcases Nat.lt_trichotomy i k with hlt|heq|hlt
 ·have:=hp' i k hi1 hk1 hlt
  rw[hi2,hk2] at this;omega
 ·subst heq
  rw[<-hi2,<-hk2]
 ·have:=hp' k i hk1 hi1 hlt
  rw[hi2,hk2] at this;omega
section
variable {s l r:Int} {hs:List HD} {ws:List Nat} {L:List LV}
theorem qvy(h:IsReach (rtL r ws) (kdO s l r hs ws) (obO s l r hs ws) L):∀o∈L,∃b∈qbd s l r hs,o.a=b.1/\o.sp=b.2.1/\o.ix=b.2.2.1:=by
 intro o ho;obtain⟨-,h2,q,e1,e2,e⟩:=h.each o ho;obtain⟨b,hbm,-,-,-,hq⟩:=qnj e1;exact⟨b,hbm,by rw[<-e2,hq];rfl,by rw[e,hq];rfl,by rw[e,hq];rfl⟩
end
end Go.Proofs.YtocncmbeinmiaaaGreat
namespace Go.Proofs.YtocncmbeinmiaaaGreat
open Go
theorem qnv{f g:Nat->List Nat}:∀{A:List Nat},(∀a∈A,f a=g a)->A.flatMap f=A.flatMap g
 |[],_=>rfl
 |a::A,h=>by rw[wc7,wc7,h a Zs,qnv (λb hb=>h b (by simp[hb]))]
section
variable {rt:List Nat} {kd kd':Nat->List Nat} {ob ob':Nat->Option LV} {L:List LV}
end
section
variable {s l r:Int} {hs:List HD} {ws:List Nat} {L:List LV} {a x:Nat}
end
end Go.Proofs.YtocncmbeinmiaaaGreat
namespace Go.Proofs.YtocncmbeinmiaaaGreat
open Go Go.RowKit
theorem qwg{f:Nat->Nat}{P:Nat->HD->Prop}:∀{n:Nat},(∀j,j<n->∃h,hdO (f j)=some h/\P j h)->∃l,hdsF f n=some l/\∀j,j<n->∃h,l[j]? =some h/\P j h
 |0,_=>⟨[],rfl,λj hj=>by omega⟩
 |n+1,h=>by
  obtain⟨l,h1,h2⟩:=qwg (n:=n) (λj hj=>h j Zo);obtain⟨x,h3,h4⟩:=h n Zo;have hl:=qe5 h1;refine⟨l++[x],qip h1 h3,λj hj=>?_⟩;by_cases hn:j=n
  ·subst hn
   exact⟨x,by rw[wbt Zo,hl,wcw];rfl,h4⟩
  ·obtain⟨y,g1,g2⟩:=h2 j Zo
   exact⟨y,by rw[wbk Zo];exact g1,g2⟩
theorem q7h{h:HD}(hm:hdB h=true):hdO (hwF h)=some h:=by
 obtain⟨a,b,c⟩:=qms hm;unfold hdO hwF;rw[a,b,c,if_pos ⟨hm,rfl⟩]
section
variable {rt:List Nat} {kd kd':Nat->List Nat} {ob ob':Nat->Option LV} {L:List LV}
theorem qzc(h:IsReach rt kd ob L)(hk:∀o∈L,kd' o.ad=kd o.ad)(ho:∀o∈L,∀q,ob o.ad=some q->∃q',ob' o.ad=some q'/\q'.a=q.a/\∀c,q'.withR c=q.withR c):IsReach rt kd' ob' L:=by
 have hmem:∀y,Reached rt kd y->kd' y=kd y:=λy hy=>by
  obtain⟨o,ho',rfl⟩:=h.all y hy;exact hk o ho'
 have hf:∀x,Reached rt kd x->Reached rt kd' x:=λx hx=>(hx.ind (P:=λx=>Reached rt kd x/\Reached rt kd' x) (λy hy h0=>⟨.root hy h0,.root hy h0⟩) (λy z h12 hz h0=>⟨.slot h12.1 hz h0,.slot h12.2 (by rw[hmem y h12.1];exact hz) h0⟩)).2
 have hb:∀x,Reached rt kd' x->Reached rt kd x:=λx hx=>hx.ind (P:=λx=>Reached rt kd x) (λy hy h0=> .root hy h0) (λy z h1 hz h0=> .slot h1 (by rw[<-hmem y h1];exact hz) h0)
 have hp:ptrs rt kd' (L.map LV.ad)=ptrs rt kd (L.map LV.ad):=by
  unfold ptrs;rw[qnv (f:=kd') (g:=kd) (λa ha=>by
   obtain⟨o,hoL,rfl⟩:=wav.1 ha;exact hk o hoL)]
 refine⟨h.rise,λo hoL=>?_,λx hx=>h.all x (hb x hx)⟩;obtain⟨h1,h2,q,h3,h4,h5⟩:=h.each o hoL;obtain⟨q',g1,g2,g3⟩:=ho o hoL q h3;exact⟨hf _ h1,h2,q',g1,g2.trans h4,by rw[hp,g3];exact h5⟩
end
theorem qmr:∀{n k:Nat} {t u:List HD},(∀i,i<n->u[i]? =t[i]?)->qdk k n u=qdk k n t
 |0,_,_,_,_=>by rw[qdk,qdk]
 |n+1,k,t,u,h=>by
  have h0:=h 0 Zo;cases t with
  |nil=>
   cases u with
   |nil=>rfl
   |cons b u=>simp at h0
  |cons a t=>
   cases u with
   |nil=>simp at h0
   |cons b u=>
    obtain rfl:b=a:=by simpa using h0
    rw[qeo,qeo,qmr (n:=n) (t:=t) (u:=u) (λi hi=>by simpa using h (i+1) Zo)]
theorem qwo{hs:List HD}{j:Nat}{h:HD}(hx:hs[j]? =some h):hs.drop j=h::hs.drop (j+1):=by
 obtain⟨a1,a2⟩:=wan.1 hx;rw[<-a2];exact wbc a1
theorem qrg{s l r:Int}{hs:List HD}{b c:BL}(hb:b∈qbd s l r hs)(hc:c∈qbd s l r hs):b=c\/b.1+b.2.2.2<=c.1\/c.1+c.2.2.2<=b.1:=by
 have hp:=qo0 s l r hs;obtain⟨i,hi⟩:=wc0 hb;obtain⟨k,hk⟩:=wc0 hc;obtain⟨hi1,hi2⟩:=wan.1 hi;obtain⟨hk1,hk2⟩:=wan.1 hk;have hp':=web.1 hp;rcases Nat.lt_trichotomy i k with hlt|heq|hlt
 ·have:=hp' i k hi1 hk1 hlt
  rw[hi2,hk2] at this;exact .inr (.inl this)
 ·subst heq
  exact .inl (by rw[<-hi2,<-hk2])
 ·have:=hp' k i hk1 hi1 hlt
  rw[hi2,hk2] at this;exact .inr (.inr this)
section
variable {s l r:Int} {hs:List HD} {ws:List Nat} {L:List LV}
theorem qsc(h:ToldL s l r ws hs L){i:Nat}(h1:∀j,j<s.toNat->i≠hdAt l j/\i≠hdAt l j+1)(h2:∀o∈L,i≠o.ad):(qck s l ws hs L)[i]? =ws[i]?:=by
 rcases qg0 h i with ⟨j,hj,e,-⟩|⟨j,hj,e,-⟩|⟨o,ho,e,-⟩|⟨e,-⟩
 ·exact absurd e (h1 j hj).1
 ·exact absurd e (h1 j hj).2
 ·exact absurd e (h2 o ho)
 ·exact e
theorem qpy(h:ToldL s l r ws hs L){j:Nat}(hj:j<s.toNat):(qck s l ws hs L)[hdAt l j]? =some (hwF ((qbt hs L hs.length)[j]?.getD (0,0,0))):=by
 obtain⟨hf,hl,-,hnd,ho⟩:=h.facts;have hb:=qaw hf;rcases qg0 h (hdAt l j) with ⟨k,hk,e,g⟩|⟨k,hk,e,-⟩|⟨o,hoL,e,-⟩|⟨-,e,-⟩
 ·obtain rfl:j=k:=by unfold hdAt at e;omega
  exact g
 ·unfold hdAt at e;omega
 ·have:=ho o hoL
  unfold hdAt at e;omega
 ·exact absurd rfl (e j hj).1
theorem qta(h:ToldL s l r ws hs L){j:Nat}(hj:j<s.toNat):(qck s l ws hs L)[hdAt l j+1]? =some ((mapF s L)[j]?.getD 0):=by
 obtain⟨hf,hl,-,hnd,ho⟩:=h.facts;have hb:=qaw hf;rcases qg0 h (hdAt l j+1) with ⟨k,hk,e,-⟩|⟨k,hk,e,g⟩|⟨o,hoL,e,-⟩|⟨-,e,-⟩
 ·unfold hdAt at e;omega
 ·obtain rfl:j=k:=by unfold hdAt at e;omega
  exact g
 ·have:=ho o hoL
  unfold hdAt at e;omega
 ·exact absurd rfl (e j hj).2
theorem qto(h:ToldL s l r ws hs L){o:LV}(hoL:o∈L):(qck s l ws hs L)[o.ad]? =some (obW o):=by
 obtain⟨hf,hl,-,hnd,ho⟩:=h.facts;have hb:=qaw hf;unfold qck;exact qwc hnd hoL (by rw[qhc];have:=ho o hoL;omega)
theorem qg5{u:List Nat}(h:ToldL s l r ws hs L)(hp:qmv ws (qck s l ws hs L) u){i:Nat}(h1:∀j,j<s.toNat->i≠hdAt l j/\i≠hdAt l j+1)(h2:∀o∈L,i≠o.ad):u[i]? =ws[i]?:=by
 rcases hp.2 i with e|e
 ·exact e
 ·rw[e,qsc h h1 h2]
theorem qxq{hs':List HD}(hd':hdsB s l r hs'=true)(hll:hs'.length=hs.length){o:LV}(hsame:∀j:Nat,inB (j:Int) o=true->hs'[j]? =hs[j]?){b:BL}(hb:b∈qbd s l r hs)(h1:o.sp=b.2.1)(h2:o.wd=b.2.2.2):b∈qbd s l r hs':=by
 obtain⟨hd,j,hj,hbj⟩:=qo3 hb;obtain⟨h,hx,hw,i,hi,rfl⟩:=qgm hbj;have hsp:o.sp=(j:Int):=h1;have hwd:o.wd=adWd h:=h2;have hx':hs'[j]? =some h:=by rw[hsame j (by unfold inB;rw[hsp];simp)];exact hx
 have hm:=(hdsB_iff.1 hd).2.2 h (waq hx);have hw':whoB hs' j=true:=by
  have d:=qwo hx;have d':=qwo hx';by_cases k1:h.1=1
  ·exact qgo d' k1
  ·by_cases k2:h.1=2
   ·rw[qey d k2] at hw
    rw[qey d' k2,<-hw];obtain⟨a1,a2,a3,a4⟩:=qe8 hm k2;refine qmr λt ht=>?_
    rw[wbd,wbd];refine hsame (j+1+t) ?_;unfold inB;rw[hsp,hwd,a2];exact decide_eq_true Zo
   ·rw[qeb d k1 k2] at hw
    cases hw
 rw[qd9 hd',qas];refine wdk.2 ⟨j,wcc.2 Zo,?_⟩;rw[qfn hw' hx'];exact wav.2 ⟨i,wcc.2 Zo,rfl⟩
theorem qz5{h:HD}{x:Nat}{o:LV}(ho:objB x h=true)(hs:o.s=fS x)(hn:o.n=fN x)(hm:qbs o.r o.s o.n=true):objB (obW o) h=true/\fR (obW o)=o.r/\fS (obW o)=fS x/\fN (obW o)=fN x:=by
 obtain⟨g1,g2,g3⟩:=qw2 hm;have e1:fR (obW o)=o.r:=g1;have e2:fS (obW o)=o.s:=g2;have e3:fN (obW o)=o.n:=g3;obtain⟨h1,h2,h3,h4⟩:=objB_iff.1 ho;refine⟨objB_iff.2 ⟨by rw[e1,e2,e3];exact hm,by rw[e1,e2,e3];rfl,by rw[e3,hn];exact h3,λhk=>by rw[e3,hn];exact h4 hk⟩,e1,e2.trans hs,e3.trans hn⟩
theorem qn4{v:List Nat}{i x:Nat}(h:v[i]? =some x):v.getD i 0=x:=by rw[wax,h,wa8]
theorem q4t{u:List Nat}(h:ToldL s l r ws hs L)(hp:qmv ws (qck s l ws hs L) u):∃hs',ToldL s l r u hs' L/\qck s l u hs' L=qck s l ws hs L:=by
 obtain⟨hf,hl,hd,hnd,ho⟩:=h.facts;have hb:=qaw hf;have hul:=hp.1;have hho:=h.1;rw[qa3,if_pos hf] at hho;obtain⟨hs',hx1,hx2⟩:=qwg (f:=λi=>u.getD (hdAt l i) 0) (n:=s.toNat) (P:=λj x=>hs[j]? =some x\/(qbt hs L hs.length)[j]? =some x) (λj hj=>by
  obtain⟨x,a1,a2⟩:=qoo hho j hj;rcases hp.2 (hdAt l j) with e|e
  ·refine⟨x,?_,.inl a1⟩
   show hdO (u.getD (hdAt l j) 0)=some x
   rw[wax,e,<-wax];exact a2
  ·rw[qpy h hj] at e
   have hk:=qov (L:=L) (show j<hs.length by omega)
   refine⟨(qbt hs L hs.length)[j]?.getD (0,0,0),?_,.inr (by rw[hk,wa8])⟩;show hdO (u.getD (hdAt l j) 0)=_
   rw[qn4 e];exact q7h (qjm hd Zo))
 have hl':=qe5 hx1;have hho':qa3 s l r u=some hs':=by rw[qa3,hul,if_pos hf];exact hx1
 have hd':=qln hho';have hkeep:∀j:Nat,(L.any (inB (j:Int))=true->hs'[j]? =hs[j]?):=λj hj=>by
  by_cases hjn:j<s.toNat
  ·obtain⟨x,b1,b2⟩:=hx2 j hjn
   rcases b2 with b2|b2
   ·rw[b1,b2]
   ·rw[qov Zo,if_pos hj] at b2
    rw[b1,<-b2,waj (show j<hs.length by omega),wa8]
  ·rw[wbp Zo,wbp Zo]
 have hkl:qbt hs' L hs'.length=qbt hs L hs.length:=by
  rw[hl',hl];unfold qbt;refine wdb λj hj=>?_
  cases hany:L.any (inB (j:Int)) with
  |true=>rw[if_pos rfl,if_pos rfl,hkeep j hany]
  |false=>rw[if_neg Zd,if_neg Zd]
 have hrt:rtL r u=rtL r ws:=by
  apply wa3
  intro k;unfold rtL;by_cases hk:k<r.toNat
  ·rw[wbf hk,wbf hk,wbd,wbd]
   exact qg5 h hp (λj hj=>by unfold hdAt;omega) (λo hoL=>by have:=ho o hoL;omega)
  ·rw[wb2 Zo,wb2 Zo]
 have hob:∀o∈L,∀q,obO s l r hs ws o.ad=some q->∃q',obO s l r hs' u o.ad=some q'/\q'.a=q.a/\(∀c,q'.withR c=q.withR c)/\slW u q'=slW ws q:=by
  intro o hoL q hq;obtain⟨-,g0,q0,g1,g2,g3⟩:=h.2.1.each o hoL;obtain rfl:q0=q:=wco (g1.symm.trans hq);obtain⟨b,hbm,hfi,hobb,hbx,hqe⟩:=qnj hq;obtain⟨e1,e2,e3,e4,e5,e6,-,-,e9,e10,e11,e12,e13,e14,e15⟩:=qev hq;obtain⟨-,b1,b2,b3,b4,b5,b6,b7,b8,h',hxh,hmh,hwd,hkind⟩:=qej hbm;have f1:o.s=q0.s:=by rw[g3];rfl
  have f2:o.n=q0.n:=by rw[g3];rfl
  have f3:o.wd=b.2.2.2:=by rw[g3,hqe];rfl
  have f4:o.sp=b.2.1:=by rw[g3,hqe];rfl
  have f5:o.ix=b.2.2.1:=by rw[g3,hqe];rfl
  have hsame:∀j:Nat,inB (j:Int) o=true->hs'[j]? =hs[j]?:=λj hj=>hkeep j (wf5.2 ⟨o,hoL,hj⟩)
  have hbm':=qxq hd' Zo hsame hbm f4 f3;have hfi':(qbd s l r hs').find? (pAt (o.ad:Int))=some b:=by
   cases hf2:(qbd s l r hs').find? (pAt (o.ad:Int)) with
   |none=>exact absurd (wed.1 hf2 b hbm') (by simp[pAt,hbx])
   |some c=>
    have hc1:c.1=(o.ad:Int):=by simpa[pAt] using wdr hf2
    rw[qz4 (wec hf2) hbm' (by rw[hc1,hbx])]
  obtain⟨h'',c1,c2,c3,c4⟩:=ql5 hobb;rw[hxh] at c1;injection c1 with c1;subst c1;have hsp:(b.2.1.toNat:Int)=b.2.1:=weo b1;have hxh':hs'[b.2.1.toNat]? =some h':=by rw[hsame _ (by unfold inB;rw[hsp,f4];simp)];exact hxh
  have hbit:hasB (u.getD (hdAt l b.2.1.toNat+1) 0) b.2.2.1=true:=by
   rcases hp.2 (hdAt l b.2.1.toNat+1) with e|e
   ·rw[wax,e,<-wax];exact c2
   ·rw[qta h Zo] at e
    rw[qn4 e,qom _ b3 Zo,<-wax];exact(q8u s L.length L rfl (qmh h.2.1) b.2.1.toNat b.2.2.1.toNat Zo).2 ⟨o,hoL,Zo,Zo⟩
  rw[hbx,wam] at c3 c4;have hqs:q0.s=fS (ws.getD o.ad 0):=by rw[hqe];rfl
  have hqn:q0.n=fN (ws.getD o.ad 0):=by rw[hqe];rfl
  have hword:objB (u.getD o.ad 0) h'=true/\fS (u.getD o.ad 0)=fS (ws.getD o.ad 0)/\fN (u.getD o.ad 0)=fN (ws.getD o.ad 0):=by
   rcases hp.2 o.ad with e|e
   ·rw[wax,e,<-wax]
    exact⟨c3,rfl,rfl⟩
   ·rw[qto h hoL] at e
    rw[qn4 e];obtain⟨d1,-,d3,d4⟩:=qz5 c3 (f1.trans hqs) (f2.trans hqn) (h.may o hoL);exact⟨d1,d3,d4⟩
  obtain⟨w1,w2,w3⟩:=hword;refine⟨lvOf (u.getD o.ad 0) b,?_,?_,λc=>?_,?_⟩
  ·unfold obO
   rw[hfi'];show obB l hs' u b=_
   have:=qabq (l:=l) (ws:=u) hxh' hbit (by rw[hbx,wam];exact w1)
   rw[this,hbx,wam]
  ·rw[hqe];rfl
  ·rw[hqe]
   unfold lvOf LV.withR;rw[w2,w3]
  ·have ha:(lvOf (u.getD o.ad 0) b).ad=o.ad:=by
    show b.1.toNat=o.ad
    rw[hbx,wam]
   have hs2:(lvOf (u.getD o.ad 0) b).s=q0.s:=by
    show fS (u.getD o.ad 0)=q0.s
    rw[w2,hqs]
   unfold slW;rw[ha,hs2,e2];apply wa3
   intro k;by_cases hk:k<q0.s.toNat
   ·rw[wbf hk,wbf hk,wbd,wbd]
    refine qg5 h hp (λj hj=>by unfold hdAt;omega) (λo' hoL' e=>?_);obtain⟨c,hc,k1,k2,k3⟩:=qvy h.2.1 o' hoL';have ho':=ho o' hoL';have hbd:=qej hc;have hwq:q0.wd=b.2.2.2:=by rw[hqe];rfl
    rcases qrg hbm hc with g|g|g
    ·subst g
     omega
    ·omega
    ·omega
   ·rw[wb2 Zo,wb2 Zo]
 have hreach:IsReach (rtL r u) (kdO s l r hs' u) (obO s l r hs' u) L:=by
  rw[hrt];refine qzc h.2.1 (λo hoL=>?_) (λo hoL q hq=>?_)
  ·obtain⟨-,-,q,g1,-⟩:=h.2.1.each o hoL
   obtain⟨q',k1,-,-,k4⟩:=hob o hoL q g1;rw[qml g1,qml k1,k4]
  ·obtain⟨q',k1,k2,k3,-⟩:=hob o hoL q hq
   exact⟨q',k1,k2,k3⟩
 have htold:ToldL s l r u hs' L:=⟨hho',hreach,h.2.2⟩
 refine⟨hs',htold,?_⟩;apply wa3
 intro i;rcases qg0 htold i with ⟨j,hj,rfl,e⟩|⟨j,hj,rfl,e⟩|⟨o,hoL,rfl,e⟩|⟨e,e1,e2⟩
 ·rw[e,qpy h hj,hkl]
 ·rw[e,qta h hj]
 ·rw[e,qto h hoL]
 ·rw[e,qsc h e1 e2,qg5 h hp e1 e2]
theorem qyv{u:List Nat}(h:ToldL s l r ws hs L)(hp:qmv ws (qck s l ws hs L) u)(hq:∀k,k<l.toNat->ws[16+40*k]? =some 0):∀k,k<l.toNat->u[16+40*k]? =some 0:=by
 obtain⟨hf,hl,hd,hnd,ho⟩:=h.facts;have hb:=qaw hf;intro k hk;rw[qg5 h hp (λj hj=>by unfold hdAt;omega) (λo hoL=>by have:=ho o hoL;omega)];exact hq k hk
theorem q63{u:List Nat}(h:ToldL s l r ws hs L)(hp:qmv ws (qck s l ws hs L) u)(hh:Hit ws s l r):Hit u s l r:=by
 obtain⟨hf,hl,hd,hnd,ho⟩:=h.facts;have hb:=qaw hf;refine⟨hh.1,by rw[hp.1];exact hh.2.1,?_⟩;rw[<-hh.2.2];apply wa3
 intro i;by_cases hi:i<8
 ·rw[wbf hi,wbf hi]
  exact qg5 h hp (λj hj=>by unfold hdAt;omega) (λo hoL=>by have:=ho o hoL;omega)
 ·rw[wb2 Zo,wb2 Zo]
end
end Go.Proofs.YtocncmbeinmiaaaGreat
namespace Go.Proofs.YtocncmbeinmiaaaGreat
open Go Go.RowKit Go.Shelf
namespace LoopBk
variable {W W':World} {L D:Nat} {r:Loop}
end LoopBk
end Go.Proofs.YtocncmbeinmiaaaGreat
namespace Go.Proofs.YtocncmbeinmiaaaGreat
open Go Go.RowKit Go.Joins Go.ChangeShapes Go.WideShapes Go.Deep
section
variable {H:Type} {enc:TypeId×Value->H} {W:World} {base:Nat} {spare:Nat->Bool} {held:Bool}
theorem q5n{r:Reach}{b0:Nat}{t e:TypeId}{k:IntKind}{v:Value}{d:DataW H}{p:List MemPlace}(ht:Tryz.prog.underlying t=some (.slice e))(he:Tryz.prog.underlying e=some (.int k))(hC:Tryz.prog.cellsOf e=1)(hv:Value.okWide Tryz.prog W r b0 t v)(h:DataW.Trod enc Tryz.prog W 0 (λ_=>true) held t v d p):
  ∃(A:Option Addr) (len cap:Nat) (l:List Int),v= .slice A len cap/\l.length=len/\len<=maxLen/\len<=cap/\Rd W A len (l.map (Value.int k))/\∀n∈l,(Lit.int k n).wf=true:=by
 obtain⟨fuel,hf⟩:=h;obtain⟨A,len,cap,rfl⟩:=okWide_slice ht hv;rcases open_ints ht he hC hf with ⟨hcs,_⟩|⟨a,l,c,zs,hcs,_,hl,hm,hz,_,hcell,hw⟩
 ·injection hcs with hcs
  injection hcs with h1 h2 h3;subst h1 h2 h3;exact⟨none,0,0,[],rfl,rfl,wau _,wab _,Rd.nil_ _ _,by simp⟩
 ·injection hcs with hcs
  injection hcs with h1 h2 h3;subst h1 h2 h3;obtain⟨l,hll,hlm,hr,hlw⟩:=qj1 (k:=k) (w:=W) (a:=some a) (len:=len) (cap:=cap) (zs:=zs) (.inr ⟨a,rfl,hl,hm,by simpa using hz,hcell,hw⟩);exact⟨_,_,_,l,rfl,hll,hlm,hl,hr,hlw⟩
end
end Go.Proofs.YtocncmbeinmiaaaGreat
namespace Go.Proofs.YtocncmbeinmiaaaGreat
open Go Go.RowKit
theorem qou:∀(r L:List Nat) (y:Nat),y∈unl L r->y∈L\/y∈r
 |[],_,_,h=> .inl h
 |x::r,L,y,h=>by
  unfold unl at h;split at h
  ·rcases qou r L y h with h|h
   ·exact .inl h
   ·exact .inr (wes _ h)
  ·rcases qou r (L++[x]) y h with h|h
   ·rcases wa6.1 h with h|h
    ·exact .inl h
    ·exact .inr (by rw[wbx] at h;rw[h];exact wfe)
   ·exact .inr (wes _ h)
theorem qh8:∀(r L:List Nat),(unl L r).length<=L.length+r.length/\L.length<=(unl L r).length
 |[],_=>⟨wab _,wab _⟩
 |x::r,L=>by
  unfold unl;split
  ·have:=qh8 r L
   simp only[way];omega
  ·have:=qh8 r (L++[x])
   simp only[was,way,wbq] at this ⊢;omega
theorem qv5(x:Nat)(r:List Nat):0<(unl [] (x::r)).length:=by
 have h:unl [] (x::r)=unl [x] r:=by simp[unl]
 rw[h];have:=(qh8 r [x]).2
 simp only[way,wbq] at this;omega
theorem q0z(A:Option Addr)(cap:Nat)(l:List Nat)(x:Nat)(w:World)(hr:Rd w A l.length (u64V l))(hm:l.length<=9223372036854775807):
  Calls Tryz.prog 122 #[.slice A l.length cap,.int .u64 (x:Int)] w (qac2 l x w):=by
 go_enter Tryz.func122,Tryz.ntmps122;go_wp2
 go_loop [8,5] (λk _=>∃j:Nat,j<=l.length/\Hid (x∉l.take j)/\k= .int .i64 (j:Int)) (λk _=>l.length - (RowKit.intOf k).toNat)
 case atStart=>exact⟨0,Zo,waa Zs,rfl⟩
 case round=>
  obtain⟨j,hj,he,rfl⟩:=hrel;by_cases hlt:j<l.length
  ·obtain⟨p,v,rfl,hd,hv,hcw⟩:=hr.u64_at hlt
   have ht:l.take (j+1)=l.take j++[v]:=by
    rw[wg0 hlt];have:=wbc hlt
    rw[hd] at this;injection this with h1 _;rw[h1]
   have hz:(0:Int)<=(j:Int):=Zo
   have hz2:(j:Int)<(l.length:Int):=Zo
   by_cases hx:x=v
   ·have hx1:((x:Int)==(v:Int))=true:=by simp[hx]
    have hin:Hid (x∈l):=waa (by rw[hx];exact hv);clear hx ht hd hv he;go_wp2
    go_ret;exact⟨_,by constructor<;>intro _<;>first|exact hin.out|omega,rfl,rfl⟩
   ·have hx1:((x:Int)==(v:Int))=false:=beq_eq_false_iff_ne.2 Zo
    have hn:Hid (x∉l.take (j+1)):=waa (by rw[ht];intro h;rcases wa6.1 h with h|h;exact he.out h;exact hx (by simpa using h));clear hx ht hd hv he;go_wp2
    go_round
    case rel=>exact⟨j+1,Zo,hn,by go_num⟩
    case measure=>simp[RowKit.intOf];omega
  ·have hn:Hid (x∉l):=waa (by have:=he.out;rwa [wa2 Zo] at this)
   clear he;go_wp2
   go_ret;exact⟨-1,by constructor<;>intro h<;>first|omega|exact absurd h hn.out,rfl,rfl⟩
theorem qte(A:Option Addr)(cap:Nat)(l:List Nat)(x:Nat)(w:World)(hr:Rd w A l.length (u64V l))(hm:l.length<=9223372036854775807):
  Calls Tryz.prog 87 #[.slice A l.length cap,.int .u64 (x:Int)] w λe w'=>e= .returned (.bool (decide (x∈l)))/\w=w':=by
 go_enter Tryz.func87,Tryz.ntmps87;go_wp2_with (go_at_call 122;refine(q0z A cap l x _ hr hm).mono ?_;rintro e w' ⟨i,hi,rfl,rfl⟩;have hih:=waa hi;clear hi)
 go_ret;exact⟨qab (by rw[wb8];simpa using hih.out),rfl⟩
theorem qni(A:Option Addr)(cap:Nat)(ws:List Nat)(w:World)(hr:Rd w A ws.length (u64V ws))(hm:ws.length<=1000):
  Calls Tryz.prog 51 #[.slice A ws.length cap] w λe w'=>∃v,e= .returned v/\w'.ownsRow w.heap.size 27 1 v (unl [] ws).length (u64V (unl [] ws))/\Below w.heap.size w w':=by
 obtain⟨i0,ii,iz0,iz1,iz2⟩:=info_parts qcg;go_enter Tryz.func51,Tryz.ntmps51;go_wp2
 go_loopw [3,5,8] (λv _ k wr=>∃(W:World) (j:Nat) (L:List Nat),W=wr/\j<=ws.length/\k= .int .i64 (j:Int)/\L.length<=j/\Hid (unl L (ws.drop j)=unl [] ws)/\W.ownsRow w.heap.size 27 1 v L.length (u64V L)/\Below w.heap.size w W) (λ_ _ k _=>ws.length - (RowKit.intOf k).toNat)
 case atStart=>exact⟨_,0,[],rfl,Zo,rfl,by simp,waa rfl,wa9 _ _ _ _,wac _ _⟩
 case round=>
  obtain⟨wr,j,L,rfl,hj,rfl,hL,he,hrow,hB⟩:=hrel;by_cases hlt:j<ws.length
  ·obtain⟨p,x,rfl,hd,hx,hcw⟩:=hr.u64_at hlt
   have hc:=(hB.cell (p:=p.add j) (wak w _ hcw)).trans hcw;rw[hd] at he;have hz:(0:Int)<=(j:Int):=Zo
   have hz2:(j:Int)<(ws.length:Int):=Zo
   obtain⟨A1,c1,rfl,hR⟩:=Rd.of_own hrow;have hcon:=qte A1 c1 L x wr hR Zo;have hsz:=hB.size;clear hd hx;by_cases hin:x∈L
   ·have he2:Hid (unl L (ws.drop (j+1))=unl [] ws):=waa (by rw[<-he.out];simp[unl,hin])
    have hcon':Calls Tryz.prog 87 #[.slice A1 L.length c1,.int .u64 (x:Int)] wr λe w'=>e= .returned (.bool true)/\wr=w':=hcon.mono λe w' ⟨h1,h2⟩=>⟨by rw[h1];exact qab (by simp[hin]),h2⟩
    clear he hin hcon;go_wp2_with (go_at_call 87;refine hcon'.mono ?_;rintro e w' ⟨rfl,rfl⟩)
    go_roundw
    case rel=>exact⟨_,j+1,L,rfl,Zo,by go_num,Zo,he2,hrow,hB⟩
    case measure=>simp[RowKit.intOf];omega
   ·have he2:Hid (unl (L++[x]) (ws.drop (j+1))=unl [] ws):=waa (by rw[<-he.out];simp[unl,hin])
    have hcon':Calls Tryz.prog 87 #[.slice A1 L.length c1,.int .u64 (x:Int)] wr λe w'=>e= .returned (.bool false)/\wr=w':=hcon.mono λe w' ⟨h1,h2⟩=>⟨by rw[h1];exact qab (by simp[hin]),h2⟩
    clear he hin hcon;go_wp2_with (first|(go_at_call 87;refine hcon'.mono ?_;rintro e w' ⟨rfl,rfl⟩)|(at_builtin;go_loud (refine wpList_append_own _ rfl _ _ 40 rfl w.heap.size 27 i0 (.int .u64 0) 1 8 wbi ii iz0 iz1 iz2 rfl Zd _ _ _ rfl (hrow.alloc _) ⟨wr.heap.size,0,none⟩ 1 1 [.int .u64 (x:Int)] rfl rfl (qd3 Zs _ _) (by simp[Value.oneCell']) (by simp only[maxLen];omega) Zo Zx ?_;intro v' w1 hown' hgrow _;have hB3:=((hB.alloc hsz (.cells #[.int .u64 (x:Int)] 27)).grown hgrow Zx (qa0 hrow)))))
    go_roundw
    case rel=>exact⟨_,j+1,L++[x],rfl,Zo,by go_num,by simp;omega,he2,by rw[qd8];simpa using hown',hB3⟩
    case measure=>simp[RowKit.intOf];omega
  ·have hs:Hid (L=unl [] ws):=waa (by rw[<-he.out,wbn Zo];rfl)
   clear he;go_wp2
   go_ret;exact⟨_,rfl,by rw[<-hs.out];exact hrow,hB⟩
theorem q7v{w0 w:World}{bn bl k:Nat}{A:Option Addr}{len cap:Nat}{L:List Int}(h:Pick w0 w bn bl k A len cap L)(hk:k<1000000)(many:Int):
  Calls Tryz.prog 52 #[.int .i64 many,.pointer (some ⟨bn,0,none⟩),.pointer (some ⟨bl,0,none⟩)] w (Told bn k len w):=by
 have h':=h.told (k':=k+1);obtain⟨h1,h2,h3,h4,h5,h6,h7⟩:=h;have c1:=h1.cell;have f1:=h1.frozen;have c2:=h2.cell;have hne:bl≠bn:=Ne.symm h6;by_cases hlt:k<len
 ·obtain⟨p,x,rfl,_,_,hcw⟩:=h3.i64_at hlt
  have hc:=(h'.2.2.2.1.cell (p:=p.add k) (wak w0 _ hcw)).trans hcw;have e1:(((k+1:Nat):Int))=(k:Int)+1:=Zo
  rw[e1] at hc;have hz:(0:Int)<=(k:Int):=Zo
  have hz2:(k:Int)<(len:Int):=Zo
  clear h' h3 h4;go_enter Tryz.func52,Tryz.ntmps52;go_wp2
  go_ret;exact⟨_,k+1,waa rfl,waa (λh=>absurd hlt Zo),rfl,by rw[e1]⟩
 ·have hz2:(len:Int)<(k:Int)+1:=Zo
  have e1:(((k+1:Nat):Int))=(k:Int)+1:=Zo
  clear h' h3 h4;go_enter Tryz.func52,Tryz.ntmps52;go_wp2
  go_ret;exact⟨_,k+1,waa rfl,waa (λ_=>rfl),rfl,by rw[e1]⟩
theorem q8x{w:World}{b:Nat}{t:TypeId}{v:Value}(h:Boxed w b t v):w.setCell ⟨b,0,none⟩ v=w:=by
 have h1:w.heap[b]? =some (.cells #[v] t (0,0)):=h;obtain⟨hlt,hk⟩:=wal.1 h1;have hh:(w.setCell ⟨b,0,none⟩ v).heap=w.heap:=by
  apply wgp
  intro i;by_cases e:i=b
  ·subst e;rw[qah h1,h1];rfl
  ·exact wat w ⟨b,0,none⟩ v i e
 have hw:w.setCell ⟨b,0,none⟩ v={w with heap:=(w.setCell ⟨b,0,none⟩ v).heap}:=rfl;rw[hw,hh]
theorem qm3{w0 w:World}{bn bl k:Nat}{A:Option Addr}{len cap:Nat}{L:List Int}(h:Pick w0 w bn bl k A len cap L)(hk:k<1000000)(B:Option Addr)(c:Nat)(l:List Nat)(hr:Rd w B l.length (u64V l))(hl:0<l.length)(hm:l.length<=1000)(hBb:∀q,B=some q->q.block≠bn):
  Calls Tryz.prog 50 #[.func (.func 52) #[] #[.pointer (some ⟨bn,0,none⟩),.pointer (some ⟨bl,0,none⟩)],.slice B l.length c] w (qacq bn k len l w):=by
 obtain⟨q,x0,rfl,hd0,hx0,hc0⟩:=hr.u64_at hl;have hfst:Hid (l[0]? =some x0):=waa (by have h:=congrArg List.head? hd0;rw[wgt,List.head?_cons] at h;rw[<-List.head?_eq_getElem?];exact h);clear hd0;have hqb:=hBb q rfl;by_cases h1:l.length=1
 ·have hone:((l.length:Int)==1)=true:=by rw[h1];rfl
  have hz:(0:Int)<(l.length:Int):=Zo
  have hsame:=waa (q8x h.1);have hh:=waa h1;clear h1;have hc0':w.cell? q=some (.int .u64 (x0:Int)):=hc0;go_enter Tryz.func50,Tryz.ntmps50;go_wp2
  go_ret;exact⟨x0,k,hx0,λ_=>hfst.out,Zo,rfl,hsame.out.symm⟩
 ·have hone:((l.length:Int)==1)=false:=beq_eq_false_iff_ne.2 Zo
  have hz:(0:Int)<(l.length:Int):=Zo
  go_enter Tryz.func50,Tryz.ntmps50;go_wp2_with fail;refine(q7v h hk _).mono ?_;rintro e w' ⟨i,k',hk',hi0,rfl,rfl⟩;have hgr:=qbb w ⟨bn,0,none⟩ (.int .i64 (k':Int));have hc0':=hgr.cell (a:=q) hc0 (λe=>hqb (by injection e));have hfin:Hid (k'<=k+1):=waa (by rw[hk'.out];omega);rcases(by omega:i<0\/(l.length:Int)<=i\/(0<=i/\i<(l.length:Int))) with hi|hi|hi
  ·have d1:decide (i<0)=true:=by simp[hi]
   clear hc0 hr;go_wp2
   go_ret;exact⟨x0,k',hx0,λ_=>hfst.out,hfin.out,rfl,rfl⟩
  ·obtain⟨j,rfl⟩:=waz (show 0<=i by omega)
   have d1:decide ((j:Int)<0)=false:=by simp
   have d2:decide (l.length<=j)=true:=by simp;omega
   clear hc0 hr;go_wp2
   go_ret;exact⟨x0,k',hx0,λ_=>hfst.out,hfin.out,rfl,rfl⟩
  ·obtain⟨j,rfl⟩:=waz hi.1
   obtain⟨q',x,e',hdj,hx,hc⟩:=hr.u64_at (k:=j) Zo
   have hz0:Hid (len=0->l[0]? =some x):=waa (λh=>by
    have:=hi0.out Zo
    obtain rfl:j=0:=Zo
    have h:=congrArg List.head? hdj;rw[wgt,List.head?_cons] at h;rw[<-List.head?_eq_getElem?];exact h)
   clear hdj hi0;obtain rfl:q=q':=by injection e'
   have hcc:=hgr.cell hc (λe=>hqb (by injection e with e;rw[ChangeShapes.block_add] at e;exact e));have d1:decide ((j:Int)<0)=false:=by simp
   have d2:decide (l.length<=j)=false:=by simp;omega
   have hi1:=hi.1;have hi2:=hi.2;clear hi e' hc0 hc hr;go_wp2
   go_ret;exact⟨x,k',hx,hz0.out,hfin.out,rfl,rfl⟩
end Go.Proofs.YtocncmbeinmiaaaGreat
