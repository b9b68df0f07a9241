/- Parts. No condition. -/
import Derived.Test.YtocncmbeinmiaaaGreatJoinU36
import Derived.Test.YtocncmbeinmiaaaGreatJoinU45
import Derived.Test.YtocncmbeinmiaaaGreatJoinU43
set_option linter.unusedVariables false
set_option maxRecDepth 100000
set_option maxHeartbeats 8000000
namespace Go.Proofs.YtocncmbeinmiaaaGreat
open Go Go.RowKit
theorem q0t{S S':List Nat}(es:List (Int×Nat)){i:Nat}(hl:S.length=S'.length)(h:S[i]? =S'[i]?):(putE S es)[i]? =(putE S' es)[i]?:=by
 induction es generalizing S S' with
 |nil=>exact h
 |cons e r ih=>
  show(putE (S.set e.1.toNat e.2) r)[i]? =(putE (S'.set e.1.toNat e.2) r)[i]?
  refine ih (by simp[hl]) ?_;rw[wcx,wcx,hl,h]
theorem qpf:∀(ps:List (List (Int×Nat))) (k:Nat),ps≠[]->∃(j:Nat) (p:List (Int×Nat)) (m:Nat),ps[j]? =some p/\((ps.map qbp).flatten).take k=((ps.take j).map qbp).flatten++(qbp p).take m/\
   ∀i,i<ps.length->(((ps.take i).map qbp).flatten).length<=k->i<=j
 |[],_,h=>absurd rfl h
 |[p],k,_=>⟨0,p,k,rfl,by simp,λi hi _=>by simp at hi;omega⟩
 |p::q::r,k,_=>by
  by_cases hk:k<(qbp p).length
  ·refine⟨0,p,k,rfl,?_,λi hi hle=>?_⟩
   ·rw[wc5,wek,wdp Zo]
    rfl
   ·cases i with
    |zero=>omega
    |succ i=>
     rw[wcf,wc5,wek,was] at hle;omega
  ·obtain⟨j,p',m,h1,h2,h3⟩:=qpf (q::r) (k - (qbp p).length) Zs
   refine⟨j+1,p',m,h1,?_,λi hi hle=>?_⟩
   ·rw[wc5,wek,wgf,wa2 Zo,h2,wcf,wc5,wek,wbm]
   ·cases i with
    |zero=>omega
    |succ i=>
     rw[wcf,wc5,wek,was] at hle;have:=h3 i (by simpa using hi) Zo
     omega
theorem q50{s l r:Int}{es:List (Int×Nat)}(h:∀e∈es,qbj s l r e.1=true){e:Int×Nat}(he:e∈es):8<=e.1/\¬(16<=e.1/\e.1<16+40*l):=by
 have hb:=imay_iff.1 (h e he);have hm:=qcc hb.1;omega
theorem qma{S:List Nat}:∀(es:List (Int×Nat)) {S':List Nat} {i:Nat},S.length=S'.length->(S[i]? =S'[i]?\/∃e∈es,e.1.toNat=i)->(putE S es)[i]? =(putE S' es)[i]?
 |[],S',i,hl,h=>by
  rcases h with h|⟨e,he,-⟩
  ·exact h
  ·cases he
 |e::r,S',i,hl,h=>by
  show(putE (S.set e.1.toNat e.2) r)[i]? =(putE (S'.set e.1.toNat e.2) r)[i]?
  by_cases hi:e.1.toNat=i
  ·subst hi
   exact q0t r (by simp[hl]) (by rw[wcx,wcx,if_pos rfl,if_pos rfl,hl])
  ·refine qma r (by simp[hl]) ?_
   rcases h with h|⟨e',he',hei⟩
   ·exact .inl (by rw[wbe hi,wbe hi,h])
   ·rcases wbg.1 he' with rfl|he'
    ·exact absurd hei hi
    ·exact .inr ⟨e',he',hei⟩
theorem qv2{z:Prop}{n:Nat}{S0 L:List Nat}{es:List (Int×Nat)}{D:DM}{g:Nat->Option (List Nat)}(hM:MayI n S0 es D)(hA:Alike n g D.N D.B)(hC:Crashed z n D.S D.K g L):∀i x,L[i]? =some x->PutI S0 es i x:=by
 intro i x hx;have hi:i<n*8:=by rw[<-hC.1];exact(wan.1 hx).1
 rcases hC.2.1 i hi with h|h|⟨l,h1,h2⟩
 ·exact hM.k i x (by rw[<-h];exact hx)
 ·exact hM.s i x (by rw[<-h];exact hx)
 ·obtain⟨a1,a2⟩:=hA (i/8) Zo
  have hb:D.B[i/8]? =some true:=by
   rw[h1] at a1;cases hb:D.B[i/8]? with
   |none=>rw[hb] at a1;simp at a1
   |some b=>rw[hb] at a1;simp at a1;rw[a1]
  refine hM.nn i x hb ?_;rw[<-hx,h2,<-a2 l h1,qc0,if_pos Zo,show i/8*8+i%8=i by omega]
section
variable {ws:List Nat} {s l r s' l' r':Int} {fx fx':List (Int×Nat)}
end
section
variable {τ:Type}
end
section
variable {τ:Type} {pl:List Nat->Option (Int×Int×Int×List (Int×Nat))} {ws rr v:List Nat} {s l r:Int} {n nl:Nat} {who:Int}
theorem qi1{L:List Nat}{t:Nat}(h:∀i,16+40*t<=i->i<56+40*t->L[i]? =ws[i]?):qak L t=qak ws t:=by
 unfold qak;have h1:L.getD (16+40*t) 0=ws.getD (16+40*t) 0:=by rw[wax,wax,h _ Zo Zo]
 have h2:(L.drop (24+40*t)).take 32=(ws.drop (24+40*t)).take 32:=by
  apply wa3
  intro i;by_cases hi:i<32
  ·rw[wbf hi,wbf hi,wbd,wbd,h _ Zo Zo]
  ·rw[wb2 Zo,wb2 Zo]
 rw[h1,h2]
theorem qs6{L:List Nat}{k:Nat}(h0:repF s l r L k=repF s l r ws k):∀m,k<=m->(∀i,16+40*k<=i->i<16+40*m->L[i]? =ws[i]?)->repF s l r L m=repF s l r ws m
 |0,hk,h=>by
  obtain rfl:k=0:=Zo
  exact h0
 |m+1,hk,h=>by
  by_cases hm:k=m+1
  ·rw[<-hm];exact h0
  ·have ih:=qs6 h0 m Zo (λi h1 h2=>h i h1 Zo)
   have he:=qi1 (ws:=ws) (L:=L) (t:=m) (λi h1 h2=>h i Zo Zo);rw[repF,repF,ih,he]
theorem qqe{L o:List Nat}{t:Nat}(hh:Hit ws s l r)(hp:repF s l r ws l.toNat=some rr)(ht:(t:Int)<l)(ho:repF s l r ws t=some o)(hm:(qak ws t).all (λe=>qbj s l r e.1)=true)(hL:L.length=ws.length)(h8:L.take 8=ws.take 8)(hhi:∀i:Nat,56+40*t<=i->(i:Int)<16+40*l->L[i]? =ws[i]?)(h1:repF s l r L (t+1)=some (qhl ws t o)):Hit L s l r/\repF s l r L l.toNat=some rr:=by
 refine⟨⟨hh.1,by rw[hL];exact hh.2.1,by rw[h8];exact hh.2.2⟩,?_⟩;rw[<-hp];exact qs6 (k:=t+1) (by rw[h1];exact(qdw ho hm).symm) l.toNat Zo (λi q1 q2=>hhi i Zo Zo)
theorem qih{S0 L:List Nat}{p:List (Int×Nat)}(hl:L.length=S0.length)(h:∀i x,L[i]? =some x->PutI S0 p i x){i:Nat}(hi:∀e∈p,e.1.toNat≠i):L[i]? =S0[i]?:=by
 cases hx:L[i]? with
 |none=>
  have:=wha.1 hx
  rw[wbp Zo]
 |some x=>
  rcases h i x hx with e|⟨e,he,h1,-⟩
  ·exact e.symm
  ·exact absurd h1 (hi e he)
theorem quf{t:Nat}(hm:(qak ws t).all (λe=>qbj s l r e.1)=true){e:Int×Nat}(he:e∈qak ws t):8<=e.1/\¬(16<=e.1/\e.1<16+40*l):=q50 (λe he=>wcp.1 hm e he) he
theorem qab8{L o:List Nat}{t:Nat}(hh:Hit ws s l r)(hp:repF s l r ws l.toNat=some rr)(ht:(t:Int)<l)(ho:repF s l r ws t=some o)(hm:(qak ws t).all (λe=>qbj s l r e.1)=true)(hL:L.length=ws.length)(h:∀i x,L[i]? =some x->PutI o (qak ws t) i x):Hit L s l r/\repF s l r L l.toNat=some rr:=by
 have hf:fitB s l r ws.length=true:=fitB_iff.2 ⟨hh.1,hh.2.1⟩;have hb:=qaw hf;obtain⟨o1,o2,o3⟩:=qfv hf Zo ho;have hk:∀i:Nat,(i<8\/16<=i/\(i:Int)<16+40*l)->L[i]? =o[i]?:=λi hi=>qih (S0:=o) (p:=qak ws t) Zo h (λe he e2=>by have:=quf hm he;omega)
 have hw:∀i:Nat,16+40*t<=i->(i:Int)<16+40*l->L[i]? =ws[i]?:=λi h1 h2=>(hk i Zo).trans (qgr hf Zo ho i h1 h2)
 refine qqe hh hp ht ho hm hL ?_ (λi h1 h2=>hw i Zo h2) ?_
 ·rw[<-o2]
  apply wa3
  intro i;by_cases hi:i<8
  ·rw[wbf hi,wbf hi,hk i (.inl hi)]
  ·rw[wb2 Zo,wb2 Zo]
 ·have hq:repF s l r L t=some L:=qee (n:=t) (λk hkt=>by rw[hk _ Zo];exact o3 k hkt) t (wab _)
  have he:=qi1 (ws:=ws) (L:=L) (t:=t) (λi h1 h2=>hw i h1 Zo);rw[qdw hq (by rw[he];exact hm),he];unfold qhl;congr 2
  apply wa3
  intro i;refine qma _ Zo ?_;by_cases hc:∃e∈qak ws t,e.1.toNat=i
  ·exact .inr hc
  ·exact .inl (qih (S0:=o) (p:=qak ws t) Zo h (λe he e2=>hc ⟨e,he,e2⟩))
theorem q42{L o:List Nat}{t:Nat}(hh:Hit ws s l r)(hp:repF s l r ws l.toNat=some rr)(ht:(t:Int)<l)(ho:repF s l r ws t=some o)(hm:(qak ws t).all (λe=>qbj s l r e.1)=true)(hL:L.length=ws.length)(h:∀i x,L[i]? =some x->PutI (putE o (qak ws t)) [(((16+40*t:Nat):Int),0)] i x):Hit L s l r/\repF s l r L l.toNat=some rr:=by
 have hf:fitB s l r ws.length=true:=fitB_iff.2 ⟨hh.1,hh.2.1⟩;have hb:=qaw hf;obtain⟨o1,o2,o3⟩:=qfv hf Zo ho;have hpl:(putE o (qak ws t)).length=ws.length:=by rw[qi0];exact o1
 have hlo:∀i:Nat,(i<8\/16<=i/\(i:Int)<16+40*l)->(putE o (qak ws t))[i]? =o[i]?:=λi hi=>qid (es:=qak ws t) (λe he e2=>by have:=quf hm he;omega)
 have hne:∀i,i≠16+40*t->L[i]? =(putE o (qak ws t))[i]?:=λi hi=>qih (S0:=putE o (qak ws t)) (p:=[(((16+40*t:Nat):Int),0)]) Zo h (λe he e2=>by
  obtain rfl:e=_:=by simpa using he
  simp only at e2;omega)
 have hk:∀i:Nat,(i<8\/16<=i/\(i:Int)<16+40*l)->i≠16+40*t->L[i]? =o[i]?:=λi hi hn=>(hne i hn).trans (hlo i hi)
 have hw:∀i:Nat,16+40*t<=i->(i:Int)<16+40*l->o[i]? =ws[i]?:=λi h1 h2=>qgr hf Zo ho i h1 h2
 have hzs:L[16+40*t]? =o[16+40*t]?\/L[16+40*t]? =some 0:=by
  obtain⟨x,hx⟩:∃x,L[16+40*t]? =some x:=⟨_,waj Zo⟩
  rcases h _ x hx with e|⟨e,he,-,e2⟩
  ·left
   rw[hx,<-e,hlo _ Zo]
  ·right
   obtain rfl:e=_:=by simpa using he
   rw[hx,<-e2]
 refine qqe hh hp ht ho hm hL ?_ (λi h1 h2=>by rw[hk i Zo Zo,hw i Zo h2]) ?_
 ·rw[<-o2]
  apply wa3
  intro i;by_cases hi:i<8
  ·rw[wbf hi,wbf hi,hk i (.inl hi) Zo]
  ·rw[wb2 Zo,wb2 Zo]
 ·have hql:∀k,k<t->L[16+40*k]? =some 0:=λk hkt=>by rw[hk _ Zo Zo];exact o3 k hkt
  rcases hzs with hz|hz
  ·have hall:L=putE o (qak ws t):=by
    apply wa3
    intro i;by_cases hi:i=16+40*t
    ·rw[hi,hz,hlo _ Zo]
    ·exact hne i hi
   have hq:repF s l r L t=some L:=qee (n:=t) hql t (wab _);have he:=qi1 (ws:=ws) (L:=L) (t:=t) (λi h1 h2=>by
    by_cases hi:i=16+40*t
    ·rw[hi,hz,hw _ Zo Zo]
    ·rw[hk i Zo hi,hw i h1 Zo])
   rw[qdw hq (by rw[he];exact hm),he];unfold qhl;congr 2
   rw[hall];apply wa3
   intro i;refine qma _ Zo ?_;by_cases hc:∃e∈qak ws t,e.1.toNat=i
   ·exact .inr hc
   ·exact .inl (qid (λe he e2=>hc ⟨e,he,e2⟩))
  ·have hall:L=qhl ws t o:=by
    apply wa3
    intro i;unfold qhl;by_cases hi:i=16+40*t
    ·rw[hi,hz,wb3 Zo]
    ·rw[wbe Zo]
     exact hne i hi
   rw[<-hall];refine qee (n:=t+1) (λk hkt=>?_) _ (wab _);by_cases hkk:k=t
   ·rw[hkk];exact hz
   ·exact hql k Zo
theorem q41{L o:List Nat}{t j:Nat}{p:List (Int×Nat)}(hh:Hit ws s l r)(hp:repF s l r ws l.toNat=some rr)(ht:(t:Int)<l)(ho:repF s l r ws t=some o)(hm:(qak ws t).all (λe=>qbj s l r e.1)=true)(hL:L.length=ws.length)(hj:(qdi ws t)[j]? =some p)(h:∀i x,L[i]? =some x->PutI (putP ((qdi ws t).take j) o) p i x):Hit L s l r/\repF s l r L l.toNat=some rr:=by
 unfold qdi at hj h;by_cases h0:ws.getD (16+40*t) 0=0
 ·rw[if_pos h0] at hj
  simp at hj
 ·rw[if_neg h0] at hj h
  by_cases he:qak ws t=[]
  ·rw[if_pos he,wba] at hj h
   match j,hj,h with
   |0,hj,h=>
    obtain rfl:_=p:=by simpa using hj
    refine q42 hh hp ht ho hm hL ?_;rw[he];exact h
   |j+1,hj,h=>simp at hj
  ·rw[if_neg he] at hj h
   match j,hj,h with
   |0,hj,h=>
    obtain rfl:qak ws t=p:=by simpa using hj
    exact qab8 hh hp ht ho hm hL h
   |1,hj,h=>
    obtain rfl:[(((16+40*t:Nat):Int),0)]=p:=by simpa using hj
    exact q42 hh hp ht ho hm hL h
   |j+2,hj,h=>simp at hj
theorem qnb{L:List Nat}{p:List (Int×Nat)}{j:Nat}(hh:Hit ws s l r)(hp:repF s l r ws l.toNat=some rr)(hL:L.length=ws.length):∀(t:Nat) (o:List Nat),(t:Int)<=l->repF s l r ws t=some o->(qci ws t)[j]? =some p->
  (∀i x,L[i]? =some x->PutI (putP ((qci ws t).take j) ws) p i x)->Hit L s l r/\repF s l r L l.toNat=some rr
 |0,o,_,_,hj,_=>by simp[qci] at hj
 |t+1,o,ht,ho,hj,h=>by
  have hf:fitB s l r ws.length=true:=fitB_iff.2 ⟨hh.1,hh.2.1⟩;obtain⟨o',h1,h2,rfl⟩:=qi8 ho;have hj:(qci ws t++qdi ws t)[j]? =some p:=hj;have h:∀i x,L[i]? =some x->PutI (putP ((qci ws t++qdi ws t).take j) ws) p i x:=h;by_cases hc:j<(qci ws t).length
  ·rw[wbk hc] at hj
   rw[wdp Zo] at h;exact qnb hh hp hL t o' Zo h1 hj h
  ·rw[wbt Zo] at hj
   rw[wgf,wa2 Zo,qf5,qgb hf t o' Zo h1] at h;exact q41 hh hp Zo h1 h2 hL hj h
theorem qvx{rr u v:List Nat}(hh:Hit rr s l r)(hq:∀k,k<l.toNat->rr[16+40*k]? =some 0)(hst:StandR rr v)(hp:qmv rr v u):MendR u v:=by
 obtain⟨s',l',r',hs,L,a,ht,rfl⟩:=hst;obtain⟨rfl,rfl,rfl⟩:=hh.one a;obtain⟨hs',h1,h2⟩:=q4t ht hp;have hu:=q63 ht hp hh;exact⟨_,_,_,u,hu,qee (qyv ht hp hq) _ (wab _),_,_,_,hs',L,hu,h1,h2.symm⟩
theorem q9x{D:DM}{ps:List (List (Int×Nat))}(hC:CleanD n D)(hn:n<=2048)(hin:∀p∈ps,∀e∈p,0<=e.1/\e.1<((n*8:Nat):Int))(k:Nat):
  ∃(j:Nat) (p:List (Int×Nat)),(ps[j]? =some p\/(p=[]/\ps=[]))/\MayI n (putP (ps.take j) D.S) p (runL n D ((qbf ps).take k)):=by
 by_cases h0:ps=[]
 ·subst h0
  refine⟨0,[],.inr ⟨rfl,rfl⟩,?_⟩;have e:(qbf []).take k=[]:=by simp[qbf]
  rw[e];exact MayI.start hC
 ·obtain⟨j,p,m,h1,h2,-⟩:=qpf ps k h0
  obtain⟨N,e1,e2⟩:=qj7 (n:=n) hn (ps.take j) D hC (λp hp=>hin p (wb0 hp));refine⟨j,p,.inl h1,?_⟩;unfold qbf;rw[h2,qh0,e1];exact MayI.run _ _ (MayI.start e2) (λe he=>wb0 he)
theorem q1k{L:List Nat}{k:Nat}{z:Prop}{g:Nat->Option (List Nat)}(hh:Hit ws s l r)(hp:repF s l r ws l.toNat=some rr)(hst:StandR rr v)(hn:n*8=ws.length)(hA:Alike n g (runL n (ofD ws n nl) ((qbf (qcl ws l rr v)).take k)).N (runL n (ofD ws n nl) ((qbf (qcl ws l rr v)).take k)).B)(hC:Crashed z n (runL n (ofD ws n nl) ((qbf (qcl ws l rr v)).take k)).S (runL n (ofD ws n nl) ((qbf (qcl ws l rr v)).take k)).K g L):MendR L v:=by
 obtain⟨hf,hrl⟩:=qg3 hh hp;have hb:=qaw hf;obtain⟨o1,o2,o3⟩:=qfv hf Zo hp;obtain⟨j,p,h1,h2⟩:=q9x (D:=ofD ws n nl) (ps:=qcl ws l rr v) (qkg hn.symm) Zo (qny hh hp hn) k;have hL:L.length=ws.length:=by rw[hC.1,hn]
 have h:=qv2 h2 hA hC;have h:∀i x,L[i]? =some x->PutI (putP ((qcl ws l rr v).take j) ws) p i x:=h;rcases h1 with h1|⟨rfl,h1⟩
 ·unfold qcl at h1 h
  by_cases hc:j<(qci ws l.toNat).length
  ·rw[wbk hc] at h1
   rw[wdp Zo] at h;obtain⟨q1,q2⟩:=qnb hh hp hL l.toNat rr Zo hp h1 h;exact⟨s,l,r,rr,q1,q2,hst⟩
  ·rw[wbt Zo] at h1
   rw[wgf,wa2 Zo,qf5,qgb hf l.toNat rr Zo hp] at h;have hjf:j - (qci ws l.toNat).length=0/\p=qba rr v ws.length:=by
    unfold qi7 at h1;split at h1
    ·simp at h1
    ·obtain⟨q1,q2⟩:=wan.1 h1
     simp at q1
     refine⟨Zo,?_⟩;simp only[q1] at q2;exact q2.symm
   rw[hjf.1,wdx] at h;have h:∀i x,L[i]? =some x->PutI rr p i x:=h;have hr:Hit rr s l r:=⟨hh.1,by rw[o1];exact hh.2.1,by rw[o2];exact hh.2.2⟩
   have hvl:=qhh hst;refine qvx hr o3 hst ⟨Zo,λi=>?_⟩;by_cases hi:i<L.length
   ·obtain⟨x,hx⟩:∃x,L[i]? =some x:=⟨_,waj hi⟩
    rcases h i x hx with e|⟨e,he,q1,q2⟩
    ·exact .inl (hx.trans e.symm)
    ·right
     rw[hjf.2] at he;obtain⟨a,ha,rfl⟩:=qia he;simp only[wam] at q1 q2;subst q1;rw[hx,<-q2,wax,waj Zo];rfl
   ·left
    rw[wbp Zo,wbp Zo]
 ·have hLw:L=ws:=by
   apply wa3
   intro i;rw[h1,List.take_nil] at h;exact qih (S0:=ws) (p:=[]) hL h (λe he=>by cases he)
  rw[hLw];exact⟨s,l,r,rr,hh,hp,hst⟩
end
section
variable {A FA PA:Option Addr} {cap fc pc FN PN:Nat} {ws:List Nat} {fs:List Int} {ds:List PD} {w:World}
theorem qqp{n:Nat}(h:¬(8<=n/\n<=2000/\n%8=0)):
  Calls Tryz.prog 7 #[.slice A n cap,.slice FA FN fc,.slice PA PN pc] w λe w'=>e= .returned (.bool true)/\Below w.heap.size w w':=by
 have hm:=waa (λV=>qw1 (A:=A) (cap:=cap) h V);clear h;go_enter Tryz.func7,Tryz.ntmps7;go_wp2_with fail;refine(qcw w).mono ?_;rintro e w1 ⟨rfl,hB1⟩;replace hB1:=waa hB1;go_wp2_with fail;refine(hm.out _).mono ?_;rintro e w2 ⟨rfl,rfl⟩;go_wp2_with fail;go_ret;exact⟨rfl,hB1.out⟩
theorem qsg(hr:Rd w A ws.length (u64V ws))(hcap:ws.length<=cap)(hlt:∀x∈ws,x<18446744073709551616)(hmay:8<=ws.length/\ws.length<=2000/\ws.length%8=0)(h:¬∃v,MendR ws v):
  Calls Tryz.prog 7 #[.slice A ws.length cap,.slice FA FN fc,.slice PA PN pc] w λe w'=>e= .returned (.bool true)/\Below w.heap.size w w':=by
 have hm:=waa (λV=>qjb (A:=A) (cap:=cap) hmay.1 hmay.2.1 hmay.2.2 V);have hrm:=waa (λ(V:World) (hV:Below w.heap.size w V)=>qss A cap ws V (hr.below hV) hlt hcap hmay.2.1 h);clear hr hcap hlt hmay h;generalize ws.length=n at hm hrm ⊢;go_enter Tryz.func7,Tryz.ntmps7;go_wp2_with fail;refine(qcw w).mono ?_;rintro e w1 ⟨rfl,hB1⟩;replace hB1:=waa hB1;go_wp2_with fail;refine(hm.out _).mono ?_;rintro e w2 ⟨rfl,rfl⟩;have hrm1:=waa (hrm.out _ hB1.out);clear hm hrm;go_wp2_with fail;refine hrm1.out.mono ?_;rintro e w3 ⟨rfl,hB3⟩;have hfin:=waa (hB1.out.trans (hB3.mono hB1.out.size));clear hB3 hrm1 hB1;go_wp2_with fail;go_ret;exact⟨rfl,hfin.out⟩
def FaI(w:World)(p n N:Nat)(v:List Nat)(j:Nat)(V:World):Prop:=
 ∃(L:List Nat) (gs gk m C:Nat),RegQ V w.heap.size p n C gs gk m L L (λ_=>none)/\MendR L v/\L.length=N/\(∀x∈L,x<18446744073709551616)/\C<=j*100000/\Below w.heap.size w V
def FaM(w:World)(p n:Nat)(v:List Nat)(C:Nat)(V:World):Prop:=
 ∃(S K:List Nat) (g:Nat->Option (List Nat)),Reg V w.heap.size p n C S K g/\(∀(z:Prop) (L:List Nat),Crashed z n S K g L->MendR L v)/\Below w.heap.size w V
def FaO(w:World)(p n:Nat)(v:List Nat)(X:Nat)(V:World):Prop:=
 ∃(Bq:DB Unit) (F:Nat->Prop) (C:Nat) (l:List Nat) (g:Nat->Option (List Nat)) (D:DM),Bq.X=X/\Bq.At C l (D,()) true [0] F V/\Reg V w.heap.size p n C v v g/\Below w.heap.size w V
theorem qxa{p n N:Nat}{v:List Nat}{j:Nat}{V:World}(hj:j<=6)(hn:n*8=N)(hI:FaI w p n N v j V)(fuse:Int):
  Calls Tryz.prog 25 #[.pointer (some ⟨p,0,none⟩),.int .i64 fuse] V λe V'=>∃(X:Nat) (c:Int),e= .returned (.tuple #[.pointer (some ⟨X,0,none⟩),.int .i64 c])/\(∃C,C<=(j+1)*100000/\FaM w p n v C V')/\(fuse<0->c=0/\FaO w p n v X V'):=by
 obtain⟨pl,hpl⟩:=qk0;obtain⟨L,gs,gk,m,C,hq,⟨s,l,r,rr,hh,hp,hst⟩,hL,h64,hC,hB⟩:=hI;have hnL:n*8=L.length:=Zo
 have hf:fitB s l r L.length=true:=fitB_iff.2 ⟨hh.1,hh.2.1⟩;have hfb:=qaw hf;obtain⟨k,hk,-,hgo⟩:=qjx (τ:=Unit) (nl:=2) (who:=0) hpl hh hp hst hnL;obtain⟨hS,hK⟩:=que (nl:=2) hh hp hst hnL;have hfail:=λ(m:Nat) (z:Prop) (g:Nat->Option (List Nat)) (U:List Nat)=>q1k (L:=U) (k:=m) (z:=z) (g:=g) (nl:=2) hh hp hst hnL
 generalize qbf (qcl L l rr v)=qs at hgo hS hK hfail;have hop:=qhn hpl hB.size hq hnL h64 Zo (by simp only[maxLen];omega) hgo Zo fuse;refine hop.mono ?_;rintro e V' ⟨X,c,rfl,hB',⟨mm,g,C',hC',hRg,hAl⟩,hov⟩;refine⟨X,c,rfl,⟨C',Zo,_,_,g,hRg,λz U hcr=>hfail mm z g U hAl hcr,hB.trans hB'⟩,λhneg=>?_⟩;obtain⟨rfl,Bq,F',C2,l',g2,hX,-,hA,hR2⟩:=hov hneg;rw[hS,hK] at hR2;exact⟨rfl,Bq,F',C2,l',g2,_,hX,hA,hR2,hB.trans hB'⟩
theorem qsh{p n N C:Nat}{v:List Nat}{V:World}{bn bl len cp:Nat}{PB:Option Addr}{T:List Int}(hn:n*8=N)(hM:FaM w p n v C V)(hp:Pick w V bn bl 0 PB len cp T){j:Nat}(hC:C<=j*100000):
  Calls Tryz.prog 29 #[.pointer (some ⟨p,0,none⟩),.func (.func 52) #[] #[.pointer (some ⟨bn,0,none⟩),.pointer (some ⟨bl,0,none⟩)]] V λe V'=>e= .returned (.tuple #[])/\FaI w p n N v j V':=by
 obtain⟨S,K,g,hR,hm,hB⟩:=hM;refine(q3d hR hp).mono ?_;rintro e V' ⟨rfl,L,hcr,hR',hB'⟩;have h64:∀x∈L,x<18446744073709551616:=by
  obtain⟨_,_,_,_,_,_,_,hrr⟩:=hR';exact hrr.2.2.2.2.2.2.2.2.2.2.2.2.2
 obtain⟨gs,gk,mm,hq⟩:=hR'.q;exact⟨rfl,L,gs,gk,mm,C,hq,hm _ L hcr,by rw[hcr.1,hn],h64,hC,hB.trans hB'⟩
theorem FaM.below{p n C:Nat}{v:List Nat}{V V':World}(h:FaM w p n v C V)(hB:Below V.heap.size V V'):FaM w p n v C V':=by
 obtain⟨S,K,g,hR,hm,hB0⟩:=h;exact⟨S,K,g,hR.below (hB.mono (wab _)),hm,hB0.trans (hB.mono hB0.size)⟩
theorem qv6{p n N:Nat}{v:List Nat}{j:Nat}{V:World}(hn:n*8=N)(hI:FaI w p n N v j V):
  Calls Tryz.prog 21 #[.pointer (some ⟨p,0,none⟩)] V λe V'=>(∃B d,e= .returned (.slice B N d)/\Calls Tryz.prog 15 #[.slice B N d] V' λe w'=>(∃B d,e= .returned (.tuple #[.slice B N d,.bool true])/\Rd w' B N (u64V v))/\Below V'.heap.size V' w')/\Below V.heap.size V V'/\FaI w p n N v j V':=by
 obtain⟨L,gs,gk,m,C,hq,hm,hL,h64,hC,hB⟩:=hI;have hkp:=qhd hq.reg;rw[hn] at hkp;refine hkp.mono ?_;rintro e V' ⟨⟨B,d,rfl,hd,hR⟩,hB'⟩;refine⟨⟨B,d,rfl,?_⟩,hB',L,gs,gk,m,C,hq.upd (Upd.of_below (F:=λ_=>False) hB' (wab _)) (λ_ _ e=>e),hm,hL,h64,hC,hB.trans (hB'.mono hB.size)⟩;subst hL;exact qjv B d L V' hR h64 v hd hm
theorem FaI.below{p n N j:Nat}{v:List Nat}{V V':World}(h:FaI w p n N v j V)(hB:Below V.heap.size V V'):FaI w p n N v j V':=by
 obtain⟨L,gs,gk,m,C,hq,hm,hL,h64,hC,hB0⟩:=h;exact⟨L,gs,gk,m,C,hq.upd (Upd.of_below (F:=λ_=>False) hB (wab _)) (λ_ _ e=>e),hm,hL,h64,hC,hB0.trans (hB.mono hB0.size)⟩
theorem qqu(hr:Rd w A ws.length (u64V ws))(hcap:ws.length<=cap)(hlt:∀x∈ws,x<18446744073709551616)(hmay:8<=ws.length/\ws.length<=2000/\ws.length%8=0){v:List Nat}(h:MendR ws v)(hfl:fs.length=FN)(hFs:Rd w FA FN (fs.map (Value.int .u16)))(hf16:∀z∈fs,0<=z/\z<65536)(hFN:FN<=9223372036854775807)(hP:PkRd w PA PN ds)(hPN:PN<=9223372036854775807):
  Calls Tryz.prog 7 #[.slice A ws.length cap,.slice FA FN fc,.slice PA PN pc] w λe w'=>e= .returned (.bool true)/\Below w.heap.size w w':=by
 obtain⟨n,hn⟩:∃n,n*8=ws.length:=⟨ws.length/8,Zo⟩
 have hvl:v.length=ws.length:=by
  obtain⟨s,l,r,rr,a,b,c⟩:=h;have h1:=qhh c;have h2:=qg1 a b;omega
 have hm:=waa (λV=>qjb (A:=A) (cap:=cap) hmay.1 hmay.2.1 hmay.2.2 V);have hrm:=waa (λ(V:World) (hV:Below w.heap.size w V)=>qjv A cap ws V (hr.below hV) hlt v hcap h);have hof:=waa (λ(V:World) (hV:Below w.heap.size w V)=>show Calls Tryz.prog 24 #[.slice A ws.length cap] V λe w'=>∃p,e= .returned (.pointer (some ⟨p,0,none⟩))/\FaI V p n ws.length v 0 w' from by
  have hof:=qk4 (n:=n) (cap:=cap) (by rw[hn];exact hr.below hV) Zo Zo hlt;rw[hn] at hof;refine hof.mono ?_;rintro e w' ⟨p,rfl,hR,hB⟩;obtain⟨gs,gk,m,hq⟩:=hR.q;exact⟨p,rfl,ws,gs,gk,m,0,hq,h,rfl,hlt,Zo,hB⟩)
 have hwd:=waa (λ(B C:Option Addr) (d e:Nat) (V:World) (hB:Rd V B ws.length (u64V v)) (hC:Rd V C ws.length (u64V v))=>qjl hvl hmay.2.1 B C d e V hB hC);replace hFs:=waa hFs;replace hP:=waa hP;replace hf16:=waa hf16;replace hfl:=waa hfl;replace hn:=waa hn;clear hr hcap hlt hmay h hvl;generalize ws.length=N at hm hrm hof hwd hn ⊢;go_enter Tryz.func7,Tryz.ntmps7;go_wp2_with fail;refine(qcw w).mono ?_;rintro e w1 ⟨rfl,hB1⟩;replace hB1:=waa hB1;go_wp2_with fail;refine(hm.out _).mono ?_;rintro e w1' ⟨rfl,rfl⟩;have hrm1:=waa (hrm.out _ hB1.out);clear hm hrm;go_wp2_with fail;refine hrm1.out.mono ?_;rintro e w2 ⟨⟨WB,wd,rfl,hWR⟩,hB2⟩;have hB3:=waa (hB1.out.trans (hB2.mono hB1.out.size));have hof2:=waa (hof.out w2 hB3.out);replace hWR:=waa hWR;clear hof hrm1 hB2 hB1;go_wp2_with fail;refine hof2.out.mono ?_;rintro e w3 ⟨p,rfl,hI3⟩;replace hI3:=waa hI3;clear hof2;go_wp2_with fail;go_loopg [10,11,12,13] 6 (λk s10 s11 s12 s13 wr=>∃j:Nat,s10= .int .i64 (j:Int)/\6 - j<=k/\j<=6/\Hid (FaI w2 p n N v j wr))
 case atStart=>exact⟨0,rfl,Zo,Zo,hI3⟩
 case round=>
  obtain⟨j,rfl,hk,hj,hI⟩:=hrel;have hBw:Hid (Below w2.heap.size w2 wr):=waa (by obtain⟨_,_,_,_,_,_,_,_,_,_,hB⟩:=hI.out;exact hB);by_cases hgo:j<FN/\j<6
  ·obtain⟨hj1,hj2⟩:=hgo
   have z0:(0:Int)<=(j:Int):=Zo
   have z1:(j:Int)<(FN:Int):=Zo
   have z2:(j:Int)<6:=Zo
   obtain⟨f,hf⟩:∃f,fs[j]? =some f:=⟨_,waj (by rw[hfl.out];exact hj1)⟩
   have hfb:=hf16.out f (waq hf);obtain⟨f,rfl⟩:=waz hfb.1;obtain⟨fp,rfl,hfc⟩:=hFs.out.2 Zo;have cf0:wr.cell? (fp.add j)=some (.int .u16 (f:Int)):=by
    have hx:=hfc j _ (by rw[wa1,hf];rfl);exact(hBw.out.cell (waw (wak _ _ hx) hB3.out.size)).trans ((hB3.out.cell (wak _ _ hx)).trans hx)
   have hwr:IntKind.i64.wrap ((f:Int)%6000)=(f:Int)%6000:=wao _ Zo;have hop:=waa (qxa (show j<=6 by omega) hn.out hI.out ((f:Int)%6000));clear hfc hf hI hI3;go_wp2_with fail;refine hop.out.mono ?_;rintro e w4 ⟨X,c,rfl,⟨C,hC,hM⟩,-⟩;have hBM:Below w2.heap.size w2 w4:=by obtain⟨_,_,_,_,_,hB⟩:=hM;exact hB
   replace hM:=waa hM;have hPw:=λ(d:PD) (i:Nat) (hd:ds[i]? =some d)=>(hP.out.2.2 i d hd)
   by_cases hjp:j<PN
   ·have z3:(j:Int)<(PN:Int):=Zo
    obtain⟨d,hd⟩:∃d,ds[j]? =some d:=⟨_,waj (by rw[hP.out.1];exact hjp)⟩
    obtain⟨pp,rfl,hpc⟩:=hP.out.2.1 Zo;have cp0:w4.cell? (pp.add j)=some (.slice d.A d.n d.cap):=by
     have hx:=hpc j _ hd;exact(hBM.cell (waw (wak _ _ hx) hB3.out.size)).trans ((hB3.out.cell (wak _ _ hx)).trans hx)
    obtain⟨hdR,hdn⟩:=hPw d j hd;obtain⟨dA,dn,dc,dT⟩:=d;simp only at cp0 hdR hdn;have hpk:=waa (qpv (cap:=dc) (hdR.below hB3.out) hBM hdn);clear hpc hd hdR hPw hop hBw;by_cases hbig:500<dn
    ·have z4:(500:Int)<(dn:Int):=Zo
     have hfin:=waa (hB3.out.trans (hBM.mono hB3.out.size));clear hBM hpk hbig;go_wp2_with fail;go_ret;exact⟨rfl,hfin.out⟩
    ·have z4:¬(500:Int)<(dn:Int):=Zo
     clear hbig hBM;go_wp2_with fail;refine hpk.out.mono ?_;rintro e w5 ⟨bn,bl,rfl,hPk,hB5⟩;have hcr:=waa (qsh (N:=N) hn.out (hM.out.below hB5) hPk (show C<=(j+1)*100000 by omega));clear hPk hB5 hpk hM;go_wp2_with fail;refine hcr.out.mono ?_;rintro e w6 ⟨rfl,hI6⟩;have hkp:=waa (qv6 hn.out hI6);clear hI6 hcr;go_wp2_with fail;refine hkp.out.mono ?_;rintro e w7 ⟨⟨KB,kd,rfl,hmd⟩,hB7,hI7⟩;replace hmd:=waa hmd;replace hI7:=waa hI7;clear hkp hB7;go_wp2_with fail;refine hmd.out.mono ?_;rintro e w8 ⟨⟨MB,md,rfl,hMR⟩,hB8⟩;have hI8:=waa (hI7.out.below hB8);have hW8:Rd w8 WB N (u64V v):=by obtain⟨_,_,_,_,_,_,_,_,_,_,hB⟩:=hI8.out;exact hWR.out.below hB
     have hw8:=waa (hwd.out MB WB md wd w8 hMR hW8);clear hmd hMR hB8 hI7 hW8;go_wp2_with fail;refine hw8.out.mono ?_;rintro e w9 ⟨rfl,hB9⟩;have hI9:=waa (hI8.out.below hB9);clear hw8 hB9 hI8;go_wp2_with fail;go_roundg (6 - (j+1))
     case measure=>omega
     case rel=>exact⟨j+1,by go_num,Zo,Zo,hI9⟩
   ·have z3:¬(j:Int)<(PN:Int):=Zo
    have hpk:=waa (qpv (w0:=w2) (w:=w4) (A:=none) (len:=0) (cap:=0) (T:=[]) (Rd.nil_ _ _) hBM Zo);clear hPw hop hBw hBM;go_wp2_with fail;refine hpk.out.mono ?_;rintro e w5 ⟨bn,bl,rfl,hPk,hB5⟩;have hcr:=waa (qsh (N:=N) hn.out (hM.out.below hB5) hPk (show C<=(j+1)*100000 by omega));clear hPk hB5 hpk hM;go_wp2_with fail;refine hcr.out.mono ?_;rintro e w6 ⟨rfl,hI6⟩;have hkp:=waa (qv6 hn.out hI6);clear hI6 hcr;go_wp2_with fail;refine hkp.out.mono ?_;rintro e w7 ⟨⟨KB,kd,rfl,hmd⟩,hB7,hI7⟩;replace hmd:=waa hmd;replace hI7:=waa hI7;clear hkp hB7;go_wp2_with fail;refine hmd.out.mono ?_;rintro e w8 ⟨⟨MB,md,rfl,hMR⟩,hB8⟩;have hI8:=waa (hI7.out.below hB8);have hW8:Rd w8 WB N (u64V v):=by obtain⟨_,_,_,_,_,_,_,_,_,_,hB⟩:=hI8.out;exact hWR.out.below hB
    have hw8:=waa (hwd.out MB WB md wd w8 hMR hW8);clear hmd hMR hB8 hI7 hW8;go_wp2_with fail;refine hw8.out.mono ?_;rintro e w9 ⟨rfl,hB9⟩;have hI9:=waa (hI8.out.below hB9);clear hw8 hB9 hI8;go_wp2_with fail;go_roundg (6 - (j+1))
    case measure=>omega
    case rel=>exact⟨j+1,by go_num,Zo,Zo,hI9⟩
  ·have hB5:=waa (hB3.out.trans (hBw.out.mono hB3.out.size))
   have hop:=waa (qxa hj hn.out hI.out (-1));clear hI hI3 hBw;by_cases hjF:j<FN
   ·have z1:(j:Int)<(FN:Int):=Zo
    have z2:¬(j:Int)<6:=Zo
    clear hgo;go_wp2_with fail;refine hop.out.mono ?_;rintro e w4 ⟨X,c,rfl,-,hov⟩;obtain⟨rfl,Bq,F',C2,l',g2,D,hX,hA,hRg,hBM⟩:=hov Zd;have hans:=qdv hA Zs (λe=>by cases e);rw[hX] at hans;have hB6:=waa (hB3.out.trans (hBM.mono hB3.out.size));replace hans:=waa hans;replace hA:=waa hA;replace hRg:=waa hRg;replace hBM:=waa hBM;clear hov hop;go_wp2_with fail;refine hans.out.mono ?_;rintro e w5 ⟨u,rfl,hrow,-,hB7⟩;obtain⟨Y,cY,rfl,-⟩:=Rd.of_own hrow;have hans2:=qdv (hA.out.upd (Upd.of_below (F:=λ_=>False) hB7 (wab _)) (λ_ _ e=>e)) Zs (λe=>by cases e);rw[hX] at hans2;have hB8:=waa (hB6.out.trans (hB7.mono hB6.out.size));have hBM5:=waa (hBM.out.trans (hB7.mono hBM.out.size));have hR5:=waa (hRg.out.below (hB7.mono (by have:=hRg.out.base_le;omega)));replace hans2:=waa hans2;clear hA hRg hrow hB7 hB6 hBM hans;go_wp2_with fail;refine hans2.out.mono ?_;rintro e w6 ⟨u2,rfl,hrow,-,hB9⟩;obtain⟨Y2,cY2,rfl,hR⟩:=Rd.of_own hrow;obtain⟨q,rfl,cq⟩:=qa6 hR (k:=0) (show[0][0]? =some 0 from rfl);replace cq:w6.cell? q=some (Value.int .u64 0):=cq;have hkp:=qhd (hR5.out.below (hB9.mono (by have:=hR5.out.base_le;omega)));rw[hn.out] at hkp;have hB10:=waa (hB8.out.trans (hB9.mono hB8.out.size));have hBM6:=waa (hBM5.out.trans (hB9.mono hBM5.out.size));replace hkp:=waa hkp;clear hrow hR hB9 hB8 hR5 hBM5 hans2;go_wp2_with fail;refine hkp.out.mono ?_;rintro e w7 ⟨⟨KA,kd,rfl,hkd,hKR⟩,hB11⟩;have hB12:=waa (hB10.out.trans (hB11.mono hB10.out.size));have hw7:=waa (hwd.out KA WB kd wd w7 hKR (hWR.out.below (hBM6.out.trans (hB11.mono hBM6.out.size))));clear hkp hKR hB11 hB10 hBM6;go_wp2_with fail;refine hw7.out.mono ?_;rintro e w8 ⟨rfl,hB13⟩;have hfin:=waa (hB12.out.trans (hB13.mono hB12.out.size));clear hB13 hw7;go_wp2_with fail;go_ret;exact⟨rfl,hfin.out⟩
   ·have z1:¬(j:Int)<(FN:Int):=Zo
    clear hgo;go_wp2_with fail;refine hop.out.mono ?_;rintro e w4 ⟨X,c,rfl,-,hov⟩;obtain⟨rfl,Bq,F',C2,l',g2,D,hX,hA,hRg,hBM⟩:=hov Zd;have hans:=qdv hA Zs (λe=>by cases e);rw[hX] at hans;have hB6:=waa (hB3.out.trans (hBM.mono hB3.out.size));replace hans:=waa hans;replace hA:=waa hA;replace hRg:=waa hRg;replace hBM:=waa hBM;clear hov hop;go_wp2_with fail;refine hans.out.mono ?_;rintro e w5 ⟨u,rfl,hrow,-,hB7⟩;obtain⟨Y,cY,rfl,-⟩:=Rd.of_own hrow;have hans2:=qdv (hA.out.upd (Upd.of_below (F:=λ_=>False) hB7 (wab _)) (λ_ _ e=>e)) Zs (λe=>by cases e);rw[hX] at hans2;have hB8:=waa (hB6.out.trans (hB7.mono hB6.out.size));have hBM5:=waa (hBM.out.trans (hB7.mono hBM.out.size));have hR5:=waa (hRg.out.below (hB7.mono (by have:=hRg.out.base_le;omega)));replace hans2:=waa hans2;clear hA hRg hrow hB7 hB6 hBM hans;go_wp2_with fail;refine hans2.out.mono ?_;rintro e w6 ⟨u2,rfl,hrow,-,hB9⟩;obtain⟨Y2,cY2,rfl,hR⟩:=Rd.of_own hrow;obtain⟨q,rfl,cq⟩:=qa6 hR (k:=0) (show[0][0]? =some 0 from rfl);replace cq:w6.cell? q=some (Value.int .u64 0):=cq;have hkp:=qhd (hR5.out.below (hB9.mono (by have:=hR5.out.base_le;omega)));rw[hn.out] at hkp;have hB10:=waa (hB8.out.trans (hB9.mono hB8.out.size));have hBM6:=waa (hBM5.out.trans (hB9.mono hBM5.out.size));replace hkp:=waa hkp;clear hrow hR hB9 hB8 hR5 hBM5 hans2;go_wp2_with fail;refine hkp.out.mono ?_;rintro e w7 ⟨⟨KA,kd,rfl,hkd,hKR⟩,hB11⟩;have hB12:=waa (hB10.out.trans (hB11.mono hB10.out.size));have hw7:=waa (hwd.out KA WB kd wd w7 hKR (hWR.out.below (hBM6.out.trans (hB11.mono hBM6.out.size))));clear hkp hKR hB11 hB10 hBM6;go_wp2_with fail;refine hw7.out.mono ?_;rintro e w8 ⟨rfl,hB13⟩;have hfin:=waa (hB12.out.trans (hB13.mono hB12.out.size));clear hB13 hw7;go_wp2_with fail;go_ret;exact⟨rfl,hfin.out⟩
theorem qon(w:World)(A:Option Addr)(n c:Nat)(ws:List Nat)(FA:Option Addr)(FN fc:Nat)(fs:List Int)(PA:Option Addr)(PN pc:Nat)(ds:List PD)(hn:ws.length=n)(hm:n<=maxLen)(hc:n<=c)(hA:(A=none/\n=0/\c=0)\/∃q,A=some q)(hr:Rd w A n (u64V ws))(hw:∀y∈ws,y<18446744073709551616)(hfl:fs.length=FN)(hFm:FN<=maxLen)(hFc:FN<=fc)(hFs:Rd w FA FN (fs.map (Value.int .u16)))(hf:∀z∈fs,(Lit.int .u16 z).wf=true)(hPm:PN<=maxLen)(hP:PkRd w PA PN ds):
  Calls Tryz.prog 7 #[.slice A n c,.slice FA FN fc,.slice PA PN pc] w λe w'=>e= .returned (.bool true)/\Below w.heap.size w w':=by
 subst hn;have hmx:maxLen<=9223372036854775807:=by decide
 by_cases hmay:8<=ws.length/\ws.length<=2000/\ws.length%8=0
 ·by_cases h:∃v,MendR ws v
  ·obtain⟨v,h⟩:=h
   exact qqu hr hc hw hmay h hfl hFs (λz hz=>by
    have:=hf z hz
    simp[Lit.wf,IntKind.min,IntKind.max,IntKind.signed,IntKind.bits] at this
    omega) Zo hP Zo
  ·exact qsg hr hc hw hmay h
 ·exact qqp hmay
end
end Go.Proofs.YtocncmbeinmiaaaGreat
