/- Parts. No condition. -/
import Derived.Test.YtocncmbeinmiaaaGreatJoinU32
import Derived.Test.YtocncmbeinmiaaaGreatJoinU28
set_option linter.unusedVariables false
set_option maxRecDepth 100000
set_option maxHeartbeats 8000000
namespace Go.Proofs.YtocncmbeinmiaaaGreat
open Go Go.RowKit
def Goes{τ α:Type}(n:Nat)(t:AP (DM×τ) α)(D:DM)(qs:List AskT)(a:α)(k:Nat):Prop:=
 ∀(sp:Nat->Bool) (l:List Nat) (x:τ),l.length+k<=99000->
  (∃l',l'.length=k/\t sp l.length l (D,x)= .done a (l.length+k) (l++l') (runL n D qs,x))\/
  (∃l' m,(m<=qs.length/\l'.length<=l.length+k)/\t sp l.length l (D,x)= .stop false l' (runL n D (qs.take m),x)/\∃j,sp j=true)
section
variable {τ α β:Type} {n nl:Nat} {who:Int} {D:DM}
theorem Goes.ret(a:α):Goes (τ:=τ) n (AP.ret a) D [] a 0:=λsp l x _=> .inl ⟨[],rfl,by simp[AP.ret,runL]⟩
theorem Goes.of{t:AP (DM×τ) α}{qs qs2:List AskT}{a a2:α}{k k2:Nat}(h:Goes n t D qs a k)(e1:qs=qs2)(e2:a=a2)(e3:k=k2):Goes n t D qs2 a2 k2:=by subst e1 e2 e3;exact h
theorem Goes.bind{t:AP (DM×τ) α}{f:α->AP (DM×τ) β}{qs qs2:List AskT}{a:α}{b:β}{k m:Nat}(h:Goes n t D qs a k)(h2:Goes n (f a) (runL n D qs) qs2 b m):Goes n (t.bind f) D (qs++qs2) b (k+m):=by
 intro sp l x hl;rcases h sp l x Zo with ⟨l1,n1,e1⟩|⟨l1,m1,⟨h1,h1'⟩,e1,hs⟩
 ·have e3:(l++l1).length=l.length+k:=by rw[was,n1]
  rcases h2 sp (l++l1) x Zo with ⟨l2,n2,e2⟩|⟨l2,m2,⟨h3,h3'⟩,e2,hs⟩
  ·refine .inl ⟨l1++l2,by rw[was];omega,?_⟩
   rw[AP.bind_done e1,<-e3,e2,e3,wbm,we8,qh0]
  ·refine .inr ⟨l2,qs.length+m2,⟨by rw[was];omega,Zo⟩,?_,hs⟩
   have ht:(qs++qs2).take (qs.length+m2)=qs++qs2.take m2:=by rw[wgf,wa2 (l:=qs) Zo,Nat.add_sub_cancel_left]
   rw[AP.bind_done e1,<-e3,e2,ht,qh0]
 ·refine .inr ⟨l1,m1,⟨by rw[was];omega,Zo⟩,?_,hs⟩
  rw[AP.bind_stop e1,wdp h1]
theorem Goes.ask{q:DM->Option (Nat×DM)}{f:Nat->α}{y:Nat}{qs:List AskT}(h:q D=some (y,runL n D qs)):Goes (τ:=τ) n (AP.ask (onM q) f) D qs (f y) 1:=by
 intro sp l x hl;unfold AP.ask;rw[wbp (wab _)];simp only
 rw[if_neg Zo];by_cases hs:sp l.length=true
 ·rw[if_pos hs]
  exact .inr ⟨l,0,⟨wau _,Zo⟩,rfl,_,hs⟩
 ·rw[if_neg hs]
  refine .inl ⟨[y],rfl,?_⟩;simp only[onM,h,wbo]
theorem Goes.load{a:Int}{y:Nat}(h0:qay n a=true)(hy:D.S[a.toNat]? =some y):Goes (τ:=τ) n (qdl n nl who a) D [] y 1:=
 Goes.ask (q:=doF n nl who 1 a 0) (f:=id) (y:=y) (by simp[doF,h0,hy,runL])
theorem Goes.loads:∀(zs:List Int) (ws us:List Nat),us.length=zs.length->(∀(i:Nat) (z:Int),zs[i]? =some z->qay n z=true/\D.S[z.toNat]? =us[i]?)->Goes (τ:=τ) n (qbg n nl who zs ws) D [] (ws++us) zs.length:=by
 intro zs;induction zs with
 |nil=>intro ws us hu _;obtain rfl:=wdu hu;rw[wbl];exact Goes.ret ws
 |cons z r ih=>
  intro ws us hu h;cases us with
  |nil=>simp at hu
  |cons u us=>
   obtain⟨h1,h2⟩:=h 0 z rfl;have h3:=(Goes.load (τ:=τ) (nl:=nl) (who:=who) h1 h2).bind (f:=λy=>qbg n nl who r (ws++[y])) (ih (ws++[u]) us (by simpa using hu) (λi z hz=>h (i+1) z hz));rw[wbm,Nat.add_comm] at h3;exact h3
theorem Goes.each:∀(qs:List AskT),(∀e∈qs,qnh e=true)->∀(D:DM),Goes (τ:=τ) n (AP.each (askA n nl who) qs) D qs () qs.length:=by
 intro qs;induction qs with
 |nil=>intro _ D;exact Goes.ret ()
 |cons e r ih=>
  intro hk D;have h1:Goes (τ:=τ) n (askA n nl who e) D [e] () 1:=Goes.ask (q:=doF n nl who e.1 e.2.1 e.2.2) (f:=λ_=>()) (y:=0) (by rw[qsa (hk e Zs) n nl who D];rfl);have h2:=h1.bind (f:=λ_=>AP.each (askA n nl who) r) (ih (λe' h=>hk e' (by simp[h])) _);rw[Nat.add_comm] at h2;exact h2
theorem Goes.keep(es:List (Int×Nat)):Goes (τ:=τ) n (qc9 n nl who es) D (qbp es) () (qbp es).length:=by
 rw[qzs];exact Goes.each _ qza D
end
def qbf(ps:List (List (Int×Nat))):List AskT:=(ps.map qbp).flatten
theorem qgk(a b:List (List (Int×Nat))):qbf (a++b)=qbf a++qbf b:=by simp[qbf]
theorem qf5(a b:List (List (Int×Nat)))(S:List Nat):putP (a++b) S=putP b (putP a S):=by simp[putP]
def qdi(ws:List Nat)(t:Nat):List (List (Int×Nat)):=if ws.getD (16+40*t) 0=0 then[] else(if qak ws t=[] then[] else[qak ws t])++[[(((16+40*t:Nat):Int),0)]]
def qci(ws:List Nat):Nat->List (List (Int×Nat))
 |0=>[]
 |t+1=>qci ws t++qdi ws t
def qhl(ws:List Nat)(t:Nat)(o:List Nat):List Nat:=(putE o (qak ws t)).set (16+40*t) 0
theorem q3u{ws o:List Nat}{t:Nat}(ho:ws.getD (16+40*t) 0=0->o[16+40*t]? =some 0):putP (qdi ws t) o=qhl ws t o:=by
 unfold qdi qhl;by_cases h0:ws.getD (16+40*t) 0=0
 ·rw[if_pos h0,qfs h0]
  have hz:=ho h0;show o=o.set (16+40*t) 0
  apply wa3
  intro i;rw[wcx];by_cases hi:16+40*t=i
  ·subst hi
   rw[if_pos rfl,if_pos (wan.1 hz).1,hz]
  ·rw[if_neg hi]
 ·rw[if_neg h0]
  by_cases he:qak ws t=[]
  ·rw[if_pos he,he]
   show o.set ((16+40*t:Nat):Int).toNat 0=_
   rw[wam];rfl
  ·rw[if_neg he]
   show(putE o (qak ws t)).set ((16+40*t:Nat):Int).toNat 0=_
   rw[wam]
section
variable {τ:Type} {ws:List Nat} {s l r:Int} {n nl:Nat} {who:Int}
theorem qi8{t:Nat}{o:List Nat}(h:repF s l r ws (t+1)=some o):∃o',repF s l r ws t=some o'/\(qak ws t).all (λe=>qbj s l r e.1)=true/\o=qhl ws t o':=by
 cases hp:repF s l r ws t with
 |none=>rw[qkw hp (wd7 t)] at h;cases h
 |some o'=>
  cases hm:(qak ws t).all (λe=>qbj s l r e.1) with
  |false=>rw[qgz hm] at h;cases h
  |true=>
   rw[qdw hp hm] at h;injection h with h;exact⟨o',rfl,rfl,h.symm⟩
theorem qux(hf:fitB s l r ws.length=true){t:Nat}{o:List Nat}(ht:(t:Int)<l)(h:repF s l r ws t=some o)(h0:ws.getD (16+40*t) 0=0):o[16+40*t]? =some 0:=by
 have hb:=qaw hf;rw[qgr hf Zo h _ (wab _) Zo,waj Zo];rw[wax,waj Zo] at h0;exact congrArg some h0
theorem qgb(hf:fitB s l r ws.length=true):∀(t:Nat) (o:List Nat),(t:Int)<=l->repF s l r ws t=some o->putP (qci ws t) ws=o
 |0,o,_,h=>by injection h with h
 |t+1,o,ht,h=>by
  obtain⟨o',h1,h2,rfl⟩:=qi8 h;show putP (qci ws t++qdi ws t) ws=_
  rw[qf5,qgb hf t o' Zo h1];exact q3u (qux hf Zo h1)
theorem qtw(hf:fitB s l r ws.length=true)(hn:n*8=ws.length){t:Nat}(ht:(t:Int)<l)(hm:(qak ws t).all (λe=>qbj s l r e.1)=true):∀p∈qdi ws t,∀e∈p,0<=e.1/\e.1<((n*8:Nat):Int):=by
 have hb:=qaw hf;intro p hp e he;unfold qdi at hp;split at hp
 ·cases hp
 ·rcases wa6.1 hp with hp|hp
  ·split at hp
   ·cases hp
   ·obtain rfl:p=_:=by simpa using hp
    have:=(imay_iff.1 (wcp.1 hm e he)).2
    omega
  ·obtain rfl:p=_:=by simpa using hp
   obtain rfl:e=_:=by simpa using he
   simp only
   omega
theorem ql6(hf:fitB s l r ws.length=true)(hn:n*8=ws.length):∀(t:Nat) (o:List Nat),(t:Int)<=l->repF s l r ws t=some o->∀p∈qci ws t,∀e∈p,0<=e.1/\e.1<((n*8:Nat):Int)
 |0,o,_,h=>λp hp=>(by cases hp)
 |t+1,o,ht,h=>λp hp=>by
  obtain⟨o',h1,h2,rfl⟩:=qi8 h;rcases wa6.1 hp with hp|hp
  ·exact ql6 hf hn t o' Zo h1 p hp
  ·exact qtw hf hn Zo h2 p hp
theorem q27{t:Nat}{D:DM}(hf:fitB s l r ws.length=true)(hn:n*8=ws.length)(ht:(t:Int)<l)(hS:∀i,16+40*t<=i->i<56+40*t->D.S[i]? =ws[i]?):
  ∃k y,k<=33/\Goes (τ:=τ) n (qc3 n nl who s l r (t:Int)) D [] (y,qak ws t) k/\y=ws.getD (16+40*t) 0/\(y=0->k=1):=by
 have hb:=qaw hf;have hl:qbl s l r (t:Int)=((16+40*t:Nat):Int):=(if_pos ⟨(fitB_iff.1 hf).1,Zo,ht⟩).trans Zo;have he:entN s l r (t:Int) 0=((24+40*t:Nat):Int):=(if_pos ⟨(fitB_iff.1 hf).1,⟨Zo,ht⟩,Zo,Zo⟩).trans Zo;have hx:ws[16+40*t]? =some (ws.getD (16+40*t) 0):=by rw[wax,waj Zo];rfl
 have h1:=Goes.load (τ:=τ) (nl:=nl) (who:=who) (n:=n) (D:=D) (a:=((16+40*t:Nat):Int)) (y:=ws.getD (16+40*t) 0) (thereB_iff.2 Zo) (by rw[wam,hS _ Zo Zo,hx]);by_cases h0:ws.getD (16+40*t) 0=0
 ·refine⟨1+0,0,Zo,?_,h0.symm,λ_=>rfl⟩
  unfold qc3;rw[hl];refine h1.bind (qs2:=[]) ?_;rw[if_pos h0,qfs h0];exact Goes.ret _
 ·refine⟨1+((qbm ((24+40*t:Nat):Int) 32).length+0),_,by simp[qbm],?_,rfl,λe=>absurd e h0⟩
  unfold qc3;rw[hl,he];refine h1.bind (qs2:=[]) ?_;rw[if_neg h0];refine Goes.bind (qs:=[]) (qs2:=[]) (Goes.loads (qbm ((24+40*t:Nat):Int) 32) [] ((ws.drop (24+40*t)).take 32) (by simp[qbm];omega) (λi z hz=>?_)) ?_
  ·obtain⟨hi,rfl⟩:i<32/\z=((24+40*t+i:Nat):Int):=by
    simp only[qbm,wa1] at hz;obtain⟨j,hj,rfl⟩:=wcz.1 hz;obtain⟨hj1,rfl⟩:=wan.1 hj;simp only[we5] at hj1;simp only[whc];exact⟨hj1,Zo⟩
   refine⟨thereB_iff.2 Zo,?_⟩;show D.S[((24+40*t+i:Nat):Int).toNat]? =_
   rw[wam,hS _ Zo Zo,wbf hi,wbd]
  ·rw[wba]
   exact Goes.ret _
theorem q2h{n:Nat}{zs:List Int}(h:∀z∈zs,0<=z/\z<((n*8:Nat):Int))(hn:n<=2048):(qb4 zs).length<=n:=by
 have h1:=qui h hn;have h2:=qlg zs;generalize qb4 zs=L at h1 h2;have h3:∀(L:List Int) (b:Int),L.Pairwise (·< ·)->(∀a∈L,b<=a/\∃j,j<n/\a=((8*j:Nat):Int))->0<=b->(L.length:Int)*8<=max 0 (8*(n:Int) - b+7):=by
  intro L;induction L with
  |nil=>intro b _ _ _;simp;omega
  |cons a r ih=>
   intro b hp hm hb;obtain⟨h4,j,h5,h6⟩:=hm a Zs;obtain⟨h7,h8⟩:=wgd.1 hp;have h9:=ih (a+8) h8 (λc hc=>by
    obtain⟨h10,j',h11,h12⟩:=hm c (by simp[hc]);have:=h7 c hc
    exact⟨Zo,j',h11,h12⟩) Zo
   simp only[way];omega
 have h4:=h3 L 0 h2 (λa ha=>by
  obtain⟨j,h5,h6⟩:=h1 a ha;exact⟨Zo,j,h5,h6⟩) Zo
 omega
theorem qkt{es:List (Int×Nat)}(hn:n<=2048)(h:∀e∈es,0<=e.1/\e.1<((n*8:Nat):Int)):(qbp es).length<=es.length+n+1:=by
 have:=q1d es
 have:=q2h (n:=n) (zs:=es.map (·.1)) (λz hz=>by
  obtain⟨e,he,rfl⟩:=wav.1 hz;exact h e he) hn
 omega
theorem q3s{t:Nat}{D:DM}(hf:fitB s l r ws.length=true)(hn:n*8=ws.length)(ht:(t:Int)<l)(hS:∀i,16+40*t<=i->i<56+40*t->D.S[i]? =ws[i]?)(hm:(qak ws t).all (λe=>qbj s l r e.1)=true):
  ∃k,k<=52+2*n/\(ws.getD (16+40*t) 0=0->k=1)/\Goes (τ:=τ) n (qb6 n nl who s l r (t:Int)) D (qbf (qdi ws t)) (decide (qak ws t≠[])) k:=by
 have hb:=qaw hf;obtain⟨k1,y,hk1,h1,hy,hk0⟩:=q27 (τ:=τ) (nl:=nl) (who:=who) hf hn ht hS;have hl:qbl s l r (t:Int)=((16+40*t:Nat):Int):=(if_pos ⟨(fitB_iff.1 hf).1,Zo,ht⟩).trans Zo;have hin:=qtw hf hn ht hm;by_cases h0:y=0
 ·have he:qak ws t=[]:=qfs (hy▸h0)
  refine⟨k1+0,Zo,λ_=>by rw[hk0 h0],?_⟩;have hq:qdi ws t=[]:=if_pos (hy▸h0);rw[hq];unfold qb6;refine h1.bind (qs2:=[]) ?_;rw[if_pos h0,he];exact Goes.ret _
 ·have hy0:¬ws.getD (16+40*t) 0=0:=λe=>h0 (hy.trans e)
  have hq:qdi ws t=(if qak ws t=[] then[] else[qak ws t])++[[(((16+40*t:Nat):Int),0)]]:=if_neg hy0;have hls:(qbp [(((16+40*t:Nat):Int),0)]).length<=1+n+1:=qkt (n:=n) Zo (hin _ (by rw[hq];simp));obtain⟨k2,qa,hk2,hqa,h2⟩:∃k qa,k<=16+n+1/\qa=qbf (if qak ws t=[] then[] else[qak ws t])/\Goes (τ:=τ) n (if qgx s l r (qak ws t)=true then qc9 n nl who (qak ws t) else AP.ret ()) D qa () k:=by
   by_cases he:qak ws t=[]
   ·refine⟨0,[],Zo,by rw[if_pos he];rfl,?_⟩
    rw[ql3 hm,if_neg (by simp[he])];exact Goes.ret _
   ·have hle:(qbp (qak ws t)).length<=(qak ws t).length+n+1:=qkt (n:=n) Zo (hin _ (by rw[hq,if_neg he];simp))
    have:=qkb ws t
    refine⟨(qbp (qak ws t)).length,qbp (qak ws t),Zo,by rw[if_neg he];simp[qbf],?_⟩;rw[ql3 hm,if_pos (by simp[he])];exact Goes.keep _
  refine⟨k1+(k2+((qbp [(((16+40*t:Nat):Int),0)]).length+0)),Zo,λe=>absurd e hy0,?_⟩;rw[hq,qgk,<-hqa];unfold qb6;refine Goes.of (h1.bind (qs2:=qa++(qbp [(((16+40*t:Nat):Int),0)]++[])) ?_) (by simp[qbf]) rfl rfl;rw[if_neg h0];unfold qep;refine h2.bind ?_;rw[hl];refine(Goes.keep _).bind ?_;rw[ql3 hm];exact Goes.ret _
theorem q0u(hf:fitB s l r ws.length=true)(hn:n*8=ws.length){D:DM}(hC:CleanD n D)(hD:D.S=ws):∀(t:Nat) (o:List Nat),(t:Int)<=l->repF s l r ws t=some o->
  ∃k,k<=(52+2*n)*t/\((∀j,j<t->ws.getD (16+40*j) 0=0)->k=t)/\Goes (τ:=τ) n (AP.fold (qis n nl who s l r) (List.range t) 0) D (qbf (qci ws t)) (qk8 ws t) k:=by
 have hb:=qaw hf;intro t;induction t with
 |zero=>
  intro o _ h;exact⟨0,Zo,λ_=>rfl,Goes.ret _⟩
 |succ t ih=>
  intro o ht h;obtain⟨o',h1,h2,rfl⟩:=qi8 h;obtain⟨k1,hk1,hz1,g1⟩:=ih o' Zo h1;obtain⟨N,e1,e2⟩:=qj7 (n:=n) Zo (qci ws t) D hC (ql6 hf hn t o' Zo h1);have hS:(runL n D (qbf (qci ws t))).S=o':=by
   unfold qbf;rw[e1];show putP (qci ws t) D.S=o'
   rw[hD];exact qgb hf t o' Zo h1
  obtain⟨k2,hk2,hz2,g2⟩:=q3s (τ:=τ) (nl:=nl) (who:=who) (t:=t) (D:=runL n D (qbf (qci ws t))) hf hn Zo (λi q1 q2=>by rw[hS];exact qgr hf Zo h1 i q1 Zo) h2;refine⟨k1+(k2+0+0),by rw[Nat.mul_succ];omega,λhz=>by rw[hz1 (λj hj=>hz j Zo),hz2 (hz t Zo)],?_⟩;show Goes n _ D (qbf (qci ws t++qdi ws t)) _ _
  rw[qgk,wcd,AP.fold_append];refine g1.bind ?_;show Goes n ((qis n nl who s l r t (qk8 ws t)).bind λd=>AP.ret d) _ _ _ _
  refine Goes.of (Goes.bind (qs2:=[]) ?_ (Goes.ret _)) (wbl _) rfl rfl;rw[qxr];exact Goes.of (g2.bind (qs2:=[]) (Goes.ret _)) (wbl _) rfl rfl
end
theorem q2t{s l r:Int}(hm:mayB s l r=true):∀x∈qa8 s l r,x<18446744073709551616:=by
 intro x hx;rcases wa6.1 hx with h|h
 ·exact qacc hm x h
 ·rw[(wg9.1 h).2];decide
theorem qqf{w:World}{base B g n cap:Nat}{e:TypeId}{xs:List Value}(h:w.ownsRow base e 8 (.slice (some ⟨g,0,none⟩) n cap) n xs)(hb:B<=g):w.ownsRow B e 8 (.slice (some ⟨g,0,none⟩) n cap) n xs:=by
 obtain⟨e1,e2⟩:=h;refine⟨e1,?_⟩;rcases e2 with ⟨e2,e3⟩|⟨g',cap',cur,a1,a2,a3⟩
 ·cases e2
 ·have hg:g=g':=by
   injection a1 with a1;injection a1 with a1;injection a1
  exact .inr ⟨g',cap',cur,a1,hg▸hb,a3⟩
theorem RegQ.raise{w:World}{base B p n c gs gk m:Nat}{S K:List Nat}{f:Nat->Option (List Nat)}(h:RegQ w base p n c gs gk m S K f)(hB:∀k,rgF p gs gk m k->B<=k):RegQ w B p n c gs gk m S K f:=by
 obtain⟨cs,ck,st,D,h1,h2,h3,h4,h5,h6,h6',hp,hs,hk,hm,hD⟩:=h;exact⟨cs,ck,st,D,hB p (.inl rfl),hB m (.inr (.inr (.inr rfl))),h3,h4,h5,h6,h6',hp,qqf hs (hB gs (.inr (.inl rfl))),qqf hk (hB gk (.inr (.inr (.inl rfl)))),hm,hD⟩
def PlanR(ws:List Nat)(s l r:Int)(fx:List (Int×Nat)):Prop:=∃rr v,Hit ws s l r/\repF s l r ws l.toNat=some rr/\StandR rr v/\fx=qba rr v ws.length
section
variable {ws:List Nat} {s l r s' l' r':Int} {fx fx':List (Int×Nat)}
theorem PlanR.one(h:PlanR ws s l r fx)(h':PlanR ws s' l' r' fx'):s=s'/\l=l'/\r=r'/\fx=fx':=by
 obtain⟨rr,v,a1,a2,a3,rfl⟩:=h;obtain⟨rr',v',b1,b2,b3,rfl⟩:=h';obtain⟨rfl,rfl,rfl⟩:=a1.one b1;obtain rfl:rr=rr':=by rw[a2] at b2;injection b2
 obtain rfl:=b3.one a3;exact⟨rfl,rfl,rfl,rfl⟩
def qgs(pl:List Nat->Option (Int×Int×Int×List (Int×Nat))):Prop:=
 (∀(ws:List Nat) (s l r:Int) (fx:List (Int×Nat)),PlanR ws s l r fx->pl ws=some (s,l,r,fx))/\∀ws:List Nat,(¬∃v,MendR ws v)->pl ws=none
theorem qk0:∃pl,qgs pl:=by
 have h:∀ws:List Nat,∃o:Option (Int×Int×Int×List (Int×Nat)),(∀(s l r:Int) (fx:List (Int×Nat)),PlanR ws s l r fx->o=some (s,l,r,fx))/\((¬∃v,MendR ws v)->o=none):=λws=>by
  by_cases h:∃v,MendR ws v
  ·obtain⟨v,s,l,r,rr,a1,a2,a3⟩:=h
   refine⟨some (s,l,r,qba rr v ws.length),λs' l' r' fx' h'=>?_,λhn=>absurd ⟨v,s,l,r,rr,a1,a2,a3⟩ hn⟩;obtain⟨rfl,rfl,rfl,rfl⟩:=PlanR.one ⟨rr,v,a1,a2,a3,rfl⟩ h';rfl
  ·refine⟨none,λs' l' r' fx' h'=>?_,λ_=>rfl⟩
   obtain⟨rr,v,a1,a2,a3,-⟩:=h';exact absurd ⟨v,_,_,_,rr,a1,a2,a3⟩ h
 obtain⟨f,hf⟩:=Classical.axiomOfChoice h;exact⟨f,λws=>(hf ws).1,λws=>(hf ws).2⟩
end
section
variable {τ:Type}
def qdf(pl:List Nat->Option (Int×Int×Int×List (Int×Nat)))(n nl:Nat)(who:Int)(size:Nat):AP (DM×τ) Nat:=
 (qbg n nl who (qbm 0 size) []).bind λws=>match pl ws with
  |none=>AP.ret 11
  |some p=>(qdy n nl who p.1 p.2.1 p.2.2.1).bind λ_=>(fixA n nl who p.2.2.2).bind λ_=>AP.ret 0
def qds(pl:List Nat->Option (Int×Int×Int×List (Int×Nat)))(n nl:Nat)(who:Int)(size:Nat):AP (DM×τ) (List Nat):=(qdf pl n nl who size).bind λk=>AP.ret [k]
end
def qi7(fx:List (Int×Nat)):List (List (Int×Nat)):=if fx=[] then[] else[fx]
def qcl(ws:List Nat)(l:Int)(rr v:List Nat):List (List (Int×Nat)):=qci ws l.toNat++qi7 (qba rr v ws.length)
theorem qia{rr v:List Nat}{N:Nat}{e:Int×Nat}(h:e∈qba rr v N):∃a:Nat,a<N/\e=((a:Int),v.getD a 0):=by
 obtain⟨a,ha,he⟩:=wfy.1 h;split at he
 ·cases he
 ·injection he with he
  exact⟨a,wcc.1 ha,he.symm⟩
section
variable {τ:Type} {pl:List Nat->Option (Int×Int×Int×List (Int×Nat))} {ws rr v:List Nat} {s l r:Int} {n nl:Nat} {who:Int}
theorem qg3(hh:Hit ws s l r)(hp:repF s l r ws l.toNat=some rr):fitB s l r ws.length=true/\rr.length=ws.length:=by
 have hf:fitB s l r ws.length=true:=fitB_iff.2 ⟨hh.1,hh.2.1⟩;have hb:=qaw hf;exact⟨hf,(qfv hf Zo hp).1⟩
theorem qjx(hpl:qgs pl)(hh:Hit ws s l r)(hp:repF s l r ws l.toNat=some rr)(hst:StandR rr v)(hn:n*8=ws.length):
  ∃k,k<=10*ws.length+100/\((∀j:Nat,(j:Int)<l->ws.getD (16+40*j) 0=0)->v=rr->k=ws.length+l.toNat)/\Goes (τ:=τ) n (qds pl n nl who ws.length) (ofD ws n nl) (qbf (qcl ws l rr v)) [0] k:=by
 obtain⟨hf,hrl⟩:=qg3 hh hp;have hb:=qaw hf;have h1:Goes (τ:=τ) n (qbg n nl who (qbm 0 ws.length) []) (ofD ws n nl) [] ([]++ws) (qbm 0 ws.length).length:=Goes.loads _ _ _ (by simp[qbm]) (λi z hz=>by
  obtain⟨hi,rfl⟩:i<ws.length/\z=((i:Nat):Int):=by
   simp only[qbm,wa1] at hz;obtain⟨j,hj,rfl⟩:=wcz.1 hz;obtain⟨hj1,rfl⟩:=wan.1 hj;simp only[we5] at hj1;simp only[whc];exact⟨hj1,Zo⟩
  refine⟨thereB_iff.2 Zo,?_⟩;rw[wam];rfl)
 have hlen:(qbm 0 ws.length).length=ws.length:=by simp[qbm]
 rw[hlen,wba] at h1;obtain⟨kf,hkf,hkz,h2⟩:=q0u (τ:=τ) (nl:=nl) (who:=who) (D:=ofD ws n nl) hf hn (qkg hn.symm) rfl l.toNat rr Zo hp;have hkf4:kf<=(52+2*n)*4:=wap hkf (Nat.mul_le_mul_left _ Zo);obtain⟨kx,hkx,hkx0,h3⟩:∃kx,kx<=ws.length+n+1/\(qba rr v ws.length=[]->kx=0)/\Goes (τ:=τ) n (fixA n nl who (qba rr v ws.length)) (runL n (ofD ws n nl) (qbf (qci ws l.toNat))) (qbf (qi7 (qba rr v ws.length))) () kx:=by
  by_cases he:qba rr v ws.length=[]
  ·refine⟨0,Zo,λ_=>rfl,?_⟩
   unfold fixA;rw[if_pos he,he];exact Goes.ret _
  ·have hle:(qbp (qba rr v ws.length)).length<=(qba rr v ws.length).length+n+1:=qkt (n:=n) Zo (λe he=>by
    obtain⟨a,ha,rfl⟩:=qia he;simp only
    omega)
   have:=qmd rr v ws.length
   refine⟨(qbp (qba rr v ws.length)).length,Zo,λe=>absurd e he,?_⟩;unfold fixA;rw[if_neg he,qi7,if_neg he];refine Goes.of (Goes.keep _) ?_ rfl rfl;simp[qbf]
 refine⟨ws.length+(kf+(kx+0))+0,Zo,λhq hv=>?_,?_⟩
 ·have hd:qba rr v ws.length=[]:=by
   subst hv;unfold qba;refine List.filterMap_eq_nil_iff.2 (λi _=>?_);rw[if_pos rfl]
  rw[hkx0 hd,hkz (λj hj=>hq j Zo)];omega
 ·unfold qds qdf
  refine Goes.of (Goes.bind (qs:=qbf (qcl ws l rr v)) (qs2:=[]) ?_ (Goes.ret _)) (wbl _) rfl rfl;refine Goes.bind (qs:=[]) (qs2:=qbf (qcl ws l rr v)) h1 ?_;rw[hpl.1 _ _ _ _ _ ⟨rr,v,hh,hp,hst,rfl⟩];show Goes n ((qdy n nl who s l r).bind λ_=>(fixA n nl who (qba rr v ws.length)).bind λ_=>AP.ret 0) _ _ _ _
  unfold qcl;rw[qgk,qj6 hh.1];refine Goes.bind h2 ?_;exact Goes.of (Goes.bind (qs2:=[]) h3 (Goes.ret _)) (wbl _) rfl rfl
end
section
variable {A:Option Addr} {cap:Nat} {ws rr v:List Nat} {s l r:Int} {w:World}
theorem q9a(B:Option Addr)(d n:Nat)(rr:List Nat)(hrl:rr.length=n)(hd:n<=d)(hl:n<=2000)(hlt:∀y∈rr,y<18446744073709551616)(hh:Hit rr s l r)(V:World)(hR:Rd V B n (u64V rr)):
  Calls Tryz.prog 53 #[.slice B n d] V λe w'=>e= .returned (.tuple #[.agg #[.int .i64 s,.int .i64 l,.int .i64 r],.int .i64 0])/\Below V.heap.size V w':=by
 subst hrl;exact(qec B d rr V hR hd Zo hlt).mono λe w' ⟨h1,h2⟩=>⟨h1.is hh,h2⟩
theorem q18(hr:Rd w A ws.length (u64V ws))(hcap:ws.length<=cap)(hlt:∀y∈ws,y<18446744073709551616)(hh:Hit ws s l r)(hp:repF s l r ws l.toNat=some rr)(hst:StandR rr v):
  Calls Tryz.prog 118 #[.slice A ws.length cap] w λe w'=>(∃u,e= .returned (.tuple #[.agg #[.int .i64 s,.int .i64 l,.int .i64 r],u,.int .i64 0])/\w'.ownsRow w.heap.size 152 2 u (qba rr v ws.length).length (eV (qba rr v ws.length)))/\Below w.heap.size w w':=by
 have hrl:=qg1 hh hp;obtain⟨hh2,-⟩:=q1q hh hp;have hl2:ws.length<=2000:=by have:=qaw (fitB_iff.2 ⟨hh.1,hh.2.1⟩:fitB s l r ws.length=true);omega
 have h64:∀y∈rr,y<18446744073709551616:=qg2 hlt hp;have hrp:=λ(V:World) (hV:Below w.heap.size w V)=>qkl A cap ws V (hr.below hV) hlt hcap hh hp
 have hfx:=λ(B:Option Addr) (d:Nat) (V:World) (hR:Rd V B rr.length (u64V rr)) (hd:rr.length<=d)=>q8z B d rr.length rr v V hR rfl h64 hd hst
 have hge:=λ(B:Option Addr) (d:Nat) (hd:ws.length<=d) (V:World) (hR:Rd V B ws.length (u64V rr))=>q9a B d ws.length rr hrl hd hl2 h64 hh2 V hR
 rw[hrl] at hrp hfx;generalize hfl:qba rr v ws.length=fx at hfx ⊢;generalize ws.length=n at hrp hfx hge;have hg0:=waa (Gi.new w 0 0 0);have hB0:=waa (qa7 w 0 0 0);replace hrp:=waa hrp;replace hfx:=waa hfx;replace hge:=waa hge;clear hr hh hp hst hrl hh2 hl2 h64 hlt hcap hfl;go_enter Tryz.func118,Tryz.ntmps118;go_wp2_with fail;refine(hrp.out _ hB0.out).mono ?_;rintro e w1 ⟨⟨B,d,rfl,hd,hR⟩,hB1⟩;have hf1:=waa (hfx.out B d w1 hR hd);have hg1:=waa (hge.out B d hd);have hgi1:=waa (hg0.out.below hB1 hg0.out.lt);replace hR:=waa hR;replace hB1:=waa (hB0.out.trans (hB1.mono hB0.out.size));clear hrp hfx hge hg0 hB0;go_wp2_with fail;refine hf1.out.mono ?_;rintro e w2 ⟨⟨u,rfl,hrow⟩,hB2⟩;obtain⟨X,c,rfl,-⟩:=EsRd.of_own hrow;have hg2:=waa (hg1.out w2 (hR.out.below hB2));have hgi2:=waa (hgi1.out.below hB2 hgi1.out.lt);have hB3:=waa (hB1.out.trans (hB2.mono hB1.out.size));have hs:w.heap.size+1<=w1.heap.size:=hgi1.out.lt;replace hrow:=waa (qax hrow hs);clear hf1 hg1 hB2 hgi1 hB1 hR;generalize hNF:fx.length=NF at hrow ⊢;go_wp2_with fail;refine hg2.out.mono ?_;rintro e w3 ⟨rfl,hB4⟩;have hBx:Below w3.heap.size w3 (w3.alloc (.cells #[.int .i64 s,.int .i64 l,.int .i64 r] 23)):=(wac _ w3).alloc (wab _) _;have hgi3:=(hgi2.out.below hB4 hgi2.out.lt)
 have hgi4:=hgi3.below hBx hgi3.lt;obtain⟨d0,d1,d2,f1⟩:=hgi4.cells;have hrow4:=waa (qaf (qaf hrow.out hB4) hBx);have hB5:=waa ((hB3.out.trans (hB4.mono hB3.out.size)).trans (hBx.mono (wap hB3.out.size hB4.size)));clear hg2 hB4 hB3 hrow hBx hgi3 hgi4 hgi2;go_wp2_with fail;exact bodyPost_ret (v:= .tuple #[.agg #[.int .i64 s,.int .i64 l,.int .i64 r],.slice X NF c,.int .i64 0]) (by simp[results,Tryz.results118,go_sem,d0,d1,d2]) rfl ⟨⟨_,rfl,by rw[hNF];exact qax (ownsRow_setCell_below (ownsRow_setCell_below (ownsRow_setCell_below hrow4.out (whe w.heap.size) _) (whe w.heap.size) _) (whe w.heap.size) _) (wd7 _)⟩,by(iterate 3 refine wa7 ?_ Zs _);exact hB5.out⟩
theorem q6e(hr:Rd w A ws.length (u64V ws))(hcap:ws.length<=cap)(hl:ws.length<=2000)(hlt:∀y∈ws,y<18446744073709551616)(h:¬∃v,MendR ws v):
  Calls Tryz.prog 118 #[.slice A ws.length cap] w λe w'=>e= .returned (.tuple #[.agg #[.int .i64 0,.int .i64 0,.int .i64 0],.slice none 0 0,.int .i64 11])/\Below w.heap.size w w':=by
 have hg0:=waa (Gi.new w 0 0 0);have hB0:=waa (qa7 w 0 0 0);by_cases hh:∃s l r rr,Hit ws s l r/\repF s l r ws l.toNat=some rr
 ·obtain⟨s,l,r,rr,hh,hp⟩:=hh
  have hrl:=qg1 hh hp;have hrp:=λ(V:World) (hV:Below w.heap.size w V)=>qkl A cap ws V (hr.below hV) hlt hcap hh hp
  have hfx:=λ(B:Option Addr) (d:Nat) (V:World) (hR:Rd V B rr.length (u64V rr)) (hd:rr.length<=d)=>qaax B d rr.length rr V hR rfl (qg2 hlt hp) hd Zo (λ⟨v,hv⟩=>h ⟨v,s,l,r,rr,hh,hp,hv⟩)
  rw[hrl] at hrp hfx;generalize ws.length=n at hrp hfx;replace hrp:=waa hrp;replace hfx:=waa hfx;clear hr hh hp h hrl hlt hcap hl;go_enter Tryz.func118,Tryz.ntmps118;go_wp2_with fail;refine(hrp.out _ hB0.out).mono ?_;rintro e w1 ⟨⟨B,d,rfl,hd,hR⟩,hB1⟩;have hf1:=waa (hfx.out B d w1 hR hd);have hgi1:=waa (hg0.out.below hB1 hg0.out.lt);replace hB1:=waa (hB0.out.trans (hB1.mono hB0.out.size));clear hrp hfx hR hg0 hB0;go_wp2_with fail;refine hf1.out.mono ?_;rintro e w2 ⟨rfl,hB2⟩;obtain⟨d0,d1,d2,f1⟩:=(hgi1.out.below hB2 hgi1.out.lt).cells;have hB3:=waa (hB1.out.trans (hB2.mono hB1.out.size));clear hf1 hB2 hB1 hgi1;go_wp2_with fail;exact bodyPost_ret (v:= .tuple #[.agg #[.int .i64 0,.int .i64 0,.int .i64 0],.slice none 0 0,.int .i64 11]) (by simp[results,Tryz.results118,go_sem,d0,d1,d2]) rfl ⟨rfl,by(iterate 3 refine wa7 ?_ Zs _);exact hB3.out⟩
 ·have hrp:=waa (λ(V:World) (hV:Below w.heap.size w V)=>qsz A cap ws V (hr.below hV) hlt hcap hl hh)
  clear hr hh h hlt hcap hl;generalize ws.length=n at hrp ⊢;go_enter Tryz.func118,Tryz.ntmps118;go_wp2_with fail;refine(hrp.out _ hB0.out).mono ?_;rintro e w1 ⟨rfl,hB1⟩;obtain⟨d0,d1,d2,f1⟩:=(hg0.out.below hB1 hg0.out.lt).cells;replace hB1:=waa (hB0.out.trans (hB1.mono hB0.out.size));clear hrp hg0 hB0;go_wp2_with fail;exact bodyPost_ret (v:= .tuple #[.agg #[.int .i64 0,.int .i64 0,.int .i64 0],.slice none 0 0,.int .i64 11]) (by simp[results,Tryz.results118,go_sem,d0,d1,d2]) rfl ⟨rfl,by(iterate 3 refine wa7 ?_ Zs _);exact hB1.out⟩
end
section
variable {τ:Type} {E:DP τ} {pl:List Nat->Option (Int×Int×Int×List (Int×Nat))} {i:Nat} {l:List Nat} {s:DM×τ} {F:Nat->Prop} {w w':World}
theorem qaca{rr v ws:List Nat}(hst:StandR rr v)(h64:∀x∈rr,x<18446744073709551616){N:Nat}(hN:N<=2000):(∀e∈qba rr v N,0<=e.1/\e.1<16384)/\∀e∈qba rr v N,e.2<18446744073709551616:=by
 obtain⟨-,-,-,hv⟩:=hst.facts h64;refine⟨λe he=>?_,λe he=>?_⟩
 ·obtain⟨a,ha,rfl⟩:=qia he
  simp only
  omega
 ·obtain⟨a,ha,rfl⟩:=qia he
  show v.getD a 0<_
  rw[wax];cases hx:v[a]? with
  |none=>decide
  |some x=>exact hv x (waq hx)
theorem qu2(hpl:qgs pl)(h:E.In i l s F w){N:Nat}(hN:N<=2000)(hw:qdf pl E.n E.nl E.who N E.sp i l s≠ .wild):
  Calls Tryz.prog 86 #[.pointer (some ⟨E.eb,0,none⟩),.int .i64 (N:Int)] w λe w'=>E.Post (qdf pl E.n E.nl E.who N E.sp i l s) (λ(k:Nat) v _=>v= .int .i64 (k:Int)/\k<=11) F w e w':=by
 have hld:=waa (qu9 h hN (AP.tame hw));replace hw:=waa hw;replace hpl:=waa hpl;clear h;go_enter Tryz.func86,Tryz.ntmps86;go_wp2_with fail;refine hld.out.mono ?_;intro e w1 hpost;rcases DP.Post.done (t:=qbg E.n E.nl E.who (qbm 0 N) []) hpost (AP.tame hw.out) with ⟨ws,i1,l1,s1,v1,F1,ho1,rfl,⟨X,cX,rfl,hcX,hR,hlen,h64⟩,hI1,hg1,hu1⟩|⟨bl,l1,s1,F1,ho1,rfl,hO,hg1,hu1⟩
 rotate_left
 ·exact⟨rfl,DP.Post.stopped (t:=qdf pl E.n E.nl E.who N) (AP.bind_stop ho1) rfl hO hg1 hu1⟩
 clear hpost hld;by_cases hm:∃v,MendR ws v
 ·obtain⟨v,gs,gl,gr,rr,hh,hp,hst⟩:=hm
  have heq:qdf pl E.n E.nl E.who N E.sp i l s=((qdy E.n E.nl E.who gs gl gr).bind λ_=>(fixA E.n E.nl E.who (qba rr v ws.length)).bind λ_=>AP.ret 0) E.sp i1 l1 s1:=(AP.bind_done ho1).trans (by rw[hpl.out.1 _ _ _ _ _ ⟨rr,v,hh,hp,hst,rfl⟩]);have hw2:=hw.out;rw[heq] at hw2;have hpn:=q18 (cap:=cX) (by rw[hlen];exact hR) (by rw[hlen];exact hcX) h64 hh hp hst;obtain⟨hf1,hf2⟩:=qaca (ws:=ws) hst (qg2 h64 hp) hN;rw[hlen] at hpn heq hw2;have hfl:=qmd rr v N;generalize qba rr v N=fx at hpn heq hw2 hf1 hf2 hfl;replace hpn:=waa hpn;replace heq:=waa heq;replace hw2:=waa hw2;replace hf1:=waa hf1;replace hf2:=waa hf2;have hK:=waa (And.intro hI1 (And.intro hg1 hu1));clear hw hpl hh hp hst hR hlen h64 ho1 hI1 hg1 hu1;go_wp2_with fail;refine hpn.out.mono ?_;rintro e w2 ⟨⟨u,rfl,hrow⟩,hB2⟩;obtain⟨hI1,hg1,hu1⟩:=hK.out;obtain⟨Y,cY,rfl,hY⟩:=EsRd.of_own hrow;have hu2:Upd (λ_=>False) w1 (w2.alloc (.cells #[.int .i64 gs,.int .i64 gl,.int .i64 gr] 23)):=(Upd.of_below hB2 (wab _)).alloc _;have hrp:=waa (qvu (hI1.new hu2) gs gl gr (AP.tame hw2.out));have hYb:∀q,Y=some q->0<fx.length->¬F1 q.block/\q.block<(w2.alloc (.cells #[.int .i64 gs,.int .i64 gl,.int .i64 gr] 23)).heap.size:=λq hq hn=>by
   subst hq;have h1:=hrow.lt q.block rfl;exact⟨λe=>by have:=hI1.lt e;omega,by simp;omega⟩
  have hY2:=hY.upd ((Upd.refl (λ_=>False) w2).alloc (.cells #[.int .i64 gs,.int .i64 gl,.int .i64 gr] 23)) (λ_ _ _ e=>e);have hgT:=hg1;have huT:Upd F w (w2.alloc (.cells #[.int .i64 gs,.int .i64 gl,.int .i64 gr] 23)):=hu1.trans (hu2.mono (λ_ e=>e.elim));have hg:=Gi.new w2 gs gl gr;obtain⟨c0,c1,c2,cf⟩:=hg.cells;have hK2:=waa (And.intro hYb (And.intro hY2 (And.intro hgT huT)));clear hI1 hg1 hu1 hK hpn hrow hB2 hY hu2 hYb hY2 hgT huT hg;generalize hNF:fx.length=NF at hK2 hfl ⊢;go_wp2_with fail;refine hrp.out.mono ?_;intro e w3 hpost;obtain⟨hYb,hY2,hgT,huT⟩:=hK2.out;rcases DP.Post.done (t:=qdy E.n E.nl E.who gs gl gr) hpost (AP.tame hw2.out) with ⟨c,i3,l3,s3,v3,F3,ho3,rfl,⟨rfl,hc⟩,hI3,hg3,hu3⟩|⟨bl,l3,s3,F3,ho3,rfl,hO,hg3,hu3⟩
  rotate_left
  ·refine⟨rfl,DP.Post.stopped (t:=qdf pl E.n E.nl E.who N) (heq.out.trans (AP.bind_stop ho3)) rfl hO (hgT.trans hg3 huT.size) (huT.after hu3 hgT)⟩
  have hwk:((fixA E.n E.nl E.who fx).bind λ_=>AP.ret 0) E.sp i3 l3 s3≠ .wild:=AP.tame_next (f:=λ_=>(fixA E.n E.nl E.who fx).bind λ_=>AP.ret 0) hw2.out ho3;have hkp:=waa (q37 (cap:=cY) hI3 (hY2.upd hu3 (λq hq hn=>(hYb q hq hn).1)) (λq hq hn=>⟨qmi hg3 (hYb q hq hn).2 (hYb q hq hn).1,waw (hYb q hq hn).2 hu3.size⟩) hf1.out hf2.out Zo (AP.tame hwk));have hK3:=waa (And.intro ho3 (And.intro (hgT.trans hg3 huT.size) (And.intro (huT.after hu3 hgT) hwk)));clear hpost hK2 hrp hI3 hg3 hu3 hYb hY2 hgT huT ho3 hwk;go_wp2_with fail;refine hkp.out.mono ?_;intro e w4 hpost;obtain⟨ho3,hgT,huT,hwk⟩:=hK3.out;rcases DP.Post.done (t:=fixA E.n E.nl E.who fx) hpost (AP.tame hwk) with ⟨u4,i4,l4,s4,v4,F4,ho4,rfl,rfl,hI4,hg4,hu4⟩|⟨bl,l4,s4,F4,ho4,rfl,hO,hg4,hu4⟩
  rotate_left
  ·exact⟨rfl,DP.Post.stopped (t:=qdf pl E.n E.nl E.who N) (heq.out.trans ((AP.bind_done ho3).trans (AP.bind_stop ho4))) rfl hO (hgT.trans hg4 huT.size) (huT.after hu4 hgT)⟩
  have hfin:=waa (DP.Post.ended (t:=qdf pl E.n E.nl E.who N) (R:=λ(k:Nat) v _=>v= .int .i64 (k:Int)/\k<=11) (a:=0) (v:= .int .i64 0) (heq.out.trans ((AP.bind_done ho3).trans (AP.bind_done ho4))) rfl ⟨rfl,Zo⟩ hI4 (hgT.trans hg4 huT.size) (huT.after hu4 hgT));clear hpost hK3 hkp hI4 hg4 hu4 ho4 ho3 hgT huT hwk;go_wp2_with fail;go_ret;exact hfin.out
 ·have heq:qdf pl E.n E.nl E.who N E.sp i l s= .done 11 i1 l1 s1:=(AP.bind_done ho1).trans (by rw[hpl.out.2 _ hm];rfl)
  have hpn:=q6e (cap:=cX) (by rw[hlen];exact hR) (by rw[hlen];exact hcX) Zo h64 hm;rw[hlen] at hpn;replace hpn:=waa hpn;have hK:=waa (And.intro heq (And.intro hI1 (And.intro hg1 hu1)));clear hw hpl hm hR hlen h64 ho1 hI1 hg1 hu1 heq;go_wp2_with fail;refine hpn.out.mono ?_;rintro e w2 ⟨rfl,hB2⟩;obtain⟨heq,hI1,hg1,hu1⟩:=hK.out;have hu2:Upd (λ_=>False) w1 (w2.alloc (.cells #[.int .i64 0,.int .i64 0,.int .i64 0] 23)):=(Upd.of_below hB2 (wab _)).alloc _;have hfin:=waa (DP.Post.ended (t:=qdf pl E.n E.nl E.who N) (R:=λ(k:Nat) v _=>v= .int .i64 (k:Int)/\k<=11) (a:=11) (v:= .int .i64 11) heq rfl ⟨rfl,Zo⟩ (hI1.new hu2) hg1 (hu1.trans (hu2.mono (λ_ e=>e.elim))));clear heq hI1 hg1 hu1 hK hpn hB2 hu2;go_wp2_with fail;go_ret;exact hfin.out
theorem q4p(hpl:qgs pl)(h:E.In i l s F w){b1 N:Nat}(h1:Boxed w b1 3 (.int .i64 (N:Int)))(hN:N<=2000)(hw:qds pl E.n E.nl E.who N E.sp i l s≠ .wild):
  Calls Tryz.prog 85 #[.pointer (some ⟨E.eb,0,none⟩),.pointer (some ⟨b1,0,none⟩)] w λe w'=>E.Post (qds pl E.n E.nl E.who N E.sp i l s) ansR F w e w':=by
 have b0:=h1.cell;have hop:=waa (qu2 hpl h hN (AP.tame hw));replace hw:=waa hw;clear h h1 hpl;go_enter Tryz.func85,Tryz.ntmps85;go_wp2_with fail;refine hop.out.mono ?_;intro e V hpost;rcases DP.Post.done (t:=qdf pl E.n E.nl E.who N) hpost (AP.tame hw.out) with ⟨c,i2,l2,s2,v2,F2,ho,rfl,⟨rfl,hc⟩,hI,hg,hu⟩|⟨bl,l2,s2,F2,ho,rfl,hO,hg,hu⟩
 rotate_left
 ·exact⟨rfl,DP.Post.stopped (t:=qds pl E.n E.nl E.who N) (AP.bind_stop ho) rfl hO hg hu⟩
 have hfin:=waa (show E.Post (qds pl E.n E.nl E.who N E.sp i l s) ansR F w (.returned (.slice (some ⟨V.heap.size,0,none⟩) 1 1)) (V.alloc (.cells #[.int .u64 (c:Int)] 27)) from
  DP.Post.ended (t:=qds pl E.n E.nl E.who N) (a:=[c]) (AP.bind_done ho) rfl ⟨⟨0,q7c rfl _⟩,λe=>by simp at e,by simp⟩ (hI.new ((Upd.refl _ V).alloc _)) hg (hu.alloc _))
 have hcw:IntKind.u64.wrap (c:Int)=(c:Int):=by rw[wa5];omega
 clear hpost ho hI hg hu hop;go_wp2_with fail;go_ret;exact hfin.out
end
def opV(b1:Nat):Value:= .func (.func 85) #[] #[.pointer (some ⟨b1,0,none⟩)]
theorem q3n(N:Int)(w:World):
  Calls Tryz.prog 46 #[.int .i64 N] w λe w'=>∃b1,e= .returned (opV b1)/\(w.heap.size<=b1/\Boxed w' b1 3 (.int .i64 N))/\Below w.heap.size w w':=by
 have hmf:∀(fn:Fn) (first cap:Array Value) (w:World),(Instr.makeFunc fn first cap).run Tryz.prog w= .ok (.func fn first cap) w:=λ_ _ _ _=>rfl
 have h1:Boxed (w.alloc (.cells #[.int .i64 N] 3)) w.heap.size 3 (.int .i64 N):=qan rfl _ _;have hB:=(wac w.heap.size w).alloc (wab _) (.cells #[.int .i64 N] 3);replace h1:=waa h1;replace hB:=waa hB;go_enter Tryz.func46,Tryz.ntmps46;go_wp2_with fail;go_ret;exact⟨_,rfl,⟨wab _,h1.out⟩,hB.out⟩
section
variable {pl:List Nat->Option (Int×Int×Int×List (Int×Nat))} {w:World} {X p gs gk m n tp tg nl:Nat} {D:DM}
theorem qsj(hpl:qgs pl){b1 N C:Nat}(hC:C+100000<maxLen)(hN:N<=2000)(hR:RnP w X p tp 0 (opV b1) (.slice none 0 0) [] false (.slice none 0 0))(hP:PsR w p gs gk m n tp tg nl C D)(h1:Boxed w b1 3 (.int .i64 (N:Int)))(fuse:Int)(hw:qds pl n nl 0 N (qbi fuse 0) 0 [] (D,())≠ .wild):
  Calls Tryz.prog 14 #[.pointer (some ⟨X,0,none⟩),.int .i64 fuse] w λe w'=>Upd (lnF X p gs gk m tp tg) w w'/\
   (dbN X p gs gk m n tp tg nl 0 (opV b1)).AllO C (lnF X p gs gk m tp tg) w e w' (qds pl n nl 0 N (qbi fuse 0) 0 [] (D,())):=by
 have hAt:=DB.At.make (B:=dbN X p gs gk m n tp tg nl 0 (opV b1)) (s:=(D,())) (C:=C) (G:=λ_=>False) hR hP (λ_ e=>e) (λ_ e=>e.elim);have hall:=q8s (t:=qds pl n nl 0 N) (DF:=85) (λ_ _=>rfl) hAt hC Zs fuse rfl;refine(hall hw ?_).mono ?_
 ·intro eb a b c fs V F' hV hI hF
  exact q4p hpl hI (qal h1 hV (λe=>e)) hN hw
 ·rintro e w' ⟨hu,ho⟩
  exact⟨hu,ho⟩
end
def qx5(B p n C:Nat)(ws:List Nat)(qs:List AskT)(a k:Nat)(over:Prop)(X:Nat)(c:Int)(w':World):Prop:=
 (∃m g C',C'<=C+100000/\Reg w' B p n C' (runL n (ofD ws n 2) (qs.take m)).S (runL n (ofD ws n 2) (qs.take m)).K g/\Alike n g (runL n (ofD ws n 2) (qs.take m)).N (runL n (ofD ws n 2) (qs.take m)).B)/\
 (over->c=0/\∃(Bq:DB Unit) (F':Nat->Prop) (C':Nat) (l':List Nat) (g:Nat->Option (List Nat)),Bq.X=X/\l'.length=k/\Bq.At C' l' (runL n (ofD ws n 2) qs,()) true [a] F' w'/\Reg w' B p n C' (runL n (ofD ws n 2) qs).S (runL n (ofD ws n 2) qs).K g)
def RunO(B p N:Nat)(v:Value)(V:World):Prop:=∃X tp tg b1,v= .pointer (some ⟨X,0,none⟩)/\(B<=X/\B<=tp/\B<=tg)/\RnP V X p tp 0 (opV b1) (.slice none 0 0) [] false (.slice none 0 0)/\LkR V tp tg 2 (List.replicate 2 (-1))/\Boxed V b1 3 (.int .i64 (N:Int))
theorem qaa9{w:World}{base p n C gs gk m tp tg nl:Nat}{S:List Nat}(hr:RegQ w base p n C gs gk m S S (λ_=>none))(hl:LkR w tp tg nl (List.replicate nl (-1)))(hS:∀x∈S,x<18446744073709551616):PsR w p gs gk m n tp tg nl C (ofD S n nl):=by
 refine⟨⟨λ_=>none,hr.lower,Alike.none _ _⟩,hl,λx hx=>?_,by simp[ofD],by simp[ofD],hS⟩;obtain⟨_,rfl⟩:=wg9.1 hx;omega
theorem q65{pl:List Nat->Option (Int×Int×Int×List (Int×Nat))}(hpl:qgs pl){V:World}{p n C:Nat}{v:Value}{gs gk m:Nat}{B base:Nat}{ws:List Nat}{qs:List AskT}{a k:Nat}(hb:B<=base)(hq:RegQ V base p n C gs gk m ws ws (λ_=>none))(hlt:∀x∈ws,x<18446744073709551616)(hl:ws.length<=2000)(hC:C+100000<maxLen)(hgo:Goes (τ:=Unit) n (qds pl n 2 0 ws.length) (ofD ws n 2) qs [a] k)(hk:k<=90000)(hv:RunO B p ws.length v V)(fuse:Int):
  ∃X,v= .pointer (some ⟨X,0,none⟩)/\Calls Tryz.prog 14 #[.pointer (some ⟨X,0,none⟩),.int .i64 fuse] V λe w'=>∃c,e= .returned (.int .i64 c)/\Below B V w'/\qx5 B p n C ws qs a k (fuse<0) X c w':=by
 obtain⟨X,tp,tg,b1,rfl,h0,h1,h2,k1⟩:=hv;have hP:=qaa9 hq h2 hlt;have hlow:∀k,lnF X p gs gk m tp tg k->B<=k:=by
  rintro k ((e|rfl|rfl)|e|rfl)
  ·exact wap hb (hq.own k e).1
  ·exact h0.2.1
  ·exact h0.2.2
  ·exact e.elim
  ·exact h0.1
 have hBV:B<=V.heap.size:=by have:=h1.lt;omega
 rcases hgo (qbi fuse 0) [] () Zx with ⟨l',hl',he⟩|⟨l',m',⟨-,hl'⟩,he,j,hj⟩
 ·have he:qds pl n 2 0 ws.length (qbi fuse 0) 0 [] (ofD ws n 2,())= .done [a] (0+k) l' (runL n (ofD ws n 2) qs,()):=he
  have hr:=qsj hpl hC hl h1 hP k1 fuse (by rw[he];simp);refine⟨X,rfl,hr.mono ?_⟩;rintro e w' ⟨hu,ho⟩;rw[he] at ho;obtain⟨he,F',hA,hG⟩:=ho;have hA':=hA;obtain⟨lv,G,an,-,⟨⟨⟨g,hq',hAl⟩,-⟩,-⟩,-⟩:=hA';have hreg:=(hq'.raise (λk hk=>hlow k (.inl (.inl hk)))).reg;refine⟨0,he,hu.below hlow hBV,⟨qs.length,g,C+l'.length+1,Zo,?_,?_⟩,λ_=>⟨rfl,dbN X p gs gk m n tp tg 2 0 (opV b1),F',C+l'.length+1,l',g,rfl,hl',hA,hreg⟩⟩
  ·rw[wbz]
   exact hreg
  ·rw[wbz]
   exact hAl
 ·have he:qds pl n 2 0 ws.length (qbi fuse 0) 0 [] (ofD ws n 2,())= .stop false l' (runL n (ofD ws n 2) (qs.take m'),()):=he
  have hr:=qsj hpl hC hl h1 hP k1 fuse (by rw[he];simp);refine⟨X,rfl,hr.mono ?_⟩;rintro e w' ⟨hu,ho⟩;rw[he] at ho;obtain⟨he,F',⟨lv,G,an,-,⟨⟨⟨g,hq',hAl⟩,-⟩,-⟩,-⟩,hG⟩:=ho;have hl2:l'.length<=k:=by simpa using hl'
  refine⟨12,he,hu.below hlow hBV,⟨m',g,C+l'.length+1,Zo,(hq'.raise (λk hk=>hlow k (.inl (.inl hk)))).reg,hAl⟩,λhf=>?_⟩
  ·unfold qbi at hj
   simp at hj
   omega
end Go.Proofs.YtocncmbeinmiaaaGreat
