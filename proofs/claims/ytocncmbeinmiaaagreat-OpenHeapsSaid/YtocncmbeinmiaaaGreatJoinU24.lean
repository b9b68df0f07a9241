/- Parts. No condition. -/
import Derived.Test.YtocncmbeinmiaaaGreatJoinU23
set_option linter.unusedVariables false
set_option maxRecDepth 100000
set_option maxHeartbeats 8000000
namespace Go.Proofs.YtocncmbeinmiaaaGreat
open Go Go.RowKit
set_option linter.unusedSectionVars false
def ToldL(s l r:Int)(ws:List Nat)(hs:List HD)(L:List LV):Prop:=qa3 s l r ws=some hs/\IsReach (rtL r ws) (kdO s l r hs ws) (obO s l r hs ws) L/\∀o∈L,o.r<=65535
section
variable (s l r:Int) (A:Option Addr) (cap:Nat) (ws:List Nat) (w:World) (hr:Rd w A ws.length (u64V ws)) (hn:ws.length<=9223372036854775807) (hlt:∀y∈ws,y<18446744073709551616)
include hr hn hlt
theorem quu{hs:List HD}{L:List LV}(h:ToldL s l r ws hs L):
  Calls Tryz.prog 280 #[.agg #[.int .i64 s,.int .i64 l,.int .i64 r],.slice A ws.length cap] w λe w'=>(∃LA lc,e= .returned (.tuple #[.slice LA L.length lc,.int .i64 0])/\LsRd w' LA L.length L)/\Below w.heap.size w w':=by
 obtain⟨h1,h2,h3⟩:=h;refine(qlo s l r A cap ws hs w hr hn hlt h1).mono λe w' ⟨hE,hb⟩=>⟨?_,hb⟩
 rcases hE with ⟨L',v,g1,g2,rfl,g4⟩|⟨g,-⟩
 ·obtain rfl:=g1.one h2
  obtain⟨LA,lc,rfl,g5⟩:=LsRd.of_own g4;exact⟨LA,lc,rfl,g5⟩
 ·exact absurd g (h2.not_pno h3)
end
def hwF(h:HD):Nat:=qce h.1 h.2.1 h.2.2
def obW(o:LV):Nat:=bW o.r o.s o.n
def putH(l:Int)(K:List HD)(M:List Nat)(ws:List Nat):Nat->List Nat
 |0=>ws
 |j+1=>((putH l K M ws j).set (hdAt l j) (hwF (K[j]?.getD (0,0,0)))).set (hdAt l j+1) (M[j]?.getD 0)
def putO(ws:List Nat)(L:List LV):List Nat:=L.foldl (λo x=>o.set x.ad (obW x)) ws
def qck(s l:Int)(ws:List Nat)(hs:List HD)(L:List LV):List Nat:=putO (putH l (qbt hs L hs.length) (mapF s L) ws s.toNat) L
theorem qhc(l:Int)(K:List HD)(M ws:List Nat)(n:Nat):(putH l K M ws n).length=ws.length:=by
 induction n with
 |zero=>rfl
 |succ n ih=>rw[putH,wb1,wb1,ih]
theorem q9l(ws:List Nat)(L:List LV):(putO ws L).length=ws.length:=by
 induction L generalizing ws with
 |nil=>rfl
 |cons o L ih=>exact(ih _).trans (wb1 ..)
theorem qpk(ws:List Nat)(L:List LV)(o:LV):putO ws (L++[o])=(putO ws L).set o.ad (obW o):=by
 unfold putO;rw[we7];rfl
theorem qs7(s l:Int)(ws:List Nat)(hs:List HD)(L:List LV):(qck s l ws hs L).length=ws.length:=by rw[qck,q9l,qhc]
theorem q9g(l:Int)(K:List HD)(M ws:List Nat)(n i:Nat)(h:∀j,j<n->i≠hdAt l j/\i≠hdAt l j+1):(putH l K M ws n)[i]? =ws[i]?:=by
 induction n with
 |zero=>rfl
 |succ n ih=>
  obtain⟨h1,h2⟩:=h n Zo;rw[putH,wbe (λe=>h2 e.symm),wbe (λe=>h1 e.symm)];exact ih (λj hj=>h j Zo)
theorem q04(l:Int)(K:List HD)(M ws:List Nat){n j:Nat}(hj:j<n)(hl:hdAt l j<ws.length):(putH l K M ws n)[hdAt l j]? =some (hwF (K[j]?.getD (0,0,0))):=by
 induction n with
 |zero=>omega
 |succ n ih=>
  rw[putH];by_cases hn:j=n
  ·subst hn
   rw[wbe Zo,wb3 (by rw[qhc];exact hl)]
  ·rw[wbe (by unfold hdAt;omega),wbe (by unfold hdAt;omega)]
   exact ih Zo
theorem q5y(l:Int)(K:List HD)(M ws:List Nat){n j:Nat}(hj:j<n)(hl:hdAt l j+1<ws.length):(putH l K M ws n)[hdAt l j+1]? =some (M[j]?.getD 0):=by
 induction n with
 |zero=>omega
 |succ n ih=>
  rw[putH];by_cases hn:j=n
  ·subst hn
   rw[wb3 (by rw[wb1,qhc];exact hl)]
  ·rw[wbe (by unfold hdAt;omega),wbe (by unfold hdAt;omega)]
   exact ih Zo
theorem qii{ws:List Nat}{L:List LV}{i:Nat}(h:∀o∈L,o.ad≠i):(putO ws L)[i]? =ws[i]?:=by
 induction L generalizing ws with
 |nil=>rfl
 |cons o L ih=>
  refine(ih (ws:=ws.set o.ad (obW o)) (λx hx=>h x (by simp[hx]))).trans ?_;rw[wbe (h o Zs)]
theorem qwc{ws:List Nat}{L:List LV}(hnd:(L.map LV.ad).Nodup){o:LV}(ho:o∈L)(hl:o.ad<ws.length):(putO ws L)[o.ad]? =some (obW o):=by
 induction L generalizing ws with
 |nil=>cases ho
 |cons x L ih=>
  rw[wc5,wg8] at hnd;rcases wbg.1 ho with rfl|ho
  ·refine(qii (ws:=ws.set o.ad (obW o)) (λy hy e=>hnd.1 (by rw[<-e];exact wav.2 ⟨y,hy,rfl⟩))).trans ?_
   rw[wb3 hl]
  ·exact ih (ws:=ws.set x.ad (obW x)) hnd.2 ho (by rw[wb1];exact hl)
theorem qoo{f:Nat->Nat}:∀{n:Nat} {l:List (Int×Int×Int)},hdsF f n=some l->∀j,j<n->∃h,l[j]? =some h/\hdO (f j)=some h
 |0,_,_,j,hj=>by omega
 |n+1,l,h,j,hj=>by
  rw[hdsF] at h;cases h1:hdsF f n with
  |none=>rw[h1] at h;cases h
  |some m=>
   rw[h1] at h;simp only at h;cases h2:hdO (f n) with
   |none=>rw[h2] at h;cases h
   |some x=>
    rw[h2] at h;injection h with h;subst h;have hl:=qe5 h1;by_cases hn:j=n
    ·subst hn
     exact⟨x,by rw[wbt Zo,hl,wcw];rfl,h2⟩
    ·obtain⟨y,g1,g2⟩:=qoo h1 j Zo
     exact⟨y,by rw[wbk Zo];exact g1,g2⟩
theorem qln{s l r:Int}{hs:List HD}{ws:List Nat}(h:qa3 s l r ws=some hs):hdsB s l r hs=true:=by
 obtain⟨hf,hl⟩:=qgh h;have hb:=qaw hf;refine hdsB_iff.2 ⟨(fitB_iff.1 hf).1,Zo,λx hx=>?_⟩;rw[qa3,if_pos hf] at h;obtain⟨j,hj⟩:=wc0 hx;obtain⟨y,h1,h2⟩:=qoo h j (by have:=(wan.1 hj).1;omega);rw[hj] at h1;injection h1 with h1;subst h1;exact qwu h2
section
variable {rt:List Nat} {kd kd':Nat->List Nat} {ob ob':Nat->Option LV} {L:List LV}
end
section
variable {s l r:Int} {hs:List HD} {ws:List Nat} {L:List LV}
theorem qov{j:Nat}(hj:j<hs.length):(qbt hs L hs.length)[j]? =some (if L.any (inB (j:Int))=true then hs[j]?.getD (0,0,0) else(0,0,0)):=by
 rw[qbt,wa1,wdi hj];rfl
theorem ToldL.facts(h:ToldL s l r ws hs L):fitB s l r ws.length=true/\hs.length=s.toNat/\hdsB s l r hs=true/\(L.map LV.ad).Nodup/\∀o∈L,o.a=(o.ad:Int)/\16+40*l+8*s<=o.a/\o.a+1+o.n<=o.a+o.wd/\o.a+o.wd<=16+40*l+72*s/\0<=o.s/\o.s<=o.n/\1<=o.n/\o.n<=255/\0<=o.r/\o.r<=65535:=by
 obtain⟨h1,h2,h3⟩:=h;obtain⟨hf,hl⟩:=qgh h1;refine⟨hf,hl,qln h1,qet (qh2 h2.rise (λo ho=>(h2.each o ho).2.1)),λo ho=>?_⟩;obtain⟨-,g0,q,g1,g2,g3⟩:=h2.each o ho;obtain⟨e1,e2,e3,e4,e5,e6,-,-,e9,e10,e11,-⟩:=qev g1;have hr:=h3 o ho;have f1:o.s=q.s:=by rw[g3];rfl
 have f2:o.n=q.n:=by rw[g3];rfl
 have f3:o.wd=q.wd:=by rw[g3];rfl
 have f4:0<=o.r:=by
  rw[g3];show(0:Int)<=((_:Nat):Int)
  omega
 have f5:o.a=(o.ad:Int):=by unfold LV.ad;omega
 omega
theorem ToldL.may(h:ToldL s l r ws hs L):∀o∈L,qbs o.r o.s o.n=true:=by
 intro o ho;obtain⟨-,-,-,-,g⟩:=h.facts;have:=g o ho
 exact bmay_iff.2 Zo
theorem qjm(h:hdsB s l r hs=true){j:Nat}(hj:j<hs.length):hdB ((qbt hs L hs.length)[j]?.getD (0,0,0))=true:=by
 rw[qov hj,wa8];split
 ·rw[waj hj,wa8]
  exact(hdsB_iff.1 h).2.2 _ (wb6 hj)
 ·decide
theorem qg0(h:ToldL s l r ws hs L)(i:Nat):
  (∃j,j<s.toNat/\i=hdAt l j/\(qck s l ws hs L)[i]? =some (hwF ((qbt hs L hs.length)[j]?.getD (0,0,0))))\/
  (∃j,j<s.toNat/\i=hdAt l j+1/\(qck s l ws hs L)[i]? =some ((mapF s L)[j]?.getD 0))\/
  (∃o∈L,i=o.ad/\(qck s l ws hs L)[i]? =some (obW o))\/
  ((qck s l ws hs L)[i]? =ws[i]?/\(∀j,j<s.toNat->i≠hdAt l j/\i≠hdAt l j+1)/\∀o∈L,i≠o.ad):=by
 obtain⟨hf,hl,-,hnd,ho⟩:=h.facts;have hb:=qaw hf;unfold qck;by_cases c1:∃j,j<s.toNat/\i=hdAt l j
 ·obtain⟨j,hj,rfl⟩:=c1
  refine .inl ⟨j,hj,rfl,?_⟩;rw[qii (λo hoL e=>by have:=ho o hoL;unfold hdAt at e;omega)];exact q04 _ _ _ _ hj (by unfold hdAt;omega)
 ·by_cases c2:∃j,j<s.toNat/\i=hdAt l j+1
  ·obtain⟨j,hj,rfl⟩:=c2
   refine .inr (.inl ⟨j,hj,rfl,?_⟩);rw[qii (λo hoL e=>by have:=ho o hoL;unfold hdAt at e;omega)];exact q5y _ _ _ _ hj (by unfold hdAt;omega)
  ·by_cases c3:∃o∈L,i=o.ad
   ·obtain⟨o,hoL,rfl⟩:=c3
    refine .inr (.inr (.inl ⟨o,hoL,rfl,?_⟩));exact qwc hnd hoL (by rw[qhc];have:=ho o hoL;omega)
   ·refine .inr (.inr (.inr ⟨?_,λj hj=>⟨λe=>c1 ⟨j,hj,e⟩,λe=>c2 ⟨j,hj,e⟩⟩,λo hoL e=>c3 ⟨o,hoL,e⟩⟩))
    rw[qii (λo hoL e=>c3 ⟨o,hoL,e.symm⟩)];exact q9g _ _ _ _ _ _ (λj hj=>⟨λe=>c1 ⟨j,hj,e⟩,λe=>c2 ⟨j,hj,e⟩⟩)
theorem qaa8(h:ToldL s l r ws hs L)(hlt:∀x∈ws,x<18446744073709551616):∀x∈qck s l ws hs L,x<18446744073709551616:=by
 intro x hx;obtain⟨i,hi⟩:=wc0 hx;obtain⟨hf,hl,hd,hnd,ho⟩:=h.facts;rcases qg0 h i with ⟨j,hj,-,e⟩|⟨j,hj,-,e⟩|⟨o,hoL,-,e⟩|⟨e,-⟩
 ·rw[hi] at e
  injection e with e;rw[e];exact q8q (qjm hd Zo)
 ·rw[hi] at e
  injection e with e;rw[e];cases hc:(mapF s L)[j]? with
  |none=>decide
  |some c=>exact qk2 s L c (waq hc)
 ·rw[hi] at e
  injection e with e;rw[e];have:=q9r (h.may o hoL)
  unfold obW;omega
 ·rw[hi] at e
  exact hlt x (waq e.symm)
end
def StandR(ws v:List Nat):Prop:=∃s l r hs L,Hit ws s l r/\ToldL s l r ws hs L/\v=qck s l ws hs L
def MendR(ws v:List Nat):Prop:=∃s l r rr,Hit ws s l r/\repF s l r ws l.toNat=some rr/\StandR rr v
theorem q9e{s l r:Int}{ws:List Nat}{hs hs':List HD}{L L':List LV}(h:ToldL s l r ws hs L)(h':ToldL s l r ws hs' L'):hs'=hs/\L'=L:=by
 obtain⟨a,b,-⟩:=h;obtain⟨a',b',-⟩:=h';obtain rfl:hs'=hs:=by rw[a] at a';injection a' with e;exact e.symm
 exact⟨rfl,b'.one b⟩
theorem StandR.one{ws v v':List Nat}(h:StandR ws v)(h':StandR ws v'):v'=v:=by
 obtain⟨s,l,r,hs,L,a,b,rfl⟩:=h;obtain⟨s',l',r',hs',L',a',b',rfl⟩:=h';obtain⟨rfl,rfl,rfl⟩:=a.one a';obtain⟨rfl,rfl⟩:=q9e b b';rfl
theorem qs1{ws:List Nat}{t:Nat}:∀e∈qak ws t,0<=e.1/\e.1<=16383:=by
 intro e he;unfold qak at he;cases hro:qbh (ws.getD (16+40*t) 0) ((ws.drop (24+40*t)).take 32) with
 |none=>rw[hro] at he;cases he
 |some L=>
  rw[hro] at he;by_cases h0:ws.getD (16+40*t) 0=0
  ·rw[h0,qgf] at hro
   injection hro with hro;subst hro;cases he
  ·have:=logB_iff.1 (qk3 h0 hro).1
   exact entB_iff.1 (wcp.1 this.2.2 e he)
theorem qkb(ws:List Nat)(t:Nat):(qak ws t).length<=16:=by
 unfold qak;cases hro:qbh (ws.getD (16+40*t) 0) ((ws.drop (24+40*t)).take 32) with
 |none=>simp
 |some L=>
  by_cases h0:ws.getD (16+40*t) 0=0
  ·rw[h0,qgf] at hro
   injection hro with hro;subst hro;simp
  ·have:=logB_iff.1 (qk3 h0 hro).1
   exact this.2.1
def RRepE(B:Nat)(o:Option (List Nat))(e:Ending)(w':World):Prop:=match o with
 |none=>e= .returned (.tuple #[.slice none 0 0,.bool false])
 |some L=>∃v,e= .returned (.tuple #[v,.bool true])/\w'.ownsRow B 27 1 v L.length (u64V L)
theorem RRepE.no{o:Option (List Nat)}(h:o=none)(B:Nat)(w':World):RRepE B o (.returned (.tuple #[.slice none 0 0,.bool false])) w':=by rw[h];exact rfl
theorem RRepE.yes{o:Option (List Nat)}{L:List Nat}{B:Nat}{w':World}{v:Value}(h:o=some L)(hr:w'.ownsRow B 27 1 v L.length (u64V L)):RRepE B o (.returned (.tuple #[v,.bool true])) w':=by rw[h];exact⟨v,rfl,hr⟩
theorem qt3{p:Int×Nat->Bool}{es:List (Int×Nat)}{i:Nat}{e:Int×Nat}(h:(es.take i).all p=true)(he:es[i]? =some e)(hp:p e=true):(es.take (i+1)).all p=true:=by
 rw[wb4,he,List.all_append,h];simp[hp]
theorem quj{o:List Nat}{es:List (Int×Nat)}{i:Nat}{a:Int}{x:Nat}(he:es[i]? =some (a,x)):putE o (es.take (i+1))=(putE o (es.take i)).set a.toNat x:=by
 rw[wb4,he];exact qo5 _ _ _
theorem q2k{p:Int×Nat->Bool}{es:List (Int×Nat)}{i:Nat}{e:Int×Nat}(he:es[i]? =some e)(hp:p e=false):es.all p=false:=by
 rw[<-wby,wcp];intro h;have:=h e (waq he)
 rw[hp] at this;cases this
end Go.Proofs.YtocncmbeinmiaaaGreat
namespace Go.Proofs.YtocncmbeinmiaaaGreat
open Go Go.RowKit Go.Shelf
structure LoopBk (W:World) (L D:Nat) (r:Loop):Prop where
 rec_:W.heap[L]? =some (.loop r)
 def_:W.heap[D]? =some (.deferred (some []))
namespace LoopBk
variable {W W':World} {L D:Nat} {r:Loop}
theorem lt(h:LoopBk W L D r):L<W.heap.size:=(wal.1 h.rec_).1
theorem ltD(h:LoopBk W L D r):D<W.heap.size:=(wal.1 h.def_).1
theorem below{B:Nat}(h:LoopBk W L D r)(hb:Below B W W')(hL:L<B)(hD:D<B):LoopBk W' L D r:=⟨(hb.block L hL).trans h.rec_,(hb.block D hD).trans h.def_⟩
theorem later(h:LoopBk W L D r)(hb:Below W.heap.size W W'):LoopBk W' L D r:=h.below hb h.lt h.ltD
theorem turn(h:LoopBk W L D r)(hne:L≠D)(r':Loop):LoopBk (W.putObj L (.loop r')) L D r':=⟨World.putObj_heap_same h.lt,(World.putObj_heap_other (λe=>hne e.symm)).trans h.def_⟩
theorem grown{row:Option Nat}(h:LoopBk W L D r)(hg:W.grownBy W' row)(hr:∀j,row=some j->∃C t fr,W.heap[j]? =some (.cells C t fr)):LoopBk W' L D r:=
 ⟨(hg.block L h.lt (λe=>by obtain⟨C,t,fr,hc⟩:=hr L e.symm;rw[h.rec_] at hc;cases hc)).trans h.rec_,
  (hg.block D h.ltD (λe=>by obtain⟨C,t,fr,hc⟩:=hr D e.symm;rw[h.def_] at hc;cases hc)).trans h.def_⟩
theorem cell(h:LoopBk W L D r){b o:Nat}{u v:Value}(hc:W.cell? ⟨b,o,none⟩=some u):LoopBk (W.setCell ⟨b,o,none⟩ v) L D r:=by
 have hne:∀k ob,W.heap[k]? =some ob->ob.isCells=false->k≠b:=λk ob hk ho e=>by
  subst e;simp only[World.cell?,hk] at hc;cases ob<;>simp_all [Obj.isCells]
 exact⟨(wat _ _ _ _ (hne L _ h.rec_ rfl)).trans h.rec_,(wat _ _ _ _ (hne D _ h.def_ rfl)).trans h.def_⟩
end LoopBk
theorem qbx{W:World}{B l:Nat}{o o':Obj}{C:Array Value}{t:TypeId}{fr:Nat×Nat}(h:W.heap[B]? =some (.cells C t fr))(hl:W.heap[l]? =some o)(ho:o.isCells=false):(W.putObj l o').heap[B]? =some (.cells C t fr):=by
 refine(World.putObj_heap_other (λe=>?_)).trans h;subst e;rw[h] at hl;cases hl
 cases ho
theorem qeh{n0 l:Nat}{w W:World}{o o':Obj}(h:Below n0 w W)(hl:W.heap[l]? =some o)(hn:n0<=l):Below n0 w (W.putObj l o'):=
 h.grown (grownBy_putObj' W l o') (wap hn (wbb (wal.1 hl).1)) (λj e=>by cases e;exact hn)
def qew(r:Loop):Loop:={r with state:= .busy}
def qes(r:Loop)(c:Code):Loop:={r with state:= .done,pending:=some c}
def q7b(L D:Nat)(r:Loop)(R:Ending->World->Prop):Exit->Act->World->Prop
 | .normal,_,W=>LoopBk W L D (qew r)/\R (.returned (.bool true)) (W.putObj L (.loop r))
 | .ret,_,W=>LoopBk W L D (qew r)/\R (.returned (.bool false)) (W.putObj L (.loop (qes r .ret)))
 | .exit id,_,W=>LoopBk W L D (qew r)/\R (.returned (.bool false)) (W.putObj L (.loop (qes r (.exit id))))
 | .goto t,_,W=>LoopBk W L D (qew r)/\R (.returned (.bool false)) (W.putObj L (.loop (qes r (.goto t))))
 | .panic _,_,_=>False
 | .outgrown,_,_=>False
def q6m(F:Fence)(m:Nat)(P:Program)(L D:Nat)(r:Loop)(R:Ending->World->Prop)(a1:Act)(W1:World):Prop:=
 LoopBk W1 L D r/\r.body.wpIn (F.inRound L) m P (q7b L D r R) a1 (W1.putObj L (.loop (qew r)))
theorem qyz{F:Fence}{m:Nat}{P:Program}{L D:Nat}{r:Loop}{vs:Array Value}{W:World}{R:Ending->World->Prop}(hfn:F.fn r.fn)(hst:r.state= .ready)(hpe:r.pending=none)(hb:LoopBk W L D r)(hps:vs.size=r.params.size)(h:r.assign.wpIn (F.inRound L) m P (Exit.then (q6m F m P L D r R) (λ_ _ _=>False))
   {tmps:=(r.params.zip vs).foldl (λt (p,v)=>t.setIfInBounds p v) r.tmps,defers:=[]} W):YieldAt F m P L vs W R:=by
 refine⟨r.fn,_,r.assign,r.body,run_yield hb.rec_ hps,roundIn_of_wpIn hfn (wpIn_mono h ?_)⟩;intro e a1 W1 hx;cases e<;>simp only[Exit.then] at hx ⊢
 obtain⟨hb1,hbody⟩:=hx;refine⟨_,run_beginRound hb1.rec_ hst,wpIn_mono hbody ?_⟩;intro e a2 W2 hy;cases e with
 |normal=>
  obtain⟨hb2,hR⟩:=hy;refine⟨_,_,run_endRound none hb2.rec_,?_⟩;have e1:(Loop.mk .ready none r.fn r.tmps r.params r.assign r.body r.defers)=r:=by cases r;simp_all
  simpa[qew,e1] using hR
 |ret=>obtain⟨hb2,hR⟩:=hy;exact⟨_,_,run_endRound (some .ret) hb2.rec_,hR⟩
 |exit id=>obtain⟨hb2,hR⟩:=hy;exact⟨_,_,run_endRound (some (.exit id)) hb2.rec_,hR⟩
 |goto t=>obtain⟨hb2,hR⟩:=hy;exact⟨_,_,run_endRound (some (.goto t)) hb2.rec_,hR⟩
 |panic ch=>exact hy
 |outgrown=>exact hy
theorem q0d{F:Fence}{n:Nat}{P:Program}{g:Operand}{ps:Array Tmp}{assign body:Code}{Q:Exit->Act->World->Prop}{a:Act}{w:World}(hro:F.round=none)(h1:1<=n){gf:Nat}{lb:Array Value}(hg:a.eval g= .func (.func gf) #[] lb)(hFg:F.fn gf)(eg:∀args w,(callFunc gf args).run P w= .ok (.enter gf args) w)(h:∀(r:Loop) (W1:World),F.fn r.fn->r.state= .ready->r.pending=none->r.tmps=a.tmps->r.params=ps->r.assign=assign->r.body=body->
   LoopBk W1 (w.heap.size+1) w.heap.size r->Below w.heap.size w W1->W1.heap.size=w.heap.size+2->
   CallsIn F (n - 1) P gf (#[.func (.yield (w.heap.size+1)) #[] #[]]++lb) W1 λe W2=>(∃v,e= .returned v)/\
    ((LoopBk W2 (w.heap.size+1) w.heap.size r/\Q .normal {a with defers:={target:= .collected w.heap.size,args:=#[]}::a.defers} (W2.putObj (w.heap.size+1) (.loop {r with state:= .exhausted})))\/
     ∃c,LoopBk W2 (w.heap.size+1) w.heap.size (qes r c)/\c.wpIn F n P Q {a with defers:={target:= .collected w.heap.size,args:=#[]}::a.defers} (W2.putObj (w.heap.size+1) (.loop {qes r c with state:= .exhausted})))):
  (Code.rangeFunc g ps assign body).wpIn F n P Q a w:=by
 refine wpIn_rangeFunc λfn hfn=>?_
 rw[hro];obtain⟨r,hr⟩:∃r:Loop,r={state:= .ready,pending:=none,fn,tmps:=a.tmps,params:=ps,assign,body,defers:=w.heap.size}:=⟨_,rfl⟩
 have hrun:=run_enterLoop_outer (w:=w) (P:=P) fn a.tmps ps assign body;rw[<-hr] at hrun;have hB:Below w.heap.size w ((w.alloc (.deferred (some []))).alloc (.loop r)):=((wac _ w).alloc (wab _) _).alloc Zs _;have hbk:LoopBk ((w.alloc (.deferred (some []))).alloc (.loop r)) (w.heap.size+1) w.heap.size r:=by
  have e1:=World.alloc_heap_new (w.alloc (.deferred (some []))) (.loop r);rw[wf7] at e1;exact⟨e1,(wbv _ _ _ Zs).trans (World.alloc_heap_new w _)⟩
 have hres:(resolve a.eval (rangeCall g (w.heap.size+1)) 0).run P ((w.alloc (.deferred (some []))).alloc (.loop r))= .ok {target:= .fn (.func gf) lb,args:=#[.func (.yield (w.heap.size+1)) #[] #[]]} ((w.alloc (.deferred (some []))).alloc (.loop r)):=by
  simp only[resolve,hg];simp[go_sem]
 refine⟨_,_,_,_,_,gf,#[.func (.yield (w.heap.size+1)) #[] #[]]++lb,(w.alloc (.deferred (some []))).alloc (.loop r),hrun,hres,?_,by simp[invoke,go_sem,eg],λ_=>h1,?_⟩
 ·intro f' hf'
  simp[Target.leads] at hf'
  subst hf';exact hFg
 ·refine(h r _ (by rw[hr];exact hfn) (by rw[hr]) (by rw[hr]) (by rw[hr]) (by rw[hr]) (by rw[hr]) (by rw[hr]) hbk hB Zs).mono ?_
  rintro e W2 ⟨⟨v,rfl⟩,(⟨hb2,hq⟩|⟨c,hb2,hq⟩)⟩
  ·have hpe:r.pending=none:=by rw[hr]
   exact⟨_,_,run_endLoop hb2.rec_ (by rw[hr];simp),by rw[hpe] at hq ⊢;exact hq⟩
  ·exact⟨some c,_,run_endLoop hb2.rec_ (by simp[qes]),hq⟩
attribute [local go_sem] wcy
def CapL(W:World)(bg bw:Nat)(s l r:Int)(v:Value):Prop:=Gi W bg s l r/\Boxed W bw 40 v
theorem CapL.below{W W':World}{bg bw:Nat}{s l r:Int}{v:Value}(h:CapL W bg bw s l r v)(hB:Below W.heap.size W W'):CapL W' bg bw s l r v:=
 ⟨(hB.block _ h.1.lt).trans h.1,(hB.block _ h.2.lt).trans h.2⟩
theorem qys(s l r:Int)(A:Option Addr)(n c:Nat)(w:World):Calls Tryz.prog 210 #[.agg #[.int .i64 s,.int .i64 l,.int .i64 r],.slice A n c] w λe w'=>
  e= .returned (.func (.func 276) #[] #[.pointer (some ⟨w.heap.size,0,none⟩),.pointer (some ⟨w.heap.size+1,0,none⟩)])/\CapL w' w.heap.size (w.heap.size+1) s l r (.slice A n c)/\Below w.heap.size w w':=by
 have hmf:∀(fn:Fn) (first cap:Array Value) (w:World),(Instr.makeFunc fn first cap).run Tryz.prog w= .ok (.func fn first cap) w:=λ_ _ _ _=>rfl
 have hB1:=(qa7 w s l r).alloc Zs (.cells #[.slice A n c] 40);have hg1:Gi ((w.alloc (.cells #[.int .i64 s,.int .i64 l,.int .i64 r] 23)).alloc (.cells #[.slice A n c] 40)) w.heap.size s l r:=qag (Gi.new w s l r) _;have hx1:Boxed ((w.alloc (.cells #[.int .i64 s,.int .i64 l,.int .i64 r] 23)).alloc (.cells #[.slice A n c] 40)) (w.heap.size+1) 40 (.slice A n c):=qan Zs _ _;go_enter Tryz.func210,Tryz.ntmps210;go_wp2_with fail;go_ret;exact⟨rfl,⟨hg1,hx1⟩,hB1⟩
theorem ReadE.log{B:Nat}{o:Option (List (Int×Nat))}{e:Ending}{w':World}(h:ReadE B o e w'):∃v k,e= .returned (.tuple #[v,.int .i64 k])/\w'.ownsRow B 152 2 v (o.getD []).length (eV (o.getD [])):=by
 cases o with
 |none=>exact⟨_,_,h,wa9 _ _ _ _⟩
 |some L=>obtain⟨v,h1,h2⟩:=h;exact⟨v,_,h1,h2⟩
theorem qxp(n:Nat)(hn:1<=n)(y bg bw:Nat)(s l r:Int)(A:Option Addr)(cap:Nat)(ws:List Nat)(w0:World)(hr:Rd w0 A ws.length (u64V ws))(hcap:ws.length<=cap)(hf:fitB s l r ws.length=true)(hlt:∀x∈ws,x<18446744073709551616)(J:Nat->World->Prop)(Jx:World->Prop)(hJc:∀t W,J t W->CapL W bg bw s l r (.slice A ws.length cap)/\Below w0.heap.size w0 W)(hJ:∀t W W',J t W->Below W.heap.size W W'->J t W')(hY:∀(t:Nat) v W,(t:Int)<l->J t W->W.ownsRow w0.heap.size 152 2 v (qak ws t).length (eV (qak ws t))->YieldAt Fence.wide (n - 1) Tryz.prog y #[.int .i64 (t:Int),v] W λe W'=>
   (e= .returned (.bool true)/\J (t+1) W')\/(e= .returned (.bool false)/\Jx W'))(W:World)(h0:J 0 W):
  CallsIn Fence.wide n Tryz.prog 276 #[.func (.yield y) #[] #[],.pointer (some ⟨bg,0,none⟩),.pointer (some ⟨bw,0,none⟩)] W λe W'=>(∃v,e= .returned v)/\(J l.toNat W'\/Jx W'):=by
 have hb:=qaw hf;have hm:=(fitB_iff.1 hf).1;obtain⟨m,hm'⟩:∃m:Nat,l=(m:Int):=⟨l.toNat,Zo⟩
 subst hm';rw[wam];have hg0:=(hJc 0 W h0).1.1.cells;obtain⟨c0,c1,c2,cf⟩:=hg0;refine callsIn_of_wp Tryz.func276 rfl trivial ?_ rfl;simp only[Tryz.ntmps276,wbj,way,wbq,Nat.reduceAdd,Nat.reduceSub,wci,wcj,wck,wcl,wba,wcb];gi_wp2
 gi_loopw [10] (λp wr=>∃(V:World) (t:Nat),V=wr/\p= .int .i64 (t:Int)/\t<=m/\J t V)
  (λp _=>m - (RowKit.intOf p).toNat)
 case atStart=>exact⟨_,0,rfl,rfl,wau _,h0⟩
 case round=>
  clear c0 c1 c2 cf;obtain⟨V,t,rfl,rfl,ht,hJt⟩:=hrel;obtain⟨hcV,hB⟩:=hJc t _ hJt;by_cases htm:t<m
  ·have hcl:=hY t
   obtain⟨h,hh⟩:∃h:Nat,16+40*t=h:=⟨_,rfl⟩
   have hh2:h+40<=ws.length:=Zo
   have hent:=λU=>qpa s (m:Int) r (t:Int) 0 U
   have hlan:=λU=>qfx s (m:Int) r (t:Int) U
   rw[show entN s (m:Int) r (t:Int) 0=((h+8:Nat):Int) from(if_pos ⟨hm,Zo,Zo⟩).trans Zo] at hent;rw[show qbl s (m:Int) r (t:Int)=(h:Int) from(if_pos ⟨hm,Zo,Zo⟩).trans Zo] at hlan;have hent':=waa hent;have hlan':=waa hlan;have hx:ws[h]? =some ws[h]:=waj Zo;have hxl:=hlt ws[h] (wb6 _);obtain⟨p,rfl,-⟩:=qa6 hr hx;have hle:(qbh ws[h] ((ws.drop (h+8)).take 32)).getD []=qak ws t:=by
    rw[qak,show 24+40*t=h+8 by omega,hh,wax,hx];rfl
   have hsl:((ws.drop (h+8)).take 32).length=32:=by rw[war,wbu];omega
   have hrd:=λ(U:World) (hU:Below w0.heap.size w0 U)=>(qqb (some (p.add (h+8))) (cap - (h+8)) ws[h] ((ws.drop (h+8)).take 32) U (by rw[hsl];exact q4z (hr.below hU) Zo) (by rw[hsl];omega) (by rw[hsl];omega) hxl (λx hx=>hlt x (wdo (wb0 hx)))).mono λe w' ⟨h1,h2⟩=>(⟨h1.log,h2⟩:_/\Below U.heap.size U w')
   rw[hsl,hle] at hrd;have hcell:=waa (λ(U:World) (hU:Below w0.heap.size w0 U)=>show U.cell? (p.add h)=some (.int .u64 (ws[h]:Int)) from by
    obtain⟨q,e,hq⟩:=qa6 (hr.below hU) hx;injection e with e;subst e;exact hq)
   generalize ws[h]=x at hrd hcell hle hxl;have hrd':=waa hrd;obtain⟨b,hbb⟩:∃b:Nat,h+8=b:=⟨_,rfl⟩
   rw[hbb] at hent' hrd';have k1:IntKind.i64.wrap ((b:Int)+32)=(b:Int)+32:=wao _ Zo;have z0:(0:Int)<=(b:Int):=Zo
   have z1:(b:Int)<=(b:Int)+32:=Zo
   have z2:(b:Int)+32<=(cap:Int):=Zo
   have t1:((b:Int)+32).toNat=b+32:=Zo
   have e32:b+32 - b=32:=Zo
   have c8:¬cap=b:=Zo
   have y0:(0:Int)<=(h:Int):=Zo
   have hm4:m<=4:=Zo
   have y1:(h:Int)<(ws.length:Int):=Zo
   obtain⟨c0,c1,c2,cf⟩:=hcV.1.cells;clear hent hlan hrd hle hsl hx hh hbb hh2 hf hb;gi_wp2_with fail
   refine⟨trivial,(callsIn_wide.2 (hent'.out _)).mono ?_⟩;rintro e W2 ⟨rfl,hC⟩;have hc2:=hcV.below hC;have hB2:=hB.trans (hC.mono hB.size);have hJ2:=hJ _ _ _ hJt hC;obtain⟨x0,x1,x2,x3,x4⟩:W2.drew.cell? ⟨bw,0,none⟩=some (.slice (some p) ws.length cap)/\W2.drew.cell? ⟨bg,0,none⟩=some (.int .i64 s)/\W2.drew.cell? ⟨bg,1,none⟩=some (.int .i64 (m:Int))/\W2.drew.cell? ⟨bg,2,none⟩=some (.int .i64 r)/\W2.drew.cell? (p.add h)=some (.int .u64 (x:Int)):=
    ⟨hc2.2.cell,hc2.1.cells.1,hc2.1.cells.2.1,hc2.1.cells.2.2.1,hcell.out _ hB2.drew⟩
   clear hJt hC hB hcV c0 c1 c2 cf;gi_wp2_with fail
   refine wpIn_wide.2 ?_;go_wp2_with fail;go_region_held3 (λV=>V.cell? ⟨bw,0,none⟩=some (.slice (some p) ws.length cap)/\V.cell? ⟨bg,0,none⟩=some (.int .i64 s)/\V.cell? ⟨bg,1,none⟩=some (.int .i64 (m:Int))/\V.cell? ⟨bg,2,none⟩=some (.int .i64 r)/\V.cell? (p.add h)=some (.int .u64 (x:Int)))
    (first|with_reducible exact⟨x0,x1,x2,x3,x4⟩|with_reducible exact⟨u0,u1,u2,u3,u4⟩|with_reducible exact⟨v0,v1,v2,v3,v4⟩)
    (first
     |(go_at_call 108
       refine(hlan'.out _).mono ?_;rintro e W3 ⟨rfl,hD⟩;have hD3:=(wac W2.heap.size W2).drew.trans (hD.mono (wab _));have hc3:=hc2.below hD3;have hB3:=hB2.trans (hD3.mono hB2.size);obtain⟨u0,u1,u2,u3,u4⟩:W3.cell? ⟨bw,0,none⟩=some (.slice (some p) ws.length cap)/\W3.cell? ⟨bg,0,none⟩=some (.int .i64 s)/\W3.cell? ⟨bg,1,none⟩=some (.int .i64 (m:Int))/\W3.cell? ⟨bg,2,none⟩=some (.int .i64 r)/\W3.cell? (p.add h)=some (.int .u64 (x:Int)):=
        ⟨hc3.2.cell,hc3.1.cells.1,hc3.1.cells.2.1,hc3.1.cells.2.2.1,hcell.out _ hB3⟩)
     |(go_at_call 278
       refine(hrd'.out _ hB3).mono ?_;rintro e W4 ⟨⟨vl,kl,rfl,hown⟩,hE⟩;have hD4:=hD3.trans (hE.mono hD3.size);have hB4:=hB2.trans (hD4.mono hB2.size);obtain⟨v0,v1,v2,v3,v4⟩:W4.cell? ⟨bw,0,none⟩=some (.slice (some p) ws.length cap)/\W4.cell? ⟨bg,0,none⟩=some (.int .i64 s)/\W4.cell? ⟨bg,1,none⟩=some (.int .i64 (m:Int))/\W4.cell? ⟨bg,2,none⟩=some (.int .i64 r)/\W4.cell? (p.add h)=some (.int .u64 (x:Int)):=
        ⟨(hc3.below hE).2.cell,(hc3.below hE).1.cells.1,(hc3.below hE).1.cells.2.1,(hc3.below hE).1.cells.2.2.1,hcell.out _ hB4⟩))
   have hown4:=qax hown hB3.size;have hJ4:=hJ _ _ _ hJ2 hD4;obtain⟨fn,tmps,assign,body,hy,hR⟩:=hcl vl W4 Zo hJ4 hown4;clear hcl hown hown4 hJ2 hB2 hc2 hD3 hc3 hB3 u0 u1 u2 u3 u4 v0 v1 v2 v3 v4 x0 x1 x2 x3 x4 hD hE;gi_wp2_with fail
   refine hR.mono ?_;rintro e U3 (⟨rfl,hJ5⟩|⟨rfl,hJx5⟩)
   ·gi_wp2_with fail
    go_roundw
    case rel=>exact⟨_,t+1,rfl,by go_num,Zo,hJ5⟩
    case measure=>simp[RowKit.intOf];omega
   ·gi_wp2_with fail
    refine bodyPost_ret (results_none rfl _ _ _) rfl ?_;exact⟨⟨_,rfl⟩,.inr hJx5⟩
  ·obtain rfl:t=m:=Zo
   gi_wp2_with fail
   go_end0
   exact⟨⟨_,rfl⟩,.inl hJt⟩
end Go.Proofs.YtocncmbeinmiaaaGreat
