/- Parts. No condition. -/
import Derived.Test.YtgjhkafggagniaaGreatJoinV19
set_option linter.unusedVariables false
set_option maxRecDepth 100000
set_option maxHeartbeats 8000000
namespace Go.Proofs.YtgjhkafggagniaaGreat
open Go Go.RowKit
section
variable {τ:Type} {A:AC} {E:DP τ} {i i':Nat} {l l':List Nat} {s s':DM×τ} {F F':Nat->Prop} {v v':Value} {ws ws' es:List (Int×Nat)} {w w' w2:World} {e:Ending}
def StoI(A:AC)(E:DP τ)(F:Nat->Prop)(v:Value)(ws:List (Int×Nat))(w:World)(i:Nat)(l:List Nat)(s:DM×τ)(X:Option Addr)(es:List (Int×Nat))(j:Nat)(wr:World):Prop:=
 ∃i' l' s' F',AP.each (qct E.n E.nl E.who) (es.take j) E.sp i l s= .done () i' l' s'/\AtF A E F v ws w i' l' s' F' wr/\EsRd wr X es.length es/\∀p,X=some p->0<es.length->¬F' p.block/\p.block<wr.heap.size
theorem qkl(h:AIn A E i l s F v ws w){X:Option Addr}{cap N:Nat}(hes:EsRd w X N es)(hX:∀p,X=some p->0<N->¬F p.block/\p.block<w.heap.size)(hr:∀e∈es,0<=e.1/\e.1<16384)(hx:∀e∈es,e.2<18446744073709551616)(hN:N<=60000)(hw:qa7 E.n E.nl E.who es E.sp i l s≠ .wild):
  Calls Tryz.prog 272 #[.pointer (some ⟨A.ab,0,none⟩),.slice X N cap] w λe w'=>E.Post (qa7 E.n E.nl E.who es E.sp i l s) qbc F w e w':=by
 have hln:es.length=N:=hes.1;subst hln;have hw0:((AP.each (qct E.n E.nl E.who) es).bind λ_=>fluA E es) E.sp i l s≠ .wild:=hw;have hob:qa7 E.n E.nl E.who es E.sp i l s=((AP.each (qct E.n E.nl E.who) es).bind λ_=>fluA E es) E.sp i l s:=rfl;have hI0:Hid (StoI A E F v ws w i l s X es 0 w):=waa ⟨i,l,s,F,rfl,AtF.start h,hes,hX⟩;have heb:=h.eb;have hlt:=h.a.lt;replace hr:=waa hr;replace hx:=waa hx;replace hw0:=waa hw0;replace hob:=waa hob;clear h hes hX hw;generalize hlen:es.length=M at hN ⊢;replace hlen:=waa hlen;go_enter Tryz.func272,Tryz.ntmps272;go_wp2_with fail;go_loopg [8] M (λk s8 wr=>∃j:Nat,s8= .int .i64 (j:Int)/\M - j<=k/\j<=M/\Hid (StoI A E F v ws w i l s X es j wr))
 case atStart=>exact⟨0,rfl,Zo,Zo,hI0⟩
 case round=>
  obtain⟨j,rfl,hk,hj,hI⟩:=hrel;obtain⟨i1,l1,s1,F1,hd1,hA1,hR1,hX1⟩:=hI.out;by_cases hlt:j<M
  ·have z1:(j:Int)<(M:Int):=Zo
   have z2:(0:Int)<=(j:Int):=Zo
   obtain⟨⟨ea,ex⟩,hb⟩:∃b,es[j]? =some b:=⟨_,wan (by rw[hlen.out];exact hlt)⟩
   obtain⟨p,rfl,hc⟩:=hR1.2 (by rw[hlen.out];omega);obtain⟨cj0,cj1⟩:=hc j _ hb;dsimp only at cj0 cj1;have hwf:qct E.n E.nl E.who (ea,ex) E.sp i1 l1 s1≠ .wild:=by
    have h:=AP.tame hw0.out;rw[AP.each_split _ hb] at h;exact AP.tame_next (f:=λ_=>qct E.n E.nl E.who (ea,ex)) (AP.tame h) hd1
   have hBo:=(wai wr.heap.size wr).alloc (wah _) (.cells #[.int .i64 ea,.int .u64 (ex:Int)] 169);have hx0:(wr.alloc (.cells #[.int .i64 ea,.int .u64 (ex:Int)] 169)).heap[wr.heap.size]? =some (.cells #[.int .i64 ea,.int .u64 (ex:Int)] 169 (0,0)):=heap_alloc_new wr _;have hA2:=(hA1.below hBo).new ((Upd.refl (λ_=>False) _).drew);have hR2:=hR1.below hBo;have hX2:=hX1 p rfl (by rw[hlen.out];omega);have hX3:p.block<(wr.alloc (.cells #[.int .i64 ea,.int .u64 (ex:Int)] 169)).heap.size:=wak hX2.2 hBo.size;obtain⟨W2,hW2⟩:∃W2,wr.alloc (.cells #[.int .i64 ea,.int .u64 (ex:Int)] 169)=W2:=⟨_,rfl⟩
   rw[hW2] at hA2 hx0 hR2 hX3;have e0:W2.cell? ⟨wr.heap.size,0,none⟩=some (.int .i64 ea):=qab hx0 0;have e1:W2.cell? ⟨wr.heap.size,1,none⟩=some (.int .u64 (ex:Int)):=qab hx0 1;have hst:=waa (qne hA2.a.i ea (hx.out _ (wb9 hb)) hwf);obtain⟨⟨c0,-⟩,-⟩:=hA2.a.a.cells;rw[heb] at c0;have hFb:¬F1 wr.heap.size:=λe=>by have:=hA1.a.i.lt e;omega
   have hbl:wr.heap.size<W2.heap.size:=(waj.1 hx0).1;replace hA2:=waa hA2;replace hR2:=waa hR2;replace hd1:=waa hd1;replace hb:=waa hb;replace hW2:=waa hW2;clear hA1 hR1 hX1 hc hI hI0 hBo hx0;go_upto_region 3 with fail
   try rw[hW2.out]
   refine wp_region_held_drew (S:=(λU=>U.cell? ⟨A.ab,0,none⟩=some (.pointer (some ⟨E.eb,0,none⟩))/\U.cell? ⟨wr.heap.size,0,none⟩=some (.int .i64 ea)/\U.cell? ⟨wr.heap.size,1,none⟩=some (.int .u64 (ex:Int)))) Zk (⟨c0,e0,e1⟩) (λhHeld=>?_);refine wpAnyH_take (i:=0) (v:=?_) rfl Zk Zk Zk (λ_ _ _ h=>h) (Or.inl ⟨by rfl,?_⟩) Za ?_;rotate_left;(·intro u h;(try dsimp only at h);(try simp only[wab,wac]);go_simp;try with_reducible rfl);try simp only[Act.put,waf,wae,wag,wab,wac]
   refine wpAnyH_take (i:=1) (v:=?_) rfl Zk Zk Zk (λ_ _ _ h=>h) (Or.inl ⟨by rfl,?_⟩) Za ?_;rotate_left;(·intro u h;(try dsimp only at h);(try simp only[wab,wac,wad]);go_simp;try with_reducible rfl);try simp only[Act.put,waf,wae,wag,wab,wac,wad]
   refine wpAnyH_take (i:=2) (v:=?_) rfl Zk Zk Zk (λ_ _ _ h=>h) (Or.inl ⟨by rfl,?_⟩) Za ?_;rotate_left;(·intro u h;(try dsimp only at h);(try simp only[wab,wac,wad]);go_simp;try with_reducible rfl);try simp only[Act.put,waf,wae,wag,wab,wac,wad]
   refine wpAnyH_take (i:=3) (v:=?_) rfl Zk Zk Zk (λ_ _ _ h=>h) (Or.inl ⟨by rfl,?_⟩) Za ?_;rotate_left;(·intro u h;(try dsimp only at h);(try simp only[wab,wac,wad]);go_simp;try with_reducible rfl);try simp only[Act.put,waf,wae,wag,wab,wac,wad]
   refine wpAnyH_take (i:=4) (v:=?_) rfl Zk Zk Zk (λ_ _ _ h=>h) (Or.inl ⟨by rfl,?_⟩) Za ?_;rotate_left;(·intro u h;(try dsimp only at h);(try simp only[wab,wac,wad]);go_simp;try with_reducible rfl);try simp only[Act.put,waf,wae,wag,wab,wac,wad]
   refine wpAnyH_take (i:=5) (v:=?_) rfl Zk Zk Zk (λ_ _ _ h=>h) (Or.inl ⟨by rfl,?_⟩) Za ?_;rotate_left;(·intro u h;(try dsimp only at h);(try simp only[wab,wac,wad]);go_simp;try with_reducible rfl);try simp only[Act.put,waf,wae,wag,wab,wac,wad]
   refine wpAnyH_take (i:=6) (v:=?_) rfl Zk Zk Zk (λ_ _ _ h=>h) (Or.inl ⟨by rfl,?_⟩) Za ?_;rotate_left;(·intro u h;(try dsimp only at h);(try simp only[wab,wac,wad]);go_simp;try with_reducible rfl);try simp only[Act.put,waf,wae,wag,wab,wac,wad]
   refine wpAnyH_take (i:=7) (v:=?_) rfl Zk Zk Zk (λ_ _ _ h=>h) (Or.inl ⟨by rfl,?_⟩) Za ?_;rotate_left;(·intro u h;(try dsimp only at h);(try simp only[wab,wac,wad]);go_simp;try with_reducible rfl);try simp only[Act.put,waf,wae,wag,wab,wac,wad]
   refine wpAnyH_ready (rs:=[8]) Zk Zs ?_;refine AllReadyH.cons rfl (λK hK=>?_) AllReadyH.nil
   (try simp only[wab,wac,wad])
   go_simp
   refine hst.out.mono ?_;intro e V2 hpost;rcases DP.Post.done (t:=qct E.n E.nl E.who (ea,ex)) hpost hwf with ⟨u2,i2,l2,s2,x2,F2,ho2,rfl,rfl,hI2,hg2,hu2⟩|⟨bl,l2,s2,F2,ho2,rfl,hO2,hg2,hu2⟩
   rotate_left
   ·exact⟨rfl,qba (hA2.out.off hO2 hg2 hu2) (by rw[hob.out,AP.each_split _ hb.out];exact AP.bind_stop (AP.bind_stop (by rw[AP.bind_done hd1.out];exact ho2)))⟩
   have hJ:Hid (StoI A E F v ws w i l s (some p) es (j+1) V2):=waa ⟨i2,l2,s2,F2,by rw[AP.each_next _ hb.out,AP.bind_done hd1.out];exact ho2,hA2.out.step hI2 hg2 hu2,EsRd.upd (show EsRd W2.drew (some p) es.length es from hR2.out) hu2 (λq hq hn=>by
     injection hq with hq;subst hq;exact hX2.1),λq hq hn=>by
     injection hq with hq;subst hq;exact⟨hg2.no hX3 hX2.1,wak hX3 hu2.size⟩⟩
   have k0:=(hu2.cell (p:=⟨A.ab,0,none⟩) (wal _ _ c0) hA2.out.a.nF).trans c0;have k1:=(hu2.cell (p:=⟨wr.heap.size,0,none⟩) (wal _ _ (show W2.drew.cell? ⟨wr.heap.size,0,none⟩=_ from e0)) hFb).trans e0;have k2:=(hu2.cell (p:=⟨wr.heap.size,1,none⟩) (wal _ _ (show W2.drew.cell? ⟨wr.heap.size,1,none⟩=_ from e1)) hFb).trans e1;clear hpost hI2 hg2 hu2 hd1 hA2 hR2 hst ho2;go_wp2_with fail;refine hK.out _ _ (⟨k0,k1,k2⟩) (λhHeld2=>?_);clear hK K hHeld;have hHeld:=hHeld2;clear hHeld2;try simp only[Act.put,waf,wae,wag,wab,wac,wad]
   refine wpAnyH_done Zk ?_ _;go_wp2_with fail;go_roundg (M - (j+1))
   case measure=>omega
   case rel=>exact⟨j+1,by go_num,wah _,Zo,hJ⟩
  ·have z1:¬(j:Int)<(M:Int):=Zo
   rw[wax (by rw[hlen.out];omega)] at hd1;have hwn:fluA E es E.sp i1 l1 s1≠ .wild:=AP.tame_next (f:=λ_=>fluA E es) hw0.out hd1;have hfl:=qqg (cap:=cap) hA1.a hR1 hr.out (by rw[hlen.out];exact hN) hwn;rw[hlen.out] at hfl;replace hfl:=waa hfl;replace hA1:=waa hA1;clear hI hI0 hR1 hX1;go_wp2_with fail;refine hfl.out.mono ?_;intro e V2 hpost;rcases DP.Post.done (t:=fluA E es) hpost hwn with ⟨u2,i2,l2,s2,x2,F2,ho2,rfl,rfl,hI2,hg2,hu2⟩|⟨bl,l2,s2,F2,ho2,rfl,hO2,hg2,hu2⟩
   rotate_left
   ·exact⟨rfl,qba (hA1.out.off hO2 hg2 hu2) (by rw[hob.out,AP.bind_done hd1];exact ho2)⟩
   have hfin:=waa (AtF.done (t:=qa7 E.n E.nl E.who es) (R:=qbc) (a:=()) (x:= .tuple #[]) (hA1.out.step hI2 hg2 hu2) (by rw[hob.out,AP.bind_done hd1];exact ho2) rfl);clear hpost hI2 hg2 hu2 ho2 hA1 hfl hd1;go_wp2_with fail;go_end0
   exact hfin.out
end
abbrev HD:=Int×Int×Int
abbrev BL:=Int×Int×Int×Int
def hdB(h:HD):Bool:=qav h.1 h.2.1 h.2.2
def hdsB(s l r:Int)(hs:List HD):Bool:=mayB s l r&&(decide ((hs.length:Int)=s)&&hs.all hdB)
theorem hdsB_iff{s l r:Int}{hs:List HD}:hdsB s l r hs=true↔mayB s l r=true/\(hs.length:Int)=s/\∀h∈hs,hdB h=true:=by simp[hdsB,List.all_eq_true]
def qe7:Nat->Nat->List HD->Bool
 |_,0,_=>true
 |_,_+1,[]=>false
 |k,n+1,h::t=>decide (h.1=3/\h.2.2=(k:Int))&&qe7 (k+1) n t
theorem que(k n:Nat)(h:HD)(t:List HD):qe7 k (n+1) (h::t)=(decide (h.1=3/\h.2.2=(k:Int))&&qe7 (k+1) n t):=rfl
theorem ql3:∀(n k:Nat) (t:List HD),runB (k:Int) ((k+n:Nat):Int) (t.take n)=qe7 k n t
 |0,k,t=>by
  show decide (((k+0:Nat):Int)<=(k:Int))=true
  exact decide_eq_true Zo
 |n+1,k,[]=>by
  show decide (((k+(n+1):Nat):Int)<=(k:Int))=false
  exact decide_eq_false Zo
 |n+1,k,h::t=>by
  rw[we1,que];by_cases h3:h.1=3/\h.2.2=(k:Int)
  ·rw[qj7 h3.1 Zo h3.2,decide_eq_true h3,wcp,<-ql3 n (k+1) t]
   rw[show((k+(n+1):Nat):Int)=((k+1+n:Nat):Int) by omega];rfl
  ·rw[decide_eq_false h3,wcq]
   by_cases h1:h.1=3
   ·exact qfm (.inl ⟨h1,λx=>h3 ⟨h1,x.2⟩⟩)
   ·exact qfm (.inr ⟨h1,Zo⟩)
def whoB(hs:List HD)(i:Nat):Bool:=match hs.drop i with
 |[]=>false
 |h::t=>if h.1=1 then true else if h.1=2 then qe7 1 (h.2.2.toNat - 1) t else false
def whoI(hs:List HD)(i:Int):Bool:=if 0<=i then whoB hs i.toNat else false
theorem qjs{hs t:List HD}{h:HD}{i:Nat}(hd:hs.drop i=h::t):whoB hs i=if h.1=1 then true else if h.1=2 then qe7 1 (h.2.2.toNat - 1) t else false:=by rw[whoB,hd]
theorem qxn{hs:List HD}{i:Nat}(h:hs.length<=i):whoB hs i=false:=by rw[whoB,wa6 h]
theorem qru{hs t:List HD}{h:HD}{i:Nat}(hd:hs.drop i=h::t)(h1:h.1=1):whoB hs i=true:=by rw[qjs hd,if_pos h1]
theorem qpt{hs t:List HD}{h:HD}{i:Nat}(hd:hs.drop i=h::t)(h1:h.1=2):whoB hs i=qe7 1 (h.2.2.toNat - 1) t:=by rw[qjs hd,if_neg Zo,if_pos h1]
theorem qui{hs t:List HD}{h:HD}{i:Nat}(hd:hs.drop i=h::t)(h1:h.1≠1)(h2:h.1≠2):whoB hs i=false:=by rw[qjs hd,if_neg h1,if_neg h2]
theorem qmx(hs:List HD)(i:Nat):whoI hs (i:Int)=whoB hs i:=by rw[whoI,if_pos Zo,wao]
theorem qph{hs:List HD}{i:Int}(h:i<0\/(hs.length:Int)<=i):whoI hs i=false:=by
 unfold whoI;split
 ·exact qxn Zo
 ·rfl
theorem qzx{h:HD}{t:List HD}{m:Nat}(h2:h.1=2)(hm:h.2.2=(m:Int))(h1:1<=m):runB 0 0 (h::t.take (m - 1))=qe7 1 (h.2.2.toNat - 1) t:=by
 rw[qil h2 Zo,hm,wao,<-ql3 (m - 1) 1 t,show((1+(m - 1):Nat):Int)=(m:Int) by omega];rfl
theorem qye{h:HD}{t:List HD}{m q:Nat}(h1:1<=m)(hq:q=m\/(q=t.length+1/\q<=m)):(h::t).take q=h::t.take (m - 1):=by
 rcases hq with rfl|⟨rfl,h2⟩
 ·obtain⟨k,rfl⟩:∃k,q=k+1:=⟨q - 1,Zo⟩
  rw[we1];rfl
 ·rw[we1,wax (wah _),wax Zo]
def adNb(h:HD):Int:=if h.1=2 then 1 else bkN h.2.1
def adWd(h:HD):Int:=if h.1=2 then h.2.2*64 else szN h.2.1
theorem q1y(c:Int):0<=bkN c/\bkN c<=32:=by unfold bkN;(repeat' split)<;>omega
theorem qpe(h:HD):0<=adNb h/\adNb h<=32:=by unfold adNb;split;exact⟨Zo,Zo⟩;exact q1y _
theorem qzn{h:HD}(hm:hdB h=true):0<=adWd h/\adWd h<=256:=by
 have:=qfo (k:=h.1) (c:=h.2.1) (n:=h.2.2) hm
 unfold adWd;split
 ·omega
 ·have:=qls h.2.1;omega
theorem qxi{h:HD}(hm:hdB h=true)(h1:h.1=2):adNb h=1/\adWd h=h.2.2*64/\1<=h.2.2/\h.2.2<=4:=by
 have:=(hmay_iff (k:=h.1) (c:=h.2.1) (n:=h.2.2)).1 hm
 unfold adNb adWd;rw[if_pos h1,if_pos h1];omega
def bls(a sp wd:Int)(n:Nat):List BL:=(List.range n).map λ(i:Nat)=>(a+(i:Int)*wd,sp,(i:Int),wd)
theorem qln(a sp wd:Int)(n:Nat):bls a sp wd (n+1)=bls a sp wd n++[(a+(n:Int)*wd,sp,(n:Int),wd)]:=by simp[bls,List.range_succ]
theorem q0d(a sp wd:Int)(n:Nat):(bls a sp wd n).length=n:=by simp[bls]
def qeu(s l r:Int)(hs:List HD)(j:Nat):List BL:=if whoB hs j=true then(match hs[j]? with|some h=>bls (qci s l r j) j (adWd h) (adNb h).toNat|none=>[]) else[]
theorem quf{s l r:Int}{hs:List HD}{j:Nat}(h:whoB hs j=false):qeu s l r hs j=[]:=if_neg (by rw[h];decide)
theorem qid{s l r:Int}{hs:List HD}{j:Nat}{x:HD}(h:whoB hs j=true)(hx:hs[j]? =some x):qeu s l r hs j=bls (qci s l r j) j (adWd x) (adNb x).toNat:=by
 rw[qeu,if_pos h,hx]
theorem qrt(s l r:Int)(hs:List HD)(j:Nat):(qeu s l r hs j).length<=32:=by
 unfold qeu;split
 ·split
  ·rename_i h _
   rw[q0d];have:=qpe h
   omega
  ·simp
 ·simp
def qbg(s l r:Int)(hs:List HD)(j:Nat):List BL:=(List.range j).flatMap (qeu s l r hs)
theorem qdf(s l r:Int)(hs:List HD)(j:Nat):qbg s l r hs (j+1)=qbg s l r hs j++qeu s l r hs j:=by simp[qbg,List.range_succ]
theorem qrg(s l r:Int)(hs:List HD)(j:Nat):(qbg s l r hs j).length<=32*j:=by
 induction j with
 |zero=>simp[qbg]
 |succ j ih=>
  rw[qdf,wbh];have:=qrt s l r hs j
  omega
theorem qse{s l r:Int}{hs:List HD}{j n:Nat}(h:j<=n):qbg s l r hs j<+:qbg s l r hs n:=by
 induction n with
 |zero=>
   obtain rfl:j=0:=Zo
   exact wdf _
 |succ n ih=>
  by_cases hj:j<=n
  ·rw[qdf]
   exact(ih hj).trans (we2 _ _)
  ·obtain rfl:j=n+1:=Zo
   exact wdf _
theorem qz6(a sp wd:Int){i n:Nat}(h:i<=n):bls a sp wd i<+:bls a sp wd n:=by
 induction n with
 |zero=>
   obtain rfl:i=0:=Zo
   exact wdf _
 |succ n ih=>
  by_cases hj:i<=n
  ·rw[qln]
   exact(ih hj).trans (we2 _ _)
  ·obtain rfl:i=n+1:=Zo
   exact wdf _
def qeo(s l r:Int)(hs:List HD):List BL:=if hdsB s l r hs=true then qbg s l r hs hs.length else[]
theorem qgn{s l r:Int}{hs:List HD}(h:hdsB s l r hs=true):qeo s l r hs=qbg s l r hs hs.length:=if_pos h
theorem qmt{s l r:Int}{hs:List HD}(h:hdsB s l r hs=false):qeo s l r hs=[]:=if_neg (by rw[h];decide)
theorem qtm(s l r:Int)(hs:List HD):(qeo s l r hs).length<=512:=by
 cases h:hdsB s l r hs with
 |false=>rw[qmt h];simp
 |true=>
  rw[qgn h];obtain⟨h0,h1,-⟩:=hdsB_iff.1 h;have:=mayB_iff.1 h0
  have:=qrg s l r hs hs.length
  omega
theorem qsu{s l r:Int}{hs:List HD}{j i:Nat}{x:HD}(hj:j<hs.length)(hw:whoB hs j=true)(hx:hs[j]? =some x)(hi:(i:Int)<=adNb x):qbg s l r hs j++bls (qci s l r j) j (adWd x) i<+:qbg s l r hs hs.length:=by
 refine List.IsPrefix.trans ?_ (qse (show j+1<=hs.length by omega));rw[qdf,qid hw hx];exact(List.prefix_append_right_inj _).2 (qz6 _ _ _ Zo)
theorem qwp{s l r:Int}{hs:List HD}{j:Nat}{x:HD}(hw:whoB hs j=true)(hx:hs[j]? =some x){i:Nat}(hi:(i:Int)=adNb x):qbg s l r hs j++bls (qci s l r j) j (adWd x) i=qbg s l r hs (j+1):=by
 rw[qdf,qid hw hx,<-hi,wao]
theorem qxg{s l r:Int}{j:Nat}(hm:mayB s l r=true)(hj:(j:Int)<s):qci s l r j=16+40*l+8*s+64*(j:Int):=if_pos ⟨hm,Zo,hj⟩
theorem qkv{p:BL->Bool}{L:List BL}(h:∀b∈L,p b=false):L.find? p=none:=we3.2 (λb hb=>by rw[h b hb];decide)
theorem qyg{p:BL->Bool}{L pre:List BL}{b:BL}(hp:pre++[b]<+:L)(h0:∀x∈pre,p x=false)(h1:p b=true):L.find? p=some b:=by
 obtain⟨r,rfl⟩:=hp;rw[we4,we4,qkv h0];simp[h1]
def pAt(a:Int)(b:BL):Bool:=decide (b.1=a)
def qy0:Option BL->Ending
 |some b=> .returned (.tuple #[.agg #[.int .i64 b.2.1,.int .i64 b.2.2.1,.int .i64 b.2.2.2],.bool true])
 |none=> .returned (.tuple #[.agg #[.int .i64 0,.int .i64 0,.int .i64 0],.bool false])
theorem qrk(k c n:Int)(w:World):Calls Tryz.prog 288 #[.agg #[.int .i64 k,.int .i64 c,.int .i64 n]] w λe w'=>e= .returned (.bool (!hdB (k,c,n)))/\Below w.heap.size w w':=by
 have hg0:=Hd.new w k c n;have hB0:=qas w k c n;cases hm:qav k c n with
 |false=>
  have hw:=waa (λV=>qo9 k c n V hm);have he:=waa (show(!hdB (k,c,n))=true by show(!qav k c n)=true;rw[hm];rfl);clear hm;go_enter Tryz.func288,Tryz.ntmps288;go_wp2_with fail;generalize (w.alloc (.cells #[.int .i64 k,.int .i64 c,.int .i64 n] 134))=W1 at hg0 hB0 ⊢;obtain⟨c0,c1,c2,f⟩:=hg0.cells;go_wp2_with fail;refine(hw.out _).mono ?_;rintro e w1 ⟨rfl,hB⟩;have hB1:=hB0.trans (hB.mono hB0.size);go_wp2_with fail;go_ret;exact⟨qae he.out.symm,hB1⟩
 |true=>
  have hw:=waa (λV=>qh6 k c n V hm);have he:=waa (show(!hdB (k,c,n))=false by show(!qav k c n)=false;rw[hm];rfl);clear hm;generalize qcw k c n=x at hw;go_enter Tryz.func288,Tryz.ntmps288;go_wp2_with fail;generalize (w.alloc (.cells #[.int .i64 k,.int .i64 c,.int .i64 n] 134))=W1 at hg0 hB0 ⊢;obtain⟨c0,c1,c2,f⟩:=hg0.cells;go_wp2_with fail;refine(hw.out _).mono ?_;rintro e w1 ⟨rfl,hB⟩;have hB1:=hB0.trans (hB.mono hB0.size);go_wp2_with fail;go_ret;exact⟨qae he.out.symm,hB1⟩
def badN:Nat->List HD->Int
 |_,[]=>-1
 |k,h::t=>if hdB h=true then badN (k+1) t else(k:Int)
theorem qo4{k:Nat}{h:HD}{t:List HD}(hh:hdB h=true):badN k (h::t)=badN (k+1) t:=if_pos hh
theorem qvd{k:Nat}{h:HD}{t:List HD}(hh:hdB h=false):badN k (h::t)=(k:Int):=if_neg (by rw[hh];decide)
theorem qo6:∀(k:Nat) (hs:List HD),decide (0<=badN k hs)=!hs.all hdB
 |_,[]=>rfl
 |k,h::t=>by
  cases hh:hdB h with
  |true=>rw[qo4 hh,qo6 (k+1) t,wda,hh,wcp]
  |false=>rw[qvd hh,wda,hh,wcq];exact decide_eq_true Zo
theorem qq3(A:Option Addr)(cap:Nat)(hs:List HD)(w:World)(h:HdsRd w A hs.length hs)(hn:hs.length<=9223372036854775806):
  Calls Tryz.prog 163 #[.slice A hs.length cap,.func (.func 288) #[] #[]] w λe w'=>e= .returned (.int .i64 (badN 0 hs))/\Below w.heap.size w w':=by
 go_enter Tryz.func163,Tryz.ntmps163;go_wp2_with fail;go_loopw [8] (λq wr=>∃(W:World) (j:Nat),W=wr/\q= .int .i64 (j:Int)/\j<=hs.length/\Hid (badN j (hs.drop j)=badN 0 hs)/\Below w.heap.size w W) (λq _=>hs.length - (intOf q).toNat)
 case atStart=>exact⟨w,0,rfl,rfl,wat _,waa rfl,wai _ _⟩
 case round=>
  obtain⟨W,j,rfl,rfl,hj,hr,hB⟩:=hrel;by_cases hlt:j<hs.length
  ·obtain⟨p,k,c,n,rfl,hd,-,h0,h1,h2⟩:=(h.below hB).at_ hlt
   rw[hd] at hr;clear hd;have hm:=waa (λV=>qrk k c n V);cases hh:hdB (k,c,n) with
   |true=>
    rw[hh] at hm;have hr2:=waa ((qo4 hh).symm.trans hr.out);clear hr hh;go_wp2_with fail;refine(hm.out _).mono ?_;rintro e w1 ⟨rfl,hC⟩;have hB1:=hB.trans (hC.mono hB.size);go_wp2_with fail;go_roundw
    case rel=>exact⟨_,j+1,rfl,by go_num,Zo,hr2,hB1⟩
    case measure=>simp[intOf];omega
   |false=>
    rw[hh] at hm;have hr2:=waa ((qvd hh).symm.trans hr.out);clear hr hh;go_wp2_with fail;refine(hm.out _).mono ?_;rintro e w1 ⟨rfl,hC⟩;have hB1:=hB.trans (hC.mono hB.size);go_wp2_with fail;try rw[wbd]
    go_ret;exact⟨qb2 hr2.out,hB1⟩
  ·have e1:hs.drop j=[]:=wa6 Zo
   rw[e1] at hr;have hr2:=waa (hr.out.symm.trans (show badN j []= -1 from rfl));clear hr e1;go_wp2_with fail;go_ret;exact⟨qb2 hr2.out.symm,hB⟩
theorem qk5(A:Option Addr)(cap:Nat)(hs:List HD)(w:World)(h:HdsRd w A hs.length hs)(hn:hs.length<=9223372036854775806):
  Calls Tryz.prog 119 #[.slice A hs.length cap,.func (.func 288) #[] #[]] w λe w'=>e= .returned (.bool (!hs.all hdB))/\Below w.heap.size w w':=by
 have hi:=waa (qq3 A cap hs w h hn);have hb:=waa (qo6 0 hs);clear h;generalize badN 0 hs=x at hi hb;go_enter Tryz.func119,Tryz.ntmps119;go_wp2_with fail;refine hi.out.mono ?_;rintro e w1 ⟨rfl,hB⟩;go_wp2_with fail;go_ret;exact⟨qae hb.out,hB⟩
def rgtV(s l r:Int)(A:Option Addr)(cap:Nat)(hs:List HD):Value:=if hdsB s l r hs=true then .slice A hs.length cap else .slice none 0 0
theorem qm4{s l r:Int}{A:Option Addr}{cap:Nat}{hs:List HD}(h:hdsB s l r hs=true):rgtV s l r A cap hs= .slice A hs.length cap:=if_pos h
theorem qg6{s l r:Int}{A:Option Addr}{cap:Nat}{hs:List HD}(h:hdsB s l r hs=false):rgtV s l r A cap hs= .slice none 0 0:=if_neg (by rw[h];decide)
theorem qi7{a b:Value}(h:a=b):Ending.returned a= .returned b:=by rw[h]
theorem qi5(w:World)(s l r:Int):Below w.heap.size w (w.alloc (.cells #[.int .i64 s,.int .i64 l,.int .i64 r] 36)):=(wai _ w).alloc (wah _) _
def Gm(V:World)(b:Nat)(s l r:Int):Prop:=V.heap[b]? =some (.cells #[.int .i64 s,.int .i64 l,.int .i64 r] 36 (0,0))
theorem Gm.below{V V':World}{b B:Nat}{s l r:Int}(h:Gm V b s l r)(hb:Below B V V')(hB:b<B):Gm V' b s l r:=(hb.block b hB).trans h
theorem Gm.lt{V:World}{b:Nat}{s l r:Int}(h:Gm V b s l r):b<V.heap.size:=(waj.1 h).1
theorem Gm.cells{V:World}{b:Nat}{s l r:Int}(h:Gm V b s l r):V.cell? ⟨b,0,none⟩=some (.int .i64 s)/\V.cell? ⟨b,1,none⟩=some (.int .i64 l)/\V.cell? ⟨b,2,none⟩=some (.int .i64 r)/\(∀o,V.frozen? ⟨b,o,none⟩=false):=
 ⟨by rw[qab h];rfl,by rw[qab h];rfl,by rw[qab h];rfl,λo=>qah h o⟩
theorem Gm.new(W:World)(s l r:Int):Gm (W.alloc (.cells #[.int .i64 s,.int .i64 l,.int .i64 r] 36)) W.heap.size s l r:=World.alloc_heap_new W _
theorem Gm.other{V:World}{b b' o:Nat}{s l r:Int}{v:Value}(h:Gm V b s l r)(hne:b≠b'):Gm (V.setCell ⟨b',o,none⟩ v) b s l r:=(wa5 _ _ _ _ hne).trans h
theorem qt5(s l r:Int)(A:Option Addr)(cap:Nat)(hs:List HD)(w:World)(h:HdsRd w A hs.length hs)(hn:hs.length<=9223372036854775806):
  Calls Tryz.prog 231 #[.agg #[.int .i64 s,.int .i64 l,.int .i64 r],.slice A hs.length cap] w λe w'=>e= .returned (rgtV s l r A cap hs)/\Below w.heap.size w w':=by
 have hg0:=Gm.new w s l r;have hB0:=qi5 w s l r;have hm:=λV=>qha s l r V
 cases hmb:mayB s l r with
 |false=>
  rw[hmb] at hm;have he:=waa (qg6 (A:=A) (cap:=cap) (show hdsB s l r hs=false by rw[hdsB,hmb];rfl));have hm':=waa hm;clear hmb hm;go_enter wd8,wd9;go_wp2_with fail;generalize (w.alloc (.cells #[.int .i64 s,.int .i64 l,.int .i64 r] 36))=W1 at hg0 hB0 ⊢;obtain⟨c0,c1,c2,f⟩:=hg0.cells;go_wp2_with fail;refine(hm'.out _).mono ?_;rintro e w1 ⟨rfl,hB⟩;have hB1:=hB0.trans (hB.mono hB0.size);go_wp2_with fail;go_ret;exact⟨qi7 he.out.symm,hB1⟩
 |true=>
  rw[hmb] at hm;have hm':=waa hm;by_cases hl:(hs.length:Int)=s
  ·have hc:=waa (λ(V:World) (hV:Below w.heap.size w V)=>qk5 A cap hs V (h.below hV) hn)
   have hhd:hdsB s l r hs=hs.all hdB:=by rw[hdsB,hmb,decide_eq_true hl];rfl
   have hne:((hs.length:Int) !=s)=false:=by rw[hl];simp
   cases hal:hs.all hdB with
   |false=>
    rw[hal] at hc hhd;have he:=waa (qg6 (A:=A) (cap:=cap) hhd);clear hmb hm hl hhd hal;go_enter wd8,wd9;go_wp2_with fail;generalize (w.alloc (.cells #[.int .i64 s,.int .i64 l,.int .i64 r] 36))=W1 at hg0 hB0 ⊢;obtain⟨c0,c1,c2,f⟩:=hg0.cells;go_wp2_with fail;refine(hm'.out _).mono ?_;rintro e w1 ⟨rfl,hB⟩;have hg1:=hg0.below hB hg0.lt;have hB1:=hB0.trans (hB.mono hB0.size);obtain⟨d0,d1,d2,f1⟩:=hg1.cells;clear hg0 hB0 hB c0 c1 c2 f;go_wp2_with fail;refine(hc.out _ hB1).mono ?_;rintro e w2 ⟨rfl,hB⟩;have hB2:=hB1.trans (hB.mono hB1.size);go_wp2_with fail;go_ret;exact⟨qi7 he.out.symm,hB2⟩
   |true=>
    rw[hal] at hc hhd;have he:=waa (qm4 (A:=A) (cap:=cap) hhd);clear hmb hm hl hhd hal;go_enter wd8,wd9;go_wp2_with fail;generalize (w.alloc (.cells #[.int .i64 s,.int .i64 l,.int .i64 r] 36))=W1 at hg0 hB0 ⊢;obtain⟨c0,c1,c2,f⟩:=hg0.cells;go_wp2_with fail;refine(hm'.out _).mono ?_;rintro e w1 ⟨rfl,hB⟩;have hg1:=hg0.below hB hg0.lt;have hB1:=hB0.trans (hB.mono hB0.size);obtain⟨d0,d1,d2,f1⟩:=hg1.cells;clear hg0 hB0 hB c0 c1 c2 f;go_wp2_with fail;refine(hc.out _ hB1).mono ?_;rintro e w2 ⟨rfl,hB⟩;have hB2:=hB1.trans (hB.mono hB1.size);go_wp2_with fail;go_ret;exact⟨qi7 he.out.symm,hB2⟩
  ·have hne:((hs.length:Int) !=s)=true:=bne_iff_ne.2 hl
   have he:=waa (qg6 (A:=A) (cap:=cap) (show hdsB s l r hs=false by rw[hdsB,decide_eq_false hl,wcq,wes]));clear hmb hm hl;go_enter wd8,wd9;go_wp2_with fail;generalize (w.alloc (.cells #[.int .i64 s,.int .i64 l,.int .i64 r] 36))=W1 at hg0 hB0 ⊢;obtain⟨c0,c1,c2,f⟩:=hg0.cells;go_wp2_with fail;refine(hm'.out _).mono ?_;rintro e w1 ⟨rfl,hB⟩;have hg1:=hg0.below hB hg0.lt;have hB1:=hB0.trans (hB.mono hB0.size);obtain⟨d0,d1,d2,f1⟩:=hg1.cells;clear hg0 hB0 hB c0 c1 c2 f;go_wp2_with fail;go_ret;exact⟨qi7 he.out.symm,hB1⟩
theorem qp8(v:Value)(w:World)(A:Option Addr)(n c:Nat)(hv:v= .slice A n c):Calls Tryz.prog 232 #[v] w λe w'=>e= .returned (.func (.func 289) #[] #[.pointer (some ⟨w.heap.size,0,none⟩)])/\w.alloc (.cells #[v] 90)=w':=by
 have hmf:∀(fn:Fn) (first cap:Array Value) (w:World),(Instr.makeFunc fn first cap).run Tryz.prog w= .ok (.func fn first cap) w:=λ_ _ _ _=>rfl
 subst hv;go_enter Tryz.func232,Tryz.ntmps232;go_wp2_with fail;go_ret;exact⟨rfl,rfl⟩
theorem qt9(k c n:Int)(w:World)(hm:hdB (k,c,n)=true):Calls Tryz.prog 234 #[.agg #[.int .i64 k,.int .i64 c,.int .i64 n]] w λe w'=>e= .returned (.tuple #[.int .i64 (adNb (k,c,n)),.int .i64 (adWd (k,c,n))])/\Below w.heap.size w w':=by
 have hg0:=Hd.new w k c n;have hB0:=qas w k c n;have hbd:=qfo (k:=k) (c:=c) (n:=n) hm;clear hm;by_cases h2:k=2
 ·subst h2
  have e1:adNb (2,c,n)=1:=if_pos rfl;have e2:adWd (2,c,n)=n*64:=if_pos rfl;have hw:IntKind.i64.wrap (n*64)=n*64:=wap _ Zo;rw[e1,e2];clear e1 e2;go_enter Tryz.func234,Tryz.ntmps234;go_wp2_with fail;generalize (w.alloc (.cells #[.int .i64 2,.int .i64 c,.int .i64 n] 134))=W1 at hg0 hB0 ⊢;obtain⟨c0,c1,c2,f⟩:=hg0.cells;go_wp2_with fail;go_quiet (fail)
  go_wp2_with fail;exact bodyPost_ret (by simp[results,Tryz.results234,go_sem]) rfl ⟨rfl,qaz hB0 _⟩
 ·have e1:adNb (k,c,n)=bkN c:=if_neg h2
  have e2:adWd (k,c,n)=szN c:=if_neg h2;have ek:(k==2)=false:=beq_eq_false_iff_ne.2 h2;rw[e1,e2];clear e1 e2;go_enter Tryz.func234,Tryz.ntmps234;go_wp2_with fail;generalize (w.alloc (.cells #[.int .i64 k,.int .i64 c,.int .i64 n] 134))=W1 at hg0 hB0 ⊢;obtain⟨c0,c1,c2,f⟩:=hg0.cells;go_wp2_with fail;go_quiet (first|(go_at_call 121;exact qcn (qff _ _))|(go_at_call 123;exact qcn (qdq _ _)))
  go_wp2_with fail;exact bodyPost_ret (by simp[results,Tryz.results234,go_sem]) rfl ⟨rfl,qaz hB0 _⟩
end Go.Proofs.YtgjhkafggagniaaGreat
