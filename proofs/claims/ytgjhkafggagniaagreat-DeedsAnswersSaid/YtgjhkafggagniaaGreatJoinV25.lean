/- Parts. No condition. -/
import Derived.Test.YtgjhkafggagniaaGreatJoinV24
import Derived.Test.YtgjhkafggagniaaGreatJoinV11
set_option linter.unusedVariables false
set_option maxRecDepth 100000
set_option maxHeartbeats 8000000
namespace Go.Proofs.YtgjhkafggagniaaGreat
open Go Go.RowKit
theorem qdv{C:Array Value}{o:Nat}{v:Value}(h:C[o]? =some v):C.setIfInBounds o v=C:=by
 apply we6
 intro i;by_cases e:o=i
 ·subst e
  rw[wb1 (waj.1 h).1,h]
 ·rw[wbf e]
theorem qt0{C:Array Value}{o:Nat}{u v:Value}:(C.setIfInBounds o u).setIfInBounds o v=C.setIfInBounds o v:=by
 apply we6
 intro i;by_cases e:o=i
 ·subst e
  simp only[wfh];simp
 ·rw[wbf e,wbf e,wbf e]
section
variable {w W W':World} {base b1 o1 b2 o2:Nat} {C1 C2:Array Value} {t1 t2:TypeId} {v1 v2:Value} {L1 L2 M1 M2 M1' M2':List Int}
theorem Moved.start(h1:At2 w base b1 o1 C1 t1 v1 L1)(h2:At2 w base b2 o2 C2 t2 v2 L2)(hap:∀g,v1.ownBlock=some g->v2.ownBlock≠some g):Moved w base b1 o1 b2 o2 C1 C2 t1 t2 v1 v2 L1 L2 w:=
 ⟨v1,v2,by rw[qdv h1.val];exact h1,by rw[qdv h2.val];exact h2,.inl rfl,.inl rfl,hap,Upd.refl _ _⟩
theorem Moved.below(h:Moved w base b1 o1 b2 o2 C1 C2 t1 t2 v1 v2 M1 M2 W)(hB:Below W.heap.size W W'):Moved w base b1 o1 b2 o2 C1 C2 t1 t2 v1 v2 M1 M2 W':=by
 obtain⟨u1,u2,h1,h2,h3,h4,h5,h6⟩:=h;have hu:Upd (λ_=>False) W W':=Upd.of_below hB (wah _);exact⟨u1,u2,h1.upd hu (λe=>e) (λ_ _ e=>e),h2.upd hu (λe=>e) (λ_ _ e=>e),h3,h4,h5,h6.trans (hu.mono (λ_ e=>e.elim))⟩
theorem Moved.next{u1 u2:Value}(h1:At2 W base b1 o1 (C1.setIfInBounds o1 u1) t1 u1 M1)(h2:At2 W base b2 o2 (C2.setIfInBounds o2 u2) t2 u2 M2)(h3:u1.ownBlock=v1.ownBlock\/∃g,u1.ownBlock=some g/\w.heap.size<=g)(h4:u2.ownBlock=v2.ownBlock\/∃g,u2.ownBlock=some g/\w.heap.size<=g)(h6:Upd (λk=>k=b1\/k=b2\/v2.ownBlock=some k) w W)(hm:Moved W base b1 o1 b2 o2 (C1.setIfInBounds o1 u1) (C2.setIfInBounds o2 u2) t1 t2 u1 u2 M1' M2' W'):Moved w base b1 o1 b2 o2 C1 C2 t1 t2 v1 v2 M1' M2' W':=by
 obtain⟨x1,x2,k1,k2,k3,k4,k5,k6⟩:=hm;rw[qt0] at k1 k2;refine⟨x1,x2,k1,k2,?_,?_,k5,h6.after k6 (λk hk=>?_)⟩
 ·rcases k3 with e|⟨g,e,hg⟩
  ·rw[e];exact h3
  ·exact .inr ⟨g,e,wam h6.size hg⟩
 ·rcases k4 with e|⟨g,e,hg⟩
  ·rw[e];exact h4
  ·exact .inr ⟨g,e,wam h6.size hg⟩
 ·rcases hk with e|e|e
  ·exact .inl (.inl e)
  ·exact .inl (.inr (.inl e))
  ·rcases h4 with h4|⟨g,h4,hg⟩
   ·exact .inl (.inr (.inr (by rw[<-h4];exact e)))
   ·rw[h4] at e
    injection e with e;exact .inr Zo
end
def qb0(L:List Int)(n:Nat):List Int:=L.reverse.take n
theorem qi6{L:List Int}{n:Nat}(h:n<L.length):qb0 L (n+1)=qb0 L n++((L.take (L.length - n)).drop (L.length - n - 1)).take 1:=by
 have e:(L.take (L.length - n)).drop (L.length - n - 1)=[L[L.length - n - 1]]:=by
  rw[List.drop_take,show L.length - n - (L.length - n - 1)=1 by omega,wbl Zo];rfl
 have hr:L.reverse[n]? =some L[L.length - n - 1]:=by
  rw[List.getElem?_reverse Zo,show L.length - 1 - n=L.length - n - 1 by omega,wan]
 rw[e];unfold qb0;rw[wbs,hr];rfl
theorem qe6{w:World}{base b1 o1 b2 o2 most:Nat}{C1 C2:Array Value}{t1 t2:TypeId}{v1 v2:Value}{L1 L2:List Int}(h1:At2 w base b1 o1 C1 t1 v1 L1)(h2:At2 w base b2 o2 C2 t2 v2 L2)(hb:b1≠b2)(hap:∀g,v1.ownBlock=some g->v2.ownBlock≠some g)(hm:most<=1000)(hL1:L1.length<=400000)(hL2:L2.length<=400000)(hbase:base<=w.heap.size):
  Calls Tryz.prog 377 #[.pointer (some ⟨b1,o1,none⟩),.pointer (some ⟨b2,o2,none⟩),.int .i64 (most:Int)] w λe w'=>e= .returned (.int .i64 ((min most L1.length:Nat):Int))/\Moved w base b1 o1 b2 o2 C1 C2 t1 t2 v1 v2 (L1.take (L1.length - min most L1.length)) (L2++qb0 L1 (min most L1.length)) w':=by
 have hmv:=waa (qvb ⟨b1,o1,none⟩ ⟨b2,o2,none⟩ w);obtain⟨A1,cap1,rfl,hcp1,-⟩:=h1.row.shape;have hN0:L1.length=L1.length:=rfl;generalize hN:L1.length=N at h1 hL1 hap hcp1 ⊢;obtain⟨K,hK⟩:∃K,K=min most N:=⟨_,rfl⟩
 rw[<-hK];have hk1:IntKind.i64.wrap (min (most:Int) (N:Int))=(K:Int):=by rw[wap _ Zo];omega
 have hk2:(min (most:Int) (N:Int))=(K:Int):=Zo
 have hKN:K<=N/\K<=1000:=Zo
 replace hN:=waa hN;replace hK:=waa hK;clear hN0;go_enter Tryz.func377,Tryz.ntmps377;go_wp2_with fail;refine hmv.out.mono ?_;rintro e w1 ⟨c1,c2,rfl,⟨hn1,hn2⟩,hc1,hc2,hB⟩;have hM1:=waa ((Moved.start h1 h2 hap).below hB);have hA1:=h1.upd (Upd.of_below hB (wah _)) (λe:False=>e) (λ_ _ e=>e);have k1:=hA1.cell;have hs1:=hB.size;replace hc1:=waa hc1;replace hc2:=waa hc2;unfold qsm;clear hmv hA1 hB hk1 hk2;by_cases hle:most<=N
 ·obtain rfl:K=most:=by have:=hK.out;omega
  have hle2:(K:Int)<=(N:Int):=Zo
  go_wp2_with fail;go_loopg [19] K (λgk s19 wr=>∃n:Nat,s19= .int .i64 (n:Int)/\K - n<=gk/\n<=K/\Hid (Moved w base b1 o1 b2 o2 C1 C2 t1 t2 (.slice A1 N cap1) v2 (L1.take (N - n)) (L2++qb0 L1 n) wr)/\Hid (Boxed wr c1 338 (.pointer (some ⟨b1,o1,none⟩)))/\Hid (Boxed wr c2 338 (.pointer (some ⟨b2,o2,none⟩))))
  case atStart=>exact⟨0,rfl,Zo,Zo,waa (by rw[Nat.sub_zero,wax (wbk hN.out),show qb0 L1 0=[] from rfl,wba];exact hM1.out),hc1,hc2⟩
  case round=>
   clear hM1 hc1 hc2 k1;obtain⟨n,rfl,hkn,hn,hM,hc1,hc2⟩:=hrel;by_cases hnK:n<K
   ·have hlen:(L1.take (N - n)).length=N - n:=by rw[war,hN.out];omega
    have hl2:(L2++qb0 L1 n).length<=500000:=by unfold qb0;simp;omega
    obtain⟨u1,u2,a1,a2,a3,a4,a5,a6⟩:=hM.out;obtain⟨X1,y1,rfl,hy,-⟩:=a1.row.shape;rw[hlen] at a1 a3 a5 hy;have k1:=a1.cell;obtain⟨i,hi⟩:∃i,i=N - n - 1:=⟨_,rfl⟩
    have hw1:IntKind.i64.wrap (((N - n:Nat):Int) - 1)=(i:Int):=by rw[wap _ Zo];omega
    have hcm:=waa (show Calls Tryz.prog 354 #[.int .i64 (i:Int),.int .i64 1,.pointer (some ⟨c1,0,none⟩),.pointer (some ⟨c2,0,none⟩)] wr _ from qm1 (i:=i) (m:=1) hc1.out hc2.out a1 a2 hb a5 (by rw[hlen];omega) Zo (by rw[hlen];omega) hl2 (wam hbase a6.size));have hlst:(L1.take (N - n)).take i++(L1.take (N - n)).drop (i+1)=L1.take (N - (n+1)):=by
     rw[wa6 (by rw[hlen];omega),wba,List.take_take,show min i (N - n)=N - (n+1) by omega]
    have hlst2:(L2++qb0 L1 n)++((L1.take (N - n)).drop i).take 1=L2++qb0 L1 (n+1):=by
     have:=qi6 (L:=L1) (n:=n) (by rw[hN.out];omega)
     rw[hN.out] at this;rw[this,wbi,hi]
    have hcb:c1≠b1/\c1≠b2/\c2≠b1/\c2≠b2:=⟨qaq hc1.out a1.blk (Ne.symm a1.ty.2),qaq hc1.out a2.blk (Ne.symm a2.ty.2),qaq hc2.out a1.blk (Ne.symm a1.ty.2),qaq hc2.out a2.blk (Ne.symm a2.ty.2)⟩
    have hco1:=qdc hc1.out Zd a2.row;have hco2:=qdc hc2.out Zd a2.row;have hst:=waa (And.intro a1 (And.intro a2 (And.intro a3 (And.intro a4 a6))));replace hlst:=waa hlst;replace hlst2:=waa hlst2;replace hi:=waa hi;clear hM a1 a2 a3 a4 a5 a6 hlen hl2;have hz:(n:Int)<(K:Int):=Zo
    go_wp2_with fail;refine hcm.out.mono ?_;rintro e w2 ⟨rfl,hMv⟩;obtain⟨-,-,-,-,-,-,-,hUp⟩:=id hMv;rw[hlst.out,hlst2.out] at hMv;have hM2:=waa (Moved.next hst.out.1 hst.out.2.1 hst.out.2.2.1 hst.out.2.2.2.1 hst.out.2.2.2.2 hMv);have hc1':=waa (show Boxed w2 c1 338 (.pointer (some ⟨b1,o1,none⟩)) from(hUp.block c1 hc1.out.lt (λe=>by rcases e with e|e|e;exact hcb.1 e;exact hcb.2.1 e;exact hco1 e)).trans hc1.out);have hc2':=waa (show Boxed w2 c2 338 (.pointer (some ⟨b2,o2,none⟩)) from(hUp.block c2 hc2.out.lt (λe=>by rcases e with e|e|e;exact hcb.2.2.1 e;exact hcb.2.2.2 e;exact hco2 e)).trans hc2.out);clear hMv hUp hst hcm;go_wp2_with fail;go_roundg (K - (n+1))
    case measure=>omega
    case rel=>exact⟨n+1,by go_num,wah _,Zo,hM2,hc1',hc2'⟩
   ·obtain rfl:n=K:=Zo
    have hz:¬(n:Int)<(n:Int):=Zo
    go_wp2_with fail;go_ret;exact⟨rfl,hM.out⟩
 ·obtain rfl:K=N:=by have:=hK.out;omega
  have hle2:¬(most:Int)<=(K:Int):=Zo
  have hle3:(K:Int)<=(most:Int):=Zo
  go_wp2_with fail;go_loopg [19] K (λgk s19 wr=>∃n:Nat,s19= .int .i64 (n:Int)/\K - n<=gk/\n<=K/\Hid (Moved w base b1 o1 b2 o2 C1 C2 t1 t2 (.slice A1 K cap1) v2 (L1.take (K - n)) (L2++qb0 L1 n) wr)/\Hid (Boxed wr c1 338 (.pointer (some ⟨b1,o1,none⟩)))/\Hid (Boxed wr c2 338 (.pointer (some ⟨b2,o2,none⟩))))
  case atStart=>exact⟨0,rfl,Zo,Zo,waa (by rw[Nat.sub_zero,wax (wbk hN.out),show qb0 L1 0=[] from rfl,wba];exact hM1.out),hc1,hc2⟩
  case round=>
   clear hM1 hc1 hc2 k1;obtain⟨n,rfl,hkn,hn,hM,hc1,hc2⟩:=hrel;by_cases hnK:n<K
   ·have hlen:(L1.take (K - n)).length=K - n:=by rw[war,hN.out];omega
    have hl2:(L2++qb0 L1 n).length<=500000:=by unfold qb0;simp;omega
    obtain⟨u1,u2,a1,a2,a3,a4,a5,a6⟩:=hM.out;obtain⟨X1,y1,rfl,hy,-⟩:=a1.row.shape;rw[hlen] at a1 a3 a5 hy;have k1:=a1.cell;obtain⟨i,hi⟩:∃i,i=K - n - 1:=⟨_,rfl⟩
    have hw1:IntKind.i64.wrap (((K - n:Nat):Int) - 1)=(i:Int):=by rw[wap _ Zo];omega
    have hcm:=waa (show Calls Tryz.prog 354 #[.int .i64 (i:Int),.int .i64 1,.pointer (some ⟨c1,0,none⟩),.pointer (some ⟨c2,0,none⟩)] wr _ from qm1 (i:=i) (m:=1) hc1.out hc2.out a1 a2 hb a5 (by rw[hlen];omega) Zo (by rw[hlen];omega) hl2 (wam hbase a6.size));have hlst:(L1.take (K - n)).take i++(L1.take (K - n)).drop (i+1)=L1.take (K - (n+1)):=by
     rw[wa6 (by rw[hlen];omega),wba,List.take_take,show min i (K - n)=K - (n+1) by omega]
    have hlst2:(L2++qb0 L1 n)++((L1.take (K - n)).drop i).take 1=L2++qb0 L1 (n+1):=by
     have:=qi6 (L:=L1) (n:=n) (by rw[hN.out];omega)
     rw[hN.out] at this;rw[this,wbi,hi]
    have hcb:c1≠b1/\c1≠b2/\c2≠b1/\c2≠b2:=⟨qaq hc1.out a1.blk (Ne.symm a1.ty.2),qaq hc1.out a2.blk (Ne.symm a2.ty.2),qaq hc2.out a1.blk (Ne.symm a1.ty.2),qaq hc2.out a2.blk (Ne.symm a2.ty.2)⟩
    have hco1:=qdc hc1.out Zd a2.row;have hco2:=qdc hc2.out Zd a2.row;have hst:=waa (And.intro a1 (And.intro a2 (And.intro a3 (And.intro a4 a6))));replace hlst:=waa hlst;replace hlst2:=waa hlst2;replace hi:=waa hi;clear hM a1 a2 a3 a4 a5 a6 hlen hl2;have hz:(n:Int)<(K:Int):=Zo
    go_wp2_with fail;refine hcm.out.mono ?_;rintro e w2 ⟨rfl,hMv⟩;obtain⟨-,-,-,-,-,-,-,hUp⟩:=id hMv;rw[hlst.out,hlst2.out] at hMv;have hM2:=waa (Moved.next hst.out.1 hst.out.2.1 hst.out.2.2.1 hst.out.2.2.2.1 hst.out.2.2.2.2 hMv);have hc1':=waa (show Boxed w2 c1 338 (.pointer (some ⟨b1,o1,none⟩)) from(hUp.block c1 hc1.out.lt (λe=>by rcases e with e|e|e;exact hcb.1 e;exact hcb.2.1 e;exact hco1 e)).trans hc1.out);have hc2':=waa (show Boxed w2 c2 338 (.pointer (some ⟨b2,o2,none⟩)) from(hUp.block c2 hc2.out.lt (λe=>by rcases e with e|e|e;exact hcb.2.2.1 e;exact hcb.2.2.2 e;exact hco2 e)).trans hc2.out);clear hMv hUp hst hcm;go_wp2_with fail;go_roundg (K - (n+1))
    case measure=>omega
    case rel=>exact⟨n+1,by go_num,wah _,Zo,hM2,hc1',hc2'⟩
   ·obtain rfl:n=K:=Zo
    have hz:¬(n:Int)<(n:Int):=Zo
    go_wp2_with fail;go_ret;exact⟨rfl,by
     have h:=hM.out;simp only[wce,we7] at h;exact h⟩
def upV{α:Type}(f:Nat->α)(j:Nat)(v:α)(i:Nat):α:=if i=j then v else f i
theorem qwg{α:Type}(f:Nat->α)(j:Nat)(v:α):upV f j v j=v:=if_pos rfl
theorem qcc{α:Type}(f:Nat->α){j i:Nat}(v:α)(h:i≠j):upV f j v i=f i:=if_neg h
def hpC(rv:Nat->Value)(s l r:Int)(hv cv:Value):Array Value:=#[.int .i64 s,.int .i64 l,.int .i64 r,hv,rv 0,rv 1,rv 2,rv 3,cv]
def caC(rv:Nat->Value)(L:Nat):Array Value:=((List.range (4*L)).map λj=>rv (4+j)).toArray
theorem qi8{rv:Nat->Value}{s l r:Int}{hv cv:Value}{j:Nat}(h:j<4):(hpC rv s l r hv cv)[4+j]? =some (rv j):=by
 match j,h with
 |0,_=>rfl
 |1,_=>rfl
 |2,_=>rfl
 |3,_=>rfl
theorem qzg{rv:Nat->Value}{s l r:Int}{hv cv v:Value}{j:Nat}(h:j<4):(hpC rv s l r hv cv).setIfInBounds (4+j) v=hpC (upV rv j v) s l r hv cv:=by
 match j,h with
 |0,_=>rfl
 |1,_=>rfl
 |2,_=>rfl
 |3,_=>rfl
theorem qz0{rv:Nat->Value}{s l r:Int}{hv cv v:Value}{j:Nat}(h:4<=j):hpC (upV rv j v) s l r hv cv=hpC rv s l r hv cv:=by
 unfold hpC;rw[qcc _ _ Zo,qcc _ _ Zo,qcc _ _ Zo,qcc _ _ Zo]
theorem qgi{rv:Nat->Value}{L j:Nat}(h:j<4*L):(caC rv L)[j]? =some (rv (4+j)):=by
 unfold caC;rw[wcd,way,wco h];rfl
theorem q03{rv:Nat->Value}{L j:Nat}{v:Value}(h:j<4*L):(caC rv L).setIfInBounds j v=caC (upV rv (4+j) v) L:=by
 apply we6
 intro i;have hs:∀f:Nat->Value,(caC f L).size=4*L:=λf=>by simp[caC]
 by_cases hi:i<4*L
 ·rw[qgi hi,wfh]
  by_cases hj:j=i
  ·subst hj
   rw[if_pos rfl,if_pos (by rw[hs];exact h),qwg]
  ·rw[if_neg hj,qgi hi,qcc _ _ Zo]
 ·rw[wd5 (by rw[Array.size_setIfInBounds,hs];omega),wd5 (by rw[hs];omega)]
theorem q0i{rv:Nat->Value}{L j:Nat}{v:Value}(h:j<4):caC (upV rv j v) L=caC rv L:=by
 unfold caC;congr 1
 apply wed
 intro i _;rw[qcc _ _ Zo]
structure HpR (w:World) (base p gh gc hcap ccap s L:Nat) (r:Int) (hs:List (Int×Int×Int)) (rv:Nat->Value) (rx:Nat->List Int) (F:Nat->Prop):Prop where
 blk:w.heap[p]? =some (.cells (hpC rv (s:Int) (L:Int) r (.slice (some ⟨gh,0,none⟩) s hcap) (.slice (some ⟨gc,0,none⟩) L ccap)) 139 (0,0))
 heads:w.ownsRow base 134 3 (.slice (some ⟨gh,0,none⟩) s hcap) s (hV hs)
 cach:w.heap[gc]? =some (.cells (caC rv L) 137 (0,0))
 rows:∀j,j<4+4*L->RowI w base (rv j) (rx j)
 apart:∀i j,i<4+4*L->j<4+4*L->i≠j->∀g,(rv i).ownBlock=some g->(rv j).ownBlock≠some g
 low:base<=p/\base<=gc/\base<=w.heap.size
 dims:(1<=s/\s<=16)/\1<=L/\L<=4
 cov:F p/\F gh/\F gc/\∀j,j<4+4*L->∀g,(rv j).ownBlock=some g->F g
 lts:∀k,F k->k<w.heap.size
def Hp(w:World)(base p s L:Nat)(r:Int)(hs:List (Int×Int×Int))(rx:Nat->List Int)(F:Nat->Prop):Prop:=∃gh gc hcap ccap rv,HpR w base p gh gc hcap ccap s L r hs rv rx F
def GrowH(F F':Nat->Prop)(w:World):Prop:=∀k,F' k->F k\/w.heap.size<=k
theorem GrowH.refl(F:Nat->Prop)(w:World):GrowH F F w:=λ_ h=> .inl h
section
variable {w w':World} {base p gh gc hcap ccap s L:Nat} {r:Int} {hs:List (Int×Int×Int)} {rv:Nat->Value} {rx:Nat->List Int} {F:Nat->Prop}
theorem HpR.upd{G:Nat->Prop}(h:HpR w base p gh gc hcap ccap s L r hs rv rx F)(hu:Upd G w w')(hG:∀k,F k->¬G k):HpR w' base p gh gc hcap ccap s L r hs rv rx F:=by
 obtain⟨h1,h2,h3,h4,h5,h6,h7,h8,h9⟩:=h;have hgh:=(h2.lt gh rfl).2;refine⟨(hu.block p (h9 p h8.1) (hG p h8.1)).trans h1,⟨h2.1,?_⟩,(hu.block gc (h9 gc h8.2.2.1) (hG gc h8.2.2.1)).trans h3,λj hj=>(h4 j hj).upd hu (λg hg=>hG g (h8.2.2.2 j hj g hg)),h5,⟨h6.1,h6.2.1,wam h6.2.2 hu.size⟩,h7,h8,λk hk=>wak (h9 k hk) hu.size⟩;rcases h2.2 with e|⟨g,cap,cur,e,a1,a2,a3⟩
 ·exact .inl e
 ·have hg:gh=g:=by
   injection e with e;injection e with e;injection e
  subst hg;exact .inr ⟨gh,cap,cur,e,a1,(hu.block gh hgh (hG gh h8.2.1)).trans a2,a3⟩
theorem HpR.new(h:HpR w base p gh gc hcap ccap s L r hs rv rx F)(hB:Below w.heap.size w w'):HpR w' base p gh gc hcap ccap s L r hs rv rx F:=h.upd (Upd.of_below hB (wah _):Upd (λ_=>False) w w') (λ_ _ e=>e)
theorem Hp.upd{G:Nat->Prop}(h:Hp w base p s L r hs rx F)(hu:Upd G w w')(hG:∀k,F k->¬G k):Hp w' base p s L r hs rx F:=by
 obtain⟨gh,gc,hcap,ccap,rv,h⟩:=h;exact⟨gh,gc,hcap,ccap,rv,h.upd hu hG⟩
theorem Hp.new(h:Hp w base p s L r hs rx F)(hB:Below w.heap.size w w'):Hp w' base p s L r hs rx F:=h.upd (Upd.of_below hB (wah _):Upd (λ_=>False) w w') (λ_ _ e=>e)
theorem Hp.lts(h:Hp w base p s L r hs rx F):∀k,F k->k<w.heap.size:=by
 obtain⟨gh,gc,hcap,ccap,rv,h⟩:=h;exact h.lts
theorem HpR.list(h:HpR w base p gh gc hcap ccap s L r hs rv rx F){j:Nat}(hj:j<4):At2 w base p (4+j) (hpC rv (s:Int) (L:Int) r (.slice (some ⟨gh,0,none⟩) s hcap) (.slice (some ⟨gc,0,none⟩) L ccap)) 139 (rv j) (rx j):=
 ⟨h.blk,qi8 hj,h.rows j Zo,by decide⟩
theorem HpR.cache(h:HpR w base p gh gc hcap ccap s L r hs rv rx F){j:Nat}(hj:j<4*L):At2 w base gc j (caC rv L) 137 (rv (4+j)) (rx (4+j)):=
 ⟨h.cach,qgi hj,h.rows (4+j) Zo,by decide⟩
theorem HpR.ne(h:HpR w base p gh gc hcap ccap s L r hs rv rx F):p≠gc:=λe=>by
 have h1:=h.blk;rw[e,h.cach] at h1;injection h1 with h1;injection h1 with _ q _;exact absurd q Zd
theorem HpR.headN(h:HpR w base p gh gc hcap ccap s L r hs rv rx F):p≠gh/\gc≠gh/\(∀j,j<4+4*L->(rv j).ownBlock≠some gh)/\(∀j,j<4+4*L->(rv j).ownBlock≠some p)/\∀j,j<4+4*L->(rv j).ownBlock≠some gc:=by
 rcases h.heads.2 with ⟨e,h0⟩|⟨g,cap,cur,e,a1,a2,a3⟩
 ·cases e
 ·have hg:gh=g:=by
   injection e with e;injection e with e;injection e
  subst hg;refine⟨λe=>?_,λe=>?_,λj hj=>qbm a2 Zd (h.rows j hj),λj hj=>qbm h.blk Zd (h.rows j hj),λj hj=>qbm h.cach Zd (h.rows j hj)⟩
  ·have h1:=h.blk
   rw[e,a2] at h1;injection h1 with h1;injection h1 with _ q _;exact absurd q Zd
  ·have h1:=h.cach
   rw[e,a2] at h1;injection h1 with h1;injection h1 with _ q _;exact absurd q Zd
theorem HpR.turned{i j:Nat}(h:HpR w base p gh gc hcap ccap s L r hs rv rx F)(hi:i<4)(hj:j<4*L){u1 u2:Value}{M1 M2:List Int}{G:Nat->Prop}(hu:Upd G w w')(hG:∀k,G k->k=p\/k=gc\/(rv i).ownBlock=some k\/(rv (4+j)).ownBlock=some k\/¬F k)(h1:w'.heap[p]? =some (.cells ((hpC rv (s:Int) (L:Int) r (.slice (some ⟨gh,0,none⟩) s hcap) (.slice (some ⟨gc,0,none⟩) L ccap)).setIfInBounds (4+i) u1) 139 (0,0)))(h2:w'.heap[gc]? =some (.cells ((caC rv L).setIfInBounds j u2) 137 (0,0)))(hr1:RowI w' base u1 M1)(hr2:RowI w' base u2 M2)(ho1:u1.ownBlock=(rv i).ownBlock\/∃g,u1.ownBlock=some g/\w.heap.size<=g)(ho2:u2.ownBlock=(rv (4+j)).ownBlock\/∃g,u2.ownBlock=some g/\w.heap.size<=g)(hap:∀g,u1.ownBlock=some g->u2.ownBlock≠some g):
  ∃F',HpR w' base p gh gc hcap ccap s L r hs (upV (upV rv i u1) (4+j) u2) (upV (upV rx i M1) (4+j) M2) F'/\GrowH F F' w:=by
 obtain⟨q1,q2,q3,q4,q5⟩:=h.headN;have hGgh:¬G gh:=λhk=>by
  rcases hG gh hk with e|e|e|e|e
  ·exact q1 e.symm
  ·exact q2 e.symm
  ·exact q3 i Zo e
  ·exact q3 (4+j) Zo e
  ·exact e h.cov.2.1
 have hold:∀k,k<4+4*L->k≠i->k≠4+j->∀g,(rv k).ownBlock=some g->¬G g:=λk hk hki hkj g hg hGg=>by
  rcases hG g hGg with e|e|e|e|e
  ·exact q4 k hk (by rw[hg,e])
  ·exact q5 k hk (by rw[hg,e])
  ·exact h.apart k i hk Zo hki g hg e
  ·exact h.apart k (4+j) hk Zo hkj g hg e
  ·exact e (h.cov.2.2.2 k hk g hg)
 have hlt:∀k,k<4+4*L->∀g,(rv k).ownBlock=some g->g<w.heap.size:=λk hk g hg=>((h.rows k hk).lt g hg).2
 have hv:∀k,upV (upV rv i u1) (4+j) u2 k=if k=4+j then u2 else if k=i then u1 else rv k:=λk=>rfl
 have hx:∀k,upV (upV rx i M1) (4+j) M2 k=if k=4+j then M2 else if k=i then M1 else rx k:=λk=>rfl
 have hgh:=(h.heads.lt gh rfl).2;have hap1:∀k,k<4+4*L->k≠i->k≠4+j->∀g,u1.ownBlock=some g->(rv k).ownBlock≠some g:=λk hk hki hkj g hg e=>by
  rcases ho1 with e1|⟨g2,e1,hg2⟩
  ·exact h.apart k i hk Zo hki g e (by rw[<-e1];exact hg)
  ·rw[hg] at e1
   injection e1 with e1;have:=hlt k hk g e
   omega
 have hap2:∀k,k<4+4*L->k≠i->k≠4+j->∀g,u2.ownBlock=some g->(rv k).ownBlock≠some g:=λk hk hki hkj g hg e=>by
  rcases ho2 with e1|⟨g2,e1,hg2⟩
  ·exact h.apart k (4+j) hk Zo hkj g e (by rw[<-e1];exact hg)
  ·rw[hg] at e1
   injection e1 with e1;have:=hlt k hk g e
   omega
 refine⟨λk=>F k\/u1.ownBlock=some k\/u2.ownBlock=some k,⟨?_,⟨h.heads.1,?_⟩,?_,?_,?_,⟨h.low.1,h.low.2.1,wam h.low.2.2 hu.size⟩,h.dims,⟨.inl h.cov.1,.inl h.cov.2.1,.inl h.cov.2.2.1,?_⟩,?_⟩,?_⟩
 ·rw[qz0 Zo,<-qzg hi]
  exact h1
 ·rcases h.heads.2 with e|⟨g,cap,cur,e,a1,a2,a3⟩
  ·exact .inl e
  ·have hg:gh=g:=by
    injection e with e;injection e with e;injection e
   subst hg;exact .inr ⟨gh,cap,cur,e,a1,(hu.block gh hgh hGgh).trans a2,a3⟩
 ·rw[<-q03 hj,q0i hi]
  exact h2
 ·intro k hk
  rw[hv,hx];by_cases e2:k=4+j
  ·rw[if_pos e2,if_pos e2];exact hr2
  ·rw[if_neg e2,if_neg e2]
   by_cases e1:k=i
   ·rw[if_pos e1,if_pos e1];exact hr1
   ·rw[if_neg e1,if_neg e1]
    exact(h.rows k hk).upd hu (hold k hk e1 e2)
 ·intro a b ha hb hab g hga hgb
  rw[hv] at hga hgb;by_cases a2:a=4+j
  ·rw[if_pos a2] at hga
   rw[if_neg Zo] at hgb;by_cases b1:b=i
   ·rw[if_pos b1] at hgb
    exact hap g hgb hga
   ·rw[if_neg b1] at hgb
    exact hap2 b hb b1 Zo g hga hgb
  ·rw[if_neg a2] at hga
   by_cases a1:a=i
   ·rw[if_pos a1] at hga
    by_cases b2:b=4+j
    ·rw[if_pos b2] at hgb
     exact hap g hga hgb
    ·rw[if_neg b2,if_neg Zo] at hgb
     exact hap1 b hb Zo b2 g hga hgb
   ·rw[if_neg a1] at hga
    by_cases b2:b=4+j
    ·rw[if_pos b2] at hgb
     exact hap2 a ha a1 a2 g hgb hga
    ·rw[if_neg b2] at hgb
     by_cases b1:b=i
     ·rw[if_pos b1] at hgb
      exact hap1 a ha a1 a2 g hgb hga
     ·rw[if_neg b1] at hgb
      exact h.apart a b ha hb hab g hga hgb
 ·intro k hk g hg
  rw[hv] at hg;by_cases e2:k=4+j
  ·rw[if_pos e2] at hg;exact .inr (.inr hg)
  ·rw[if_neg e2] at hg
   by_cases e1:k=i
   ·rw[if_pos e1] at hg;exact .inr (.inl hg)
   ·rw[if_neg e1] at hg
    exact .inl (h.cov.2.2.2 k hk g hg)
 ·rintro k (hk|hk|hk)
  ·exact wak (h.lts k hk) hu.size
  ·exact(hr1.lt k hk).2
  ·exact(hr2.lt k hk).2
 ·rintro k (hk|hk|hk)
  ·exact .inl hk
  ·rcases ho1 with e|⟨g,e,hg⟩
   ·exact .inl (h.cov.2.2.2 i Zo k (by rw[<-e];exact hk))
   ·rw[hk] at e;injection e with e;exact .inr Zo
  ·rcases ho2 with e|⟨g,e,hg⟩
   ·exact .inl (h.cov.2.2.2 (4+j) Zo k (by rw[<-e];exact hk))
   ·rw[hk] at e;injection e with e;exact .inr Zo
theorem qjc{α:Type}(f:Nat->α)(i:Nat):upV f i (f i)=f:=by
 funext k
 unfold upV;by_cases e:k=i
 ·rw[if_pos e,e]
 ·rw[if_neg e]
theorem HpR.turnedC{j:Nat}(h:HpR w base p gh gc hcap ccap s L r hs rv rx F)(hj:j<4*L){u2:Value}{M2:List Int}{G:Nat->Prop}(hu:Upd G w w')(hG:∀k,G k->k=gc\/(rv (4+j)).ownBlock=some k\/¬F k)(h2:w'.heap[gc]? =some (.cells ((caC rv L).setIfInBounds j u2) 137 (0,0)))(hr2:RowI w' base u2 M2)(ho2:u2.ownBlock=(rv (4+j)).ownBlock\/∃g,u2.ownBlock=some g/\w.heap.size<=g):
  ∃F',HpR w' base p gh gc hcap ccap s L r hs (upV rv (4+j) u2) (upV rx (4+j) M2) F'/\GrowH F F' w:=by
 have hpG:¬G p:=λhk=>by
  rcases hG p hk with e|e|e
  ·exact h.ne e
  ·exact h.headN.2.2.2.1 (4+j) Zo e
  ·exact e h.cov.1
 have hrG:∀g,(rv 0).ownBlock=some g->¬G g:=λg hg hk=>by
  rcases hG g hk with e|e|e
  ·exact h.headN.2.2.2.2 0 Zo (by rw[hg,e])
  ·exact h.apart 0 (4+j) Zo Zo Zo g hg e
  ·exact e (h.cov.2.2.2 0 Zo g hg)
 have:=h.turned (i:=0) (u1:=rv 0) (M1:=rx 0) Zo hj hu (λk hk=>by
   rcases hG k hk with e|e|e
   ·exact .inr (.inl e)
   ·exact .inr (.inr (.inr (.inl e)))
   ·exact .inr (.inr (.inr (.inr e))))
  (by rw[qdv (qi8 Zo)];exact(hu.block p (h.lts p h.cov.1) hpG).trans h.blk) h2 ((h.rows 0 Zo).upd hu hrG) hr2 (.inl rfl) ho2
  (λg hg e=>by
   rcases ho2 with e1|⟨g2,e1,hg2⟩
   ·exact h.apart 0 (4+j) Zo Zo Zo g hg (by rw[<-e1];exact e)
   ·rw[e] at e1
    injection e1 with e1;have:=((h.rows 0 Zo).lt g hg).2
    omega)
 rwa [qjc,qjc] at this
end
end Go.Proofs.YtgjhkafggagniaaGreat
