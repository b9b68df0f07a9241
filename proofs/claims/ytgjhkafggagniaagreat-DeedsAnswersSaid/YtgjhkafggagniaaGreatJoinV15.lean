/- Parts. No condition. -/
import Derived.Laws.BitsAllLaws
import Derived.Test.YtgjhkafggagniaaGreatJoinV14
set_option linter.unusedVariables false
set_option maxRecDepth 100000
set_option maxHeartbeats 8000000
namespace Go.Proofs.YtgjhkafggagniaaGreat
open Go Go.RowKit
theorem qih(d:Array Int){i t:Nat}(x:Int)(h:i≠t):(d.setIfInBounds i x)[t]! =d[t]! :=by
 simp only[getElem!_def,wbf h]
theorem SrtI.set{W:World}{g c:Nat}{d:Array Int}(h:SrtI W g c d)(i:Nat)(x:Int):SrtI (W.setCell ⟨g,i,none⟩ (.int .i64 x)) g c (d.setIfInBounds i x):=by
 obtain⟨cur,hb,h1,h2,h3⟩:=h;refine⟨_,qaj hb i _,by simp[h1],by simpa using h2,λt ht=>?_⟩;have ht':t<d.size:=by simpa using ht
 by_cases hti:i=t
 ·subst hti
  rw[wb1 Zo,getElem!_pos (d.setIfInBounds i x) i ht];simp
 ·rw[wbf hti,h3 t ht',qih d x hti]
theorem SrtI.zeros{g c:Nat}:∀(k o:Nat) (W:World) (d:Array Int),SrtI W g c d->∃d',SrtI (W.setCells g o (List.replicate k (Value.int .i64 0))) g c d'/\d'.size=d.size/\∀t,t<o->d'[t]! =d[t]!
 |0,o,W,d,h=>⟨d,h,rfl,λ_ _=>rfl⟩
 |k+1,o,W,d,h=>by
  obtain⟨d',h1,h2,h3⟩:=SrtI.zeros k (o+1) _ _ (h.set o 0);refine⟨d',h1,by simpa using h2,λt ht=>?_⟩;rw[h3 t Zo,qih d 0 Zo]
def CmpI(xs:List Int)(n m:Nat)(d:Array Int):Prop:=
 d.size=n/\xs.length=n/\1<=m/\m<=n/\(cmpL (xs.take m)).length+1<=m/\(∀t,t<(cmpL (xs.take m)).length->d[t]? =(cmpL (xs.take m))[t]?)/\∀t,m<=t+1->d[t]? =xs[t]?
theorem qfe{xs:List Int}{m:Nat}(h1:1<=m)(h2:m<=xs.length):(cmpL (xs.take m)).getLast? =xs[m - 1]?:=by
 obtain⟨j,rfl⟩:∃j,m=j+1:=⟨m - 1,Zo⟩
 rw[qef (wan (show j<xs.length by omega)),qv0,Nat.add_sub_cancel,wan]
theorem CmpI.start{xs:List Int}{n k:Nat}(hl:xs.length=n)(hk:1<=k)(hkn:k<n)(hc:cmpL (xs.take k)=xs.take k)(he:xs[k]? =xs[k - 1]?):(cmpL (xs.take (k+1))).length=k/\CmpI xs n (k+1) xs.toArray:=by
 have hx:=wan (show k<xs.length by omega);have hP:cmpL (xs.take (k+1))=xs.take k:=by
  rw[qef hx,hc];unfold cmpS;rw[if_pos];rw[<-hc,qfe hk Zo,<-he,hx]
 refine⟨by rw[hP,war];omega,by simpa using hl,hl,Zo,Zo,by rw[hP,war];omega,λt ht=>?_,λt _=>by simp⟩;rw[hP] at ht ⊢;rw[war] at ht;rw[waw,if_pos Zo];simp
theorem CmpI.at_{xs:List Int}{n m:Nat}{d:Array Int}(h:CmpI xs n m d){t:Nat}(ht:m<=t+1)(htn:t<n):xs[t]? =some d[t]! :=by
 obtain⟨h1,h2,-,-,-,-,h3⟩:=h;rw[<-h3 t ht,getElem!_pos d t Zo,wb5 Zo]
theorem CmpI.same{xs:List Int}{n m:Nat}{d:Array Int}(h:CmpI xs n m d)(hm:m<n)(he:d[m]! =d[m - 1]!):cmpL (xs.take (m+1))=cmpL (xs.take m)/\CmpI xs n (m+1) d:=by
 have hx:=h.at_ (t:=m) Zo hm;have hy:=h.at_ (t:=m - 1) (by have:=h.2.2.1;omega) Zo;have hP:cmpL (xs.take (m+1))=cmpL (xs.take m):=by
  rw[qef hx];unfold cmpS;rw[if_pos];rw[qfe h.2.2.1 (by have:=h.2.1;omega),hy,he]
 obtain⟨h1,h2,h3,h4,h5,h6,h7⟩:=h;exact⟨hP,h1,h2,Zo,Zo,by rw[hP];omega,by rw[hP];exact h6,λt ht=>h7 t Zo⟩
theorem CmpI.put{xs:List Int}{n m:Nat}{d:Array Int}(h:CmpI xs n m d)(hm:m<n)(he:¬d[m]! =d[m - 1]!):
  (cmpL (xs.take (m+1))).length=(cmpL (xs.take m)).length+1/\CmpI xs n (m+1) (d.setIfInBounds (cmpL (xs.take m)).length d[m]!):=by
 have hx:=h.at_ (t:=m) Zo hm;have hy:=h.at_ (t:=m - 1) (by have:=h.2.2.1;omega) Zo;have hP:cmpL (xs.take (m+1))=cmpL (xs.take m)++[d[m]!]:=by
  rw[qef hx];unfold cmpS;rw[if_neg];rw[qfe h.2.2.1 (by have:=h.2.1;omega),hy];intro e;injection e with e;exact he e.symm
 obtain⟨h1,h2,h3,h4,h5,h6,h7⟩:=h;refine⟨by rw[hP];simp,by simpa using h1,h2,Zo,Zo,by rw[hP];simp;omega,λt ht=>?_,λt ht=>?_⟩
 ·rw[hP] at ht ⊢
  rw[wbh,wc0] at ht;by_cases htl:t=(cmpL (xs.take m)).length
  ·subst htl
   rw[wb1 Zo,wbv (wah _)];simp
  ·rw[wbf (λe=>htl e.symm),wbj Zo]
   exact h6 t Zo
 ·rw[wbf Zo]
  exact h7 t Zo
theorem qkp{xs:List Int}(h:xs.length<2):cmpL xs=xs:=by
 match xs,h with
 |[],_=>rfl
 |[x],_=>rfl
theorem q1i{xs:List Int}(h:1<=xs.length):cmpL (xs.take 1)=xs.take 1:=qkp (by rw[war];omega)
theorem qxu{xs:List Int}{k:Nat}(hk:1<=k)(hkn:k<xs.length)(hc:cmpL (xs.take k)=xs.take k)(hne:¬xs[k]? =xs[k - 1]?):cmpL (xs.take (k+1))=xs.take (k+1):=by
 have hx:=wan hkn;rw[qef hx,hc];unfold cmpS;rw[if_neg]
 ·rw[wbs,hx];rfl
 ·rw[<-hc,qfe hk Zo]
  intro e;exact hne (hx.trans e.symm)
theorem qnm{w:World}{A:Option Addr}{n cap:Nat}(hn:n<2):Calls Tryz.prog 372 #[.slice A n cap] w λe w'=>e= .returned (.slice A n cap)/\w=w':=by
 have h2:(n:Int)<2:=Zo
 go_enter Tryz.func372,Tryz.ntmps372;go_wp2_with fail;go_ret;exact⟨rfl,rfl⟩
theorem qxr(w:World):(zeroValue 3).run Tryz.prog w= .ok (.int .i64 0) w:=by
 obtain⟨i,hi,hz,hs,hb⟩:=info_parts (show(Tryz.prog.info? 3).map (λi=>(i.zero,i.size,i.bytes))=some (some (.int .i64 0),1,8) by kernel_rfl);simp[zeroValue,typeInfo,hi,hz]
theorem qm9{w:World}{g cap n:Nat}{xs:List Int}(hS:SrtI w g cap xs.toArray)(hl:xs.length=n)(hn:2<=n)(hb:n<=60000):
  Calls Tryz.prog 372 #[.slice (some ⟨g,0,none⟩) n cap] w λe w'=>e= .returned (.slice (some ⟨g,0,none⟩) (cmpL xs).length cap)/\(∃d,SrtI w' g cap d/\(cmpL xs).length<=d.size/\d.toList.take (cmpL xs).length=cmpL xs)/\Below g w w':=by
 have hlt:=hS.lt;have hcap:n<=cap:=by obtain⟨cur,_,h1,h2,_⟩:=hS;simp at h2;omega
 replace hS:=waa hS;replace hl:=waa hl;go_enter Tryz.func372,Tryz.ntmps372;go_wp2_with fail;go_loopg [3] n (λk s3 wr=>∃j:Nat,s3= .int .i64 (j:Int)/\n - j<=k/\1<=j/\j<=n/\Hid (SrtI wr g cap xs.toArray)/\Hid (Below g w wr)/\Hid (cmpL (xs.take j)=xs.take j))
 case atStart=>exact⟨1,rfl,Zo,Zo,Zo,hS,waa (wai _ _),waa (q1i (by rw[hl.out];omega))⟩
 case round=>
  obtain⟨j,rfl,hkj,hj1,hjn,hS,hB,hC⟩:=hrel;by_cases hlt2:j<n
  ·obtain⟨G,hG,hc,hf⟩:=hS.out.words
   have hc:∀t,t<n->wr.cell? ⟨g,t,none⟩=some (.int .i64 (G t)):=λt ht=>hc t (by simp[hl.out,ht])
   have c1:=hc j hlt2;have c2:=hc (j - 1) Zo;have f1:=hf j;have f2:=hf (j - 1);have hx:∀t,t<n->xs[t]? =some (G t):=λt ht=>by
    rw[hG.out t,getElem!_pos _ _ (by simp[hl.out,ht])];simp[hl.out,ht]
   have hx:=waa hx;clear hc hf;by_cases hq:G j=G (j - 1)
   ·have hst:=waa (CmpI.start hl.out hj1 hlt2 hC.out (by rw[hx.out j hlt2,hx.out (j - 1) Zo,hq]))
    have hsz:=waa (λ(t:Nat)=>hS.out.drewN t);have hBz:=waa (λ(t:Nat)=>qaz hB.out t);have hlc:=qm8 xs;rw[hl.out] at hlc;have k0:(0:Int)<=(j:Int):=Zo
    have k1:(j:Int)<=(n:Int):=Zo
    have k2:(j:Int)<=(cap:Int):=Zo
    go_wp2_with fail;go_quiet (fail)
    go_wp2_with fail;clear c1 c2 f1 f2 hx hG hq hC hS hB;go_loopg [3,5] (n - j) (λk s3 s5 wx=>∃(t:Nat) (d:Array Int) (K:Nat),s5= .int .i64 (t:Int)/\s3= .int .i64 (K:Int)/\Hid (K=(cmpL (xs.take (j+t))).length)/\K+1<=j+t/\n - j - t<=k/\1<=t/\t<=n - j/\Hid (CmpI xs n (j+t) d)/\Hid (SrtI wx g cap d)/\Hid (Below g w wx))
    case atStart=>exact⟨1,_,j,rfl,rfl,waa hst.out.1.symm,Zo,Zo,Zo,Zo,waa hst.out.2,waa (hsz.out _),waa (hBz.out _)⟩
    case round=>
     obtain⟨t,d,K,rfl,rfl,hK,hKm,hkt,ht1,htn,hI,hS2,hB2⟩:=hrel;have hds:=hI.out.1;by_cases hlt3:t<n - j
     ·obtain⟨G2,hG2,hc,hf⟩:=hS2.out.words
      rw[hds] at hc;have c1:=hc (j+t) Zo;have c2:=hc (j+(t - 1)) Zo;have f1:=hf (j+t);have f2:=hf (j+(t - 1));have f3:=hf K;have c3:=hc K Zo;have z0:(0:Int)<=(t:Int):=Zo
      have z1:(t:Int)<((n - j:Nat):Int):=Zo
      have z2:(0:Int)<=(t:Int) - 1:=Zo
      have z3:(t:Int) - 1<((n - j:Nat):Int):=Zo
      have z4:(0:Int)<=(K:Int):=Zo
      have z5:(K:Int)<(n:Int):=Zo
      clear hc hf hds;by_cases hq:G2 (j+t)=G2 (j+(t - 1))
      ·have hsame:=waa (hI.out.same Zo (by rw[<-hG2.out,<-hG2.out,hq];congr 1;omega))
       go_wp2_with fail;go_quiet (fail)
       go_wp2_with fail;go_roundg (n - j - (t+1))
       case measure=>omega
       case rel=>exact⟨t+1,d,K,by go_num,rfl,waa (by rw[<-wd4,hsame.out.1];exact hK.out),Zo,Zo,Zo,Zo,waa (by rw[<-wd4];exact hsame.out.2),waa (hS2.out.drewN _),waa (qaz hB2.out _)⟩
      ·have hput:=waa (hI.out.put Zo (by rw[<-hG2.out,<-hG2.out];intro e;apply hq;rw[e];congr 1;omega))
       have hset:=waa (λ(q:Nat)=>(hS2.out.drewN q).set K (G2 (j+t)));have hbel:=waa (λ(q:Nat)=>(qaz hB2.out q).setCell (p:=⟨g,K,none⟩) (wah _) (.int .i64 (G2 (j+t))));go_wp2_with fail;go_quiet (fail)
       go_wp2_with fail;go_roundg (n - j - (t+1))
       case measure=>omega
       case rel=>exact⟨t+1,_,K+1,by go_num,by go_num,waa (by rw[<-wd4,hput.out.1,<-hK.out]),Zo,Zo,Zo,Zo,waa (by have:=hput.out.2;rw[<-hK.out,<-hG2.out] at this;rw[<-wd4];exact this),waa (hset.out _),waa (hbel.out _)⟩
     ·obtain rfl:t=n - j:=Zo
      have hfull:xs.take (j+(n - j))=xs:=wax (by rw[hl.out];omega);have hK2:K=(cmpL xs).length:=by have:=hK.out;rwa [hfull] at this
      obtain⟨G2,hG2,hc,hf⟩:=hS2.out.words;rw[hds] at hc;have hclr:=λ(ty:TypeId)=>Lib.run_clear_slice (P:=Tryz.prog) wr 24 3 ty (.int .i64 0) wa9 qxr rfl rfl g K (n - K) (cap - K) Zo (λi hi=>by rw[hc (K+i) Zo];rfl) (λi hi=>hf (K+i))
      obtain⟨d',hd1,hd2,hd3⟩:=SrtI.zeros (n - K) K wr d hS2.out;have hbel:=waa (qcx (wah g) (List.replicate (n - K) (Value.int .i64 0)) K w wr hB2.out);have hres:d'.toList.take K=cmpL xs:=by
       apply wa2
       intro i;rw[waw];by_cases hi:i<K
       ·rw[if_pos hi,wbm]
        have h6:=hI.out.2.2.2.2.2.1 i (by rw[hfull,<-hK2];exact hi);rw[hfull] at h6;rw[<-h6,wb5 Zo,wb5 Zo,<-getElem!_pos d' i Zo,<-getElem!_pos d i Zo,hd3 i hi]
       ·rw[if_neg hi]
        symm
        rw[wff];omega
      have hfin:=waa (show K=(cmpL xs).length/\∃d',SrtI (wr.setCells g K (List.replicate (n - K) (Value.int .i64 0))) g cap d'/\(cmpL xs).length<=d'.size/\d'.toList.take (cmpL xs).length=cmpL xs from⟨hK2,d',hd1,Zo,by rw[<-hK2];exact hres⟩);have z4:(0:Int)<=(K:Int):=Zo
      have z5:(K:Int)<=(n:Int):=Zo
      have z6:(K:Int)<=(cap:Int):=Zo
      clear hres hd1 hd2 hd3 hc hf hG2 hK2 hfull hds;go_wp2_with fail;go_ret;exact⟨by rw[hfin.out.1];rfl,hfin.out.2,hbel.out⟩
   ·have hnx:=waa (qxu hj1 (by rw[hl.out];exact hlt2) hC.out (by rw[hx.out j hlt2,hx.out (j - 1) Zo];intro e;injection e with e;exact hq e))
    go_wp2_with fail;go_quiet (fail)
    go_wp2_with fail;go_roundg (n - (j+1))
    case measure=>omega
    case rel=>exact⟨j+1,by go_num,Zo,Zo,Zo,waa (hS.out.drewN _),waa (qaz hB.out _),hnx⟩
  ·obtain rfl:j=n:=Zo
   have hall:cmpL xs=xs:=by have:=hC.out;rwa [wax (by rw[hl.out];omega)] at this
   replace hall:=waa hall;go_wp2_with fail;go_ret;exact⟨by rw[hall.out,hl.out];rfl,⟨_,hS.out,by rw[hall.out];simp,by rw[hall.out];simp⟩,hB.out⟩
theorem qnt{w:World}{base n:Nat}{v:Value}{xs:List Int}(h:w.ownsRow base 3 1 v n (i64V xs))(hn:n<=60000):
  Calls Tryz.prog 372 #[v] w λe w'=>∃v',e= .returned v'/\w'.ownsRow base 3 1 v' (cmpL xs).length (i64V (cmpL xs))/\Below base w w':=by
 have hl:xs.length=n:=by have:=h.1;rwa [qbi,wbr] at this
 by_cases h2:n<2
 ·obtain⟨A,cap,rfl,-⟩:=Rd.of_own h
  refine(qnm h2).mono ?_;rintro e w' ⟨rfl,rfl⟩;rw[qkp Zo,hl];exact⟨_,rfl,h,wai _ _⟩
 ·rcases h.2 with ⟨rfl,h0⟩|⟨g,cap,cur,rfl,hb,hg,hn1,hc,hs,ht⟩
  ·omega
  ·obtain⟨hS,-,hbg⟩:=qzu h
   refine(qm9 hS hl Zo hn).mono ?_;rintro e w' ⟨rfl,⟨d,hd,hk,he⟩,hB⟩;have:=q0a hd hbg hc hk
   rw[he] at this;exact⟨_,rfl,this,⟨hB.os,hB.tape,hB.output,hB.size,λk hk=>hB.block k Zo⟩⟩
theorem qki:(Tryz.prog.info? 3).map (λi=>(i.zero,i.size,i.bytes))=some (some (.int .i64 0),1,8):=by kernel_rfl
theorem qko(l:List Int)(x:Int):i64V (l++[x])=i64V l++[.int .i64 x]:=by simp[i64V]
def qdu(a:Int):Int:=bits .andNot .i64 a 7
theorem qlz{a:Int}(h0:0<=a)(h1:a<9223372036854775807):qdu a=a/8*8:=by
 obtain⟨i,rfl⟩:=waq h0;unfold qdu;show IntKind.i64.wrap ((BitVec.ofInt 64 (i:Int)&&&~~~BitVec.ofInt 64 ((7:Nat):Int)).toNat:Int)=_
 rw[BitVec.toNat_and,BitVec.toNat_not,ofInt_u64 i Zo,ofInt_u64 7 Zo];have e:2 ^ 64 - 1 - 7=18446744073709551608:=by decide
 rw[e,nat_hi64_3,Nat.mod_eq_of_lt Zo];rw[wap _ Zo];omega
theorem qo1(A:Option Addr)(cap N:Nat)(l:List (Int×Nat))(w:World)(h:EsRd w A N l)(hm:N<=60000):
  Calls Tryz.prog 331 #[.slice A N cap] w λe w'=>∃v,e= .returned v/\w'.ownsRow w.heap.size 3 1 v N (i64V (l.map (·.1)))/\Below w.heap.size w w':=by
 obtain⟨i0,ii,iz0,iz1,iz2⟩:=info_parts qki;have hN:=waa h.1;replace h:=waa h;generalize hT:l.map (·.1)=T;have hTl:=waa (show T.length=N by rw[<-hT,wdh];exact hN.out);replace hT:=waa hT;go_enter Tryz.func331,Tryz.ntmps331;go_wp2_with fail;go_loopg [3,8] N (λk s3 s8 wr=>∃j:Nat,s8= .int .i64 (j:Int)/\N - j<=k/\j<=N/\Hid (wr.ownsRow w.heap.size 3 1 s3 j (i64V (T.take j)))/\Hid (Below w.heap.size w wr))
 case atStart=>exact⟨0,rfl,Zo,Zo,waa (wbx _ _ _ _),waa (wai _ _)⟩
 case round=>
  obtain⟨j,rfl,hkj,hj,hrow,hB⟩:=hrel;by_cases hlt:j<N
  ·obtain⟨p,a,x,rfl,hd,hmem,c0,c1⟩:=(h.out.below hB.out).at_ hlt
   have hta:T.take (j+1)=T.take j++[a]:=by
    have hge:l[j]? =some (a,x):=by
     have:=congrArg (λz=>z[0]?) hd
     simpa[List.getElem?_drop] using this
    rw[wbs,<-hT.out,way,hge];rfl
   replace hta:=waa hta;have hB1:=hB.out.alloc hB.out.size (.cells #[.int .i64 a,.int .u64 (x:Int)] 169);have ho1:=hrow.out.alloc (.cells #[.int .i64 a,.int .u64 (x:Int)] 169);obtain⟨d0,d1,d2⟩:=(En.new wr a x).cells;have z0:(0:Int)<=(j:Int):=Zo
   have z1:(j:Int)<(N:Int):=Zo
   have hs2:=hB1.size;have hs0:=hB.out.size;clear hd hmem;go_wp2_with (go_loud (at_builtin;refine wpList_append_own _ rfl _ _ 24 rfl w.heap.size 3 i0 (.int .i64 0) 1 8 wa9 ii iz0 iz1 iz2 rfl Zd _ _ _ rfl (ho1.alloc _) ⟨wr.heap.size+1,0,none⟩ 1 1 [.int .i64 a] rfl rfl (qdj Zs _ rfl _) (by simp[Value.oneCell']) (by simp only[maxLen];omega) Zo Zx ?_;intro v' w4 hown' hgrow _;have hB4:=waa ((hB1.alloc hs2 (.cells #[.int .i64 a] 3)).grown hgrow Zx (qbv ho1));replace hown':=waa hown'))
   go_roundg (N - (j+1))
   case measure=>omega
   case rel=>exact⟨j+1,by go_num,Zo,Zo,waa (by rw[hta.out,qko];exact hown'.out),hB4⟩
  ·obtain rfl:j=N:=Zo
   have hall:T.take j=T:=wax (by rw[hTl.out];omega);rw[hall] at hrow;obtain⟨AV,cV,rfl,-⟩:=Rd.of_own hrow.out;go_wp2_with fail;go_ret;exact⟨_,rfl,hrow.out,hB.out⟩
def qc9(b:Int)(n j:Nat):List Int:=(List.range n).map λ(i:Nat)=>if i<j then b+(i:Int) else 0
def qd9(b:Int)(n:Nat):List Int:=(List.range n).map λ(i:Nat)=>b+(i:Int)
theorem qtx(b:Int){n j:Nat}(hj:j<n):(qc9 b n j).set j (b+(j:Int))=qc9 b n (j+1):=by
 unfold qc9;apply wa2
 intro i;rw[wen,way,way];by_cases h:j=i
 ·subst h
  rw[if_pos rfl,if_pos (by simpa using hj)];simp[hj]
 ·rw[if_neg h]
  by_cases hi:i<n
  ·rw[wco hi]
   simp only[wc5];by_cases h1:i<j
   ·rw[if_pos h1,if_pos Zo]
   ·rw[if_neg h1,if_neg Zo]
  ·rw[wb7 Zx];rfl
theorem qtc(b:Int)(n:Nat):qc9 b n n=qd9 b n:=by
 unfold qc9 qd9;apply wed
 intro i hi;rw[if_pos (by simpa using hi)]
theorem qqv(b:Int)(n:Nat):i64V (qc9 b n 0)=List.replicate n (.int .i64 0):=by
 apply wa2
 intro i;simp only[i64V,qc9,way,wb8];by_cases hi:i<n
 ·rw[wco hi,if_pos hi];simp
 ·rw[wb7 Zx,if_neg hi];rfl
theorem qig{A:Option Addr}{cap N:Nat}{zs:List Int}{w:World}(h:Rd w A N (i64V zs))(hm:N<=60000):
  Calls Tryz.prog 330 #[.slice A N cap] w λe w'=>∃v L,e= .returned v/\(L.Pairwise (·< ·)/\(∀x,x∈L↔∃a∈zs,qdu a=x)/\L.length<=N)/\w'.ownsRow w.heap.size 3 1 v L.length (i64V L)/\Below w.heap.size w w':=by
 obtain⟨i0,ii,iz0,iz1,iz2⟩:=info_parts qki;have hN:=waa (show zs.length=N by have:=h.1;rwa [qbi] at this);replace h:=waa h;generalize hT:zs.map qdu=T;have hTl:=waa (show T.length=N by rw[<-hT,wdh];exact hN.out);replace hT:=waa hT;go_enter Tryz.func330,Tryz.ntmps330;go_wp2_with fail;go_loopg [3,8] N (λk s3 s8 wr=>∃j:Nat,s8= .int .i64 (j:Int)/\N - j<=k/\j<=N/\Hid (wr.ownsRow w.heap.size 3 1 s3 j (i64V (T.take j)))/\Hid (Below w.heap.size w wr))
 case atStart=>exact⟨0,rfl,Zo,Zo,waa (wbx _ _ _ _),waa (wai _ _)⟩
 case round=>
  obtain⟨j,rfl,hkj,hj,hrow,hB⟩:=hrel;by_cases hlt:j<N
  ·obtain⟨p,a,rfl,hd,hmem,c0⟩:=(h.out.below hB.out).i64_at hlt
   have hta:T.take (j+1)=T.take j++[qdu a]:=by
    have hge:zs[j]? =some a:=by
     have:=congrArg (λz=>z[0]?) hd
     simpa[List.getElem?_drop] using this
    rw[wbs,<-hT.out,way,hge];rfl
   replace hta:=waa hta;have z0:(0:Int)<=(j:Int):=Zo
   have z1:(j:Int)<(N:Int):=Zo
   have hs2:=hB.out.size;have ho1:=hrow.out;have hB1:=hB.out;have hli:Hid (qdu a=bits .andNot .i64 a 7):=waa rfl;clear hd hmem;go_wp2_with (at_builtin;go_loud (refine wpList_append_own _ rfl _ _ 24 rfl w.heap.size 3 i0 (.int .i64 0) 1 8 wa9 ii iz0 iz1 iz2 rfl Zd _ _ _ rfl (ho1.alloc _) ⟨wr.heap.size,0,none⟩ 1 1 [.int .i64 (qdu a)] rfl rfl (qdj rfl _ rfl _) (by simp[Value.oneCell']) (by simp only[maxLen];omega) Zo Zx ?_);intro v' w4 hown' hgrow _;have hB4:=waa ((hB1.alloc hs2 (.cells #[.int .i64 (qdu a)] 3)).grown hgrow Zx (qbv ho1));replace hown':=waa hown')
   go_roundg (N - (j+1))
   case measure=>omega
   case rel=>exact⟨j+1,by go_num,Zo,Zo,waa (by rw[hta.out,qko];exact hown'.out),hB4⟩
  ·obtain rfl:j=N:=Zo
   have hall:T.take j=T:=wax (by rw[hTl.out];omega);rw[hall] at hrow;have hso:=waa (qu4 hrow.out hm);obtain⟨AV,cV,rfl,-⟩:=Rd.of_own hrow.out;clear hrow hall;go_wp2_with fail;refine hso.out.mono ?_;rintro q w2 ⟨rfl,ys,hp,hpw,hrow2,hB2⟩;have hyl:ys.length=j:=by rw[hp.length_eq];exact hTl.out
   have hco:=waa (qnt hrow2 hm);have hres:=waa (show(cmpL ys).Pairwise (·< ·)/\(∀x,x∈cmpL ys↔∃a∈zs,qdu a=x)/\(cmpL ys).length<=j from
    ⟨qty hpw,λx=>by rw[qxx,hp.mem_iff,<-hT.out,wbb],by have:=qm8 ys;omega⟩)
   have hB3:=waa (hB.out.trans hB2);generalize cmpL ys=L at hco hres;clear hp hpw hrow2 hB2 hyl hso hB;go_wp2_with fail;refine hco.out.mono ?_;rintro e w3 ⟨v',rfl,hrow3,hB4⟩;obtain⟨AW,cW,rfl,-⟩:=Rd.of_own hrow3;replace hrow3:=waa hrow3;replace hB4:=waa (hB3.out.trans hB4);generalize hLn:L.length=NL at hrow3 hres ⊢;replace hLn:=waa hLn;clear hco;go_wp2_with fail;go_ret;exact⟨_,L,rfl,⟨hres.out.1,hres.out.2.1,by rw[hLn.out];exact hres.out.2.2⟩,by rw[hLn.out];exact hrow3.out,hB4.out⟩
def qmi(R:World->Prop)(K:Ending->World->Prop)(e:Ending)(w:World):Prop:=(e= .returned (.tuple #[])/\R w)\/(∃ch,e= .panicked ch/\K e w)
theorem qkk{A:Option Addr}{cap n Fn:Nat}{caps:Array Value}{zs:List Int}{w:World}(hen:∀(args:Array Value) (w:World),(callFunc Fn args).run Tryz.prog w= .ok (.enter Fn args) w)(hl:zs.length=n)(hn:n<=60000)(J:Nat->World->Prop)(K:Ending->World->Prop)(h0:J 0 w)(hrow:∀j V,J j V->Rd V A n (i64V zs))(hstep:∀j a V,j<n->zs[j]? =some a->J j V->Calls Tryz.prog Fn (#[.int .i64 (j:Int),.int .i64 a]++caps) V λe V'=>qmi (J (j+1)) K e V'):
  Calls Tryz.prog 365 #[.slice A n cap,.func (.func Fn) #[] caps] w λe w'=>qmi (J n) K e w':=by
 replace h0:=waa h0;replace hrow:=waa hrow;replace hstep:=waa hstep;replace hl:=waa hl;go_enter Tryz.func365,Tryz.ntmps365;go_wp2_with fail;go_loopg [8] n (λk s8 wr=>∃j:Nat,s8= .int .i64 (j:Int)/\n - j<=k/\j<=n/\Hid (J j wr))
 case atStart=>exact⟨0,rfl,Zo,Zo,h0⟩
 case round=>
  obtain⟨j,rfl,hkj,hj,hJ⟩:=hrel;by_cases hlt:j<n
  ·obtain⟨p,a,rfl,hd,hmem,c0⟩:=(hrow.out j wr hJ.out).i64_at hlt
   have hge:zs[j]? =some a:=by
    have:=congrArg (λz=>z[0]?) hd
    simpa[List.getElem?_drop] using this
   have hs:=waa (hstep.out j a wr hlt hge hJ.out);have z0:(0:Int)<=(j:Int):=Zo
   have z1:(j:Int)<(n:Int):=Zo
   clear hd hmem hge;go_wp2_with fail;refine hs.out.mono ?_;rintro e V (⟨rfl,hV⟩|⟨ch,rfl,hV⟩)
   ·replace hV:=waa hV
    go_wp2_with fail;go_roundg (n - (j+1))
    case measure=>omega
    case rel=>exact⟨j+1,by go_num,Zo,Zo,hV⟩
   ·exact⟨rfl,.inr ⟨ch,rfl,hV⟩⟩
  ·obtain rfl:j=n:=Zo
   go_wp2_with fail;go_end0
   exact .inl ⟨rfl,hJ.out⟩
def cntN(s l r:Int):Nat:=s.toNat+65536*l.toNat+4294967296*r.toNat
def sevL(s l r:Int):List Nat:=[8390880580533249394,3,cntN s l r,(totN s l r).toNat,0,0,0]
def supL(s l r:Int):List Nat:=sevL s l r++[qc7 (sevL s l r)]
def cntS(x:Nat):Int:=if x/281474976710656=0 then((x%65536:Nat):Int) else 0
def cntL(x:Nat):Int:=if x/281474976710656=0 then((x/65536%65536:Nat):Int) else 0
def cntR(x:Nat):Int:=if x/281474976710656=0 then((x/4294967296%65536:Nat):Int) else 0
theorem qik{s l r:Int}(hm:mayB s l r=true):1<=s/\s<=16/\1<=l/\l<=4/\1<=r/\r<=8:=by
 obtain⟨⟨s0,s1⟩,⟨l0,l1⟩,r0,r1⟩:=mayB_iff.1 hm;omega
theorem qfq{s l r:Int}(hm:mayB s l r=true):totN s l r=16+40*l+72*s/\128<=totN s l r/\totN s l r<=1328:=by
 have:=qik hm
 have e:totN s l r=16+40*l+72*s:=if_pos hm;omega
theorem q14{s l r:Int}(hm:mayB s l r=true):cntN s l r<18446744073709551616:=by have:=qik hm;unfold cntN;omega
theorem qet(s l r:Int):(supL s l r).length=8:=rfl
theorem qvp{s l r:Int}(hm:mayB s l r=true):∀b∈sevL s l r,b<18446744073709551616:=by
 have h1:=q14 hm;have h2:=qfq hm;intro b hb;simp only[sevL,wa1,wci,or_false] at hb;omega
theorem q15{s l r:Int}(hm:mayB s l r=true):∀b∈supL s l r,b<18446744073709551616:=by
 intro b hb;rcases wbu.1 hb with h|h
 ·exact qvp hm b h
 ·rw[we0] at h;rw[h];exact qle _
instance hhit_dec (x:Nat) (k c n:Int):Decidable (HHit x k c n):=inferInstanceAs (Decidable (_/\_))
def qf8(s l r a:Int):Bool:=decide ((plc s l r a).1=1/\0<=(plc s l r a).2.1)||(decide ((plc s l r a).1=3/\(plc s l r a).2.2<2)||decide ((plc s l r a).1=4))
def qbn(s l r:Int):List Nat:=supL s l r++List.replicate ((totN s l r).toNat - 8) 0
theorem qky{s l r:Int}(hm:mayB s l r=true):((qbn s l r).length:Int)=totN s l r:=by
 have:=qfq hm
 rw[qbn,wbh,qet,wa0];omega
theorem qnr{w:World}{p:Addr}{n:Nat}{xs:List Value}(h:Rd w (some p) n xs):∀j u,xs[j]? =some u->w.cell? (p.add j)=some u:=by
 intro j u hu;have hn:0<n:=by
  have h1:=(was.1 hu).1;have h2:=h.1;omega
 obtain⟨q,hq,hc⟩:=h.2 hn;injection hq with hq;subst hq;exact hc j u hu
theorem qk7(a:Addr)(n c:Nat)(w:World):(Go.binOp .eql 22 (.slice (some a) n c) (.slice none 0 0)).run Tryz.prog w= .ok (.bool false) w:=by
 have h:∀d:Nat,(Op.equalIn (d+1) 22 (.slice (some a) n c) (.slice none 0 0)).run Tryz.prog w= .ok false w:=λd=>by
  simp[Op.equalIn,run_underlying Tryz.underlying22]
 simp[Go.binOp,Op.equal,Op.maxDepth,h 9999]
theorem qoo(p:Addr)(n cap:Nat)(ws:List Nat)(w:World)(hr:Rd w (some p) n (u64V ws))(hn:ws.length=n)(h0:0<n)(h1:n<=2000)(hcap:n<=cap):
  Calls Tryz.prog 43 #[.slice (some p) n cap] w λe w'=>∃g c,e= .returned (.slice (some ⟨g,0,none⟩) n c)/\w'.ownsRow w.heap.size 40 1 (.slice (some ⟨g,0,none⟩) n c) n (u64V ws)/\Below w.heap.size w w':=by
 obtain⟨i0,ii,iz0,iz1,iz2⟩:=info_parts qe1;have hnil:=λV=>qk7 p n cap V
 have hrow:(w.alloc (.cells #[] 40)).ownsRow w.heap.size 40 1 (.slice (some ⟨w.heap.size,0,none⟩) 0 0) 0 []:=wdd (base:=w.heap.size) (e:=40) (size:=1) w #[] 0 (wah _) Zd rfl;have hB:=(wai w.heap.size w).alloc (wah _) (.cells #[] 40);have hrc:=waa (qnr (hr.below hB));have huv:=waa (show(u64V ws).length=n by rw[qat,hn]);have hone:=waa (show ∀u∈u64V ws,u.oneCell'=true by simp[u64V,Value.oneCell']);have hs2:=waa hB.size;clear hr;go_enter Tryz.func43,Tryz.ntmps43;go_wp2_with (at_builtin;go_loud (refine wpList_append_own _ rfl _ _ 22 rfl w.heap.size 40 i0 (.int .u64 0) 1 8 wbq ii iz0 iz1 iz2 rfl Zd _ 0 [] rfl hrow p n cap (u64V ws) rfl (by rw[huv.out];omega) hrc.out hone.out (by simp only[maxLen];omega) Zo hs2.out ?_);intro v' w3 hown hgrow _;obtain⟨g,cap2,rfl,hgb2,hgl⟩:=hown.form Zo;rw[wav,wa7] at hown;have hB3:=hB.grown hgrow hs2.out (qbv hrow))
 go_ret;exact⟨_,_,rfl,hown,hB3⟩
theorem qp9(w:World):Calls Tryz.prog 43 #[.slice none 0 0] w λe w'=>e= .returned (.slice none 0 0)/\w'=w:=by
 have hnil:∀V:World,(Go.binOp .eql 22 (.slice none 0 0) (.slice none 0 0)).run Tryz.prog V= .ok (.bool true) V:=λV=>by
  have h:∀d:Nat,(Op.equalIn (d+1) 22 (.slice none 0 0) (.slice none 0 0)).run Tryz.prog V= .ok true V:=λd=>by
   simp[Op.equalIn,run_underlying Tryz.underlying22]
  simp[Go.binOp,Op.equal,Op.maxDepth,h 9999]
 go_enter Tryz.func43,Tryz.ntmps43;go_wp2_with fail;go_ret;exact⟨rfl,rfl⟩
end Go.Proofs.YtgjhkafggagniaaGreat
