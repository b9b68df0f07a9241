/- Parts. No condition. -/
import Derived.Shelf.Sort.Plain
import Derived.Sort.OwnSortedInts
import Derived.Lib.SliceRun
import Derived.Laws.BitsAllLaws
import Derived.Test.YtocncmbeinmiaaaGreatJoinU03
set_option linter.unusedVariables false
set_option maxRecDepth 100000
set_option maxHeartbeats 8000000
namespace Go.Proofs.YtocncmbeinmiaaaGreat
open Go Go.RowKit Go.Shelf
def qacw:Ren:=⟨fun|189=>296|125=>353|257=>352|128=>398|129=>399|294=>389|295=>390|296=>391|297=>392|298=>393|299=>394|216=>395|300=>396|301=>397|328=>416|329=>417|330=>418|331=>419|332=>420|215=>421|343=>433|n=>n,fun|28=>65|3=>3|46=>244|0=>0|51=>199|53=>27|4=>4|183=>377|182=>376|131=>252|5=>5|9=>9|218=>393|222=>396|228=>407|229=>399|n=>n,λn=>n⟩
theorem qac0:Lays.n189 Tryz.prog qacw where
 mixed:=by kernel_rfl
 f125:=Tryz.func353.trans (congrArg some Zk)
 f128:=Tryz.func398.trans (congrArg some Zk)
 f129:=Tryz.func399.trans (congrArg some Zk)
 f189:=Tryz.func296.trans (congrArg some Zk)
 f215:=Tryz.func421.trans (congrArg some Zk)
 f216:=Tryz.func395.trans (congrArg some Zk)
 f257:=Tryz.func352.trans (congrArg some Zk)
 f294:=Tryz.func389.trans (congrArg some Zk)
 f295:=Tryz.func390.trans (congrArg some Zk)
 f296:=Tryz.func391.trans (congrArg some Zk)
 f297:=Tryz.func392.trans (congrArg some Zk)
 f298:=Tryz.func393.trans (congrArg some Zk)
 f299:=Tryz.func394.trans (congrArg some Zk)
 f300:=Tryz.func396.trans (congrArg some Zk)
 f301:=Tryz.func397.trans (congrArg some Zk)
 f328:=Tryz.func416.trans (congrArg some Zk)
 f329:=Tryz.func417.trans (congrArg some Zk)
 f330:=Tryz.func418.trans (congrArg some Zk)
 f331:=Tryz.func419.trans (congrArg some Zk)
 f332:=Tryz.func420.trans (congrArg some Zk)
 f343:=Tryz.func433.trans (congrArg some Zk)
 t0:=Tryz.underlying0
 a0:=Tryz.isAgg0
 z0:=Tryz.sizeOf0
 v0:=Tryz.zeroValue0
 t3:=wd5
 a3:=Tryz.isAgg3
 z3:=Tryz.sizeOf3
 v3:=Tryz.zeroValue3
 t4:=Tryz.underlying4
 a4:=Tryz.isAgg4
 z4:=Tryz.sizeOf4
 v4:=Tryz.zeroValue4
 t5:=Tryz.underlying5
 a5:=Tryz.isAgg5
 z5:=Tryz.sizeOf5
 v5:=Tryz.zeroValue5
 t9:=Tryz.underlying9
 a9:=Tryz.isAgg9
 z9:=Tryz.sizeOf9
 v9:=Tryz.zeroValue9
 t28:=wbs
 a28:=Tryz.isAgg65
 z28:=Tryz.sizeOf65
 v28:=Tryz.zeroValue65
 t46:=Tryz.underlying244
 a46:=Tryz.isAgg244
 z46:=Tryz.sizeOf244
 v46:=Tryz.zeroValue244
 t51:=Tryz.underlying199
 a51:=Tryz.isAgg199
 z51:=Tryz.sizeOf199
 v51:=Tryz.zeroValue199
 t53:=wc6
 a53:=Tryz.isAgg27
 z53:=Tryz.sizeOf27
 v53:=Tryz.zeroValue27
 t131:=Tryz.underlying252
 a131:=Tryz.isAgg252
 z131:=Tryz.sizeOf252
 v131:=Tryz.zeroValue252
 t182:=Tryz.underlying376
 a182:=Tryz.isAgg376
 z182:=Tryz.sizeOf376
 v182:=Tryz.zeroValue376
 t183:=Tryz.underlying377
 a183:=Tryz.isAgg377
 z183:=Tryz.sizeOf377
 v183:=Tryz.zeroValue377
 t218:=Tryz.underlying393
 a218:=Tryz.isAgg393
 z218:=Tryz.sizeOf393
 v218:=Tryz.zeroValue393
 t222:=Tryz.underlying396
 a222:=Tryz.isAgg396
 z222:=Tryz.sizeOf396
 v222:=Tryz.zeroValue396
 t228:=Tryz.underlying407
 a228:=Tryz.isAgg407
 z228:=Tryz.sizeOf407
 v228:=Tryz.zeroValue407
 t229:=Tryz.underlying399
 a229:=Tryz.isAgg399
 z229:=Tryz.sizeOf399
 v229:=Tryz.zeroValue399
end Go.Proofs.YtocncmbeinmiaaaGreat
namespace Go.Proofs.YtocncmbeinmiaaaGreat
open Go Go.RowKit
theorem qyo(w:World):Calls Tryz.prog 296 #[.slice none 0 0] w λq w'=>q= .returned (.tuple #[])/\w=w':=by
 have hi:∀W:World,Calls Tryz.prog 389 #[.slice none 0 0,.int .i64 0,.int .i64 0] W λq w'=>q= .returned (.tuple #[])/\W=w':=λW=>by
  go_enter Tryz.func389,Tryz.ntmps389;go_wp2_with fail;go_loopw [6] (λp wr=>W=wr/\p= .int .i64 1) (λ_ _=>0)
  case atStart=>exact⟨rfl,rfl⟩
  case round=>
   obtain⟨rfl,rfl⟩:=hrel;go_wp2_with fail;go_end0
   exact⟨rfl,rfl⟩
 have hp:∀(l:Nat) (W:World),Calls Tryz.prog 352 #[.slice none 0 0,.int .i64 0,.int .i64 0,.int .i64 (l:Int)] W λq w'=>q= .returned (.tuple #[])/\W=w':=λl W=>by
  have hi2:=waa (hi W);clear hi;go_enter Tryz.func352,Tryz.ntmps352;go_wp2_with fail;go_loopw [1,2,3,8,9] (λp1 p2 p3 p8 p9 wr=>W=wr/\p1= .int .i64 0/\p2= .int .i64 0/\p3= .int .i64 (l:Int)/\p8= .bool true/\p9= .bool true) (λ_ _ _ _ _ _=>0)
  case atStart=>exact⟨rfl,rfl,rfl,rfl,rfl,rfl⟩
  case round=>
   obtain⟨rfl,rfl,rfl,rfl,rfl,rfl⟩:=hrel;go_wp2_with (go_at_call 389;refine hi2.out.mono ?_;rintro q w1 ⟨rfl,rfl⟩)
   (try simp only[Exit.inBlock,Exit.then])
   refine bodyPost_ret (results_none rfl _ _ _) rfl ?_;exact⟨rfl,rfl⟩
 have hl:=waa (qkz 0 w Zo);have hpK:=waa hp;clear hp hi;go_enter Tryz.func296,Tryz.ntmps296;go_wp2_with (first
  |(go_at_call 353;refine hl.out.mono ?_;rintro q w' ⟨l,hL,rfl,rfl⟩;have hL16:=hL.1;have hL:=waa hL)
  |(go_at_call 352;refine(hpK.out _ _).mono ?_;rintro q w1 ⟨rfl,rfl⟩))
 go_end0
 exact⟨rfl,rfl⟩
theorem qaaz{w:World}{base g cap:Nat}{xs:List Int}{n:Nat}(h:w.ownsRow base 3 1 (.slice (some ⟨g,0,none⟩) n cap) n (i64V xs)):SrtI w g cap xs.toArray/\xs.length=n/\base<=g:=by
 obtain⟨h1,h2⟩:=h;rw[qcn,wb7] at h1;rcases h2 with ⟨e,_⟩|⟨g',c',cur,e,hb,hg,hn,hc,hs,ht⟩
 ·cases e
 injection e with e1 e2 e3;injection e1 with e1;injection e1 with e1;subst e1 e3;refine⟨⟨cur,hg,Zo,by simpa[h1] using hn,λt ht'=>?_⟩,h1,hb⟩;have ht2:t<xs.length:=by simpa using ht'
 have e1:cur[t]? =(i64V xs)[t]?:=by rw[<-ht,wbh,if_pos Zo,wb9]
 rw[e1];simp[i64V,ht2]
theorem qabw{w:World}{base g cap k:Nat}{d:Array Int}(h:SrtI w g cap d)(hb:base<=g)(hc:cap<=maxLen)(hk:k<=d.size):w.ownsRow base 3 1 (.slice (some ⟨g,0,none⟩) k cap) k (i64V (d.toList.take k)):=by
 obtain⟨cur,hg,h1,h2,h3⟩:=h;refine⟨by rw[qcn,war,wdt];omega,.inr ⟨g,cap,cur,rfl,hb,hg,Zo,hc,Zo,?_⟩⟩;apply wa3
 intro j;rw[wbh,wb7];by_cases hj:j<k
 ·rw[if_pos hj,wb9,h3 j Zo]
  simp[i64V,hj,show j<d.size by omega]
 ·rw[if_neg hj]
  symm
  rw[wha,qcn,war];omega
theorem q2f{w:World}{base n:Nat}{v:Value}{xs:List Int}(h:w.ownsRow base 3 1 v n (i64V xs))(hn:n<=60000):
  Calls Tryz.prog 296 #[v] w λq w'=>q= .returned (.tuple #[])/\∃ys,ys.Perm xs/\ys.Pairwise (·<= ·)/\w'.ownsRow base 3 1 v n (i64V ys)/\Below base w w':=by
 rcases h.2 with ⟨rfl,h0⟩|⟨g,cap,cur,rfl,hb,hg,hn1,hc,hs,ht⟩
 ·have hx:xs=[]:=wdu (by have:=h.1;rw[qcn] at this;omega)
  subst hx;refine(qyo w).mono ?_;rintro q w' ⟨rfl,rfl⟩;exact⟨rfl,[],.nil,.nil,h,wac _ _⟩
 ·have hl:xs.length=n:=by have:=h.1;rw[qcn,wb7] at this;exact this
  subst hl;rw[wb7] at ht;have hlt:g<w.heap.size:=(wal.1 hg).1;have hsl:(xs.mergeSort λx y=>decide (x<=y)).length=xs.length:=List.length_mergeSort _;have hso:=Any.slices_Sort_int qac0 g 0 cap xs w (holds_of_blockI hg ht) hlt Zo;refine Calls.mono (show Calls Tryz.prog 296 _ w _ from hso) ?_;rintro q w' ⟨rfl,k,os,rfl⟩;refine⟨rfl,xs.mergeSort λx y=>decide (x<=y),List.mergeSort_perm _ _,?_,ownsRow_sortedI hsl hb hg hn1 hc hs,(wac base w).grown (grownBy_sortedI _) Zo (λj e=>by injection e with e;omega)⟩;have hp:=List.pairwise_mergeSort (le:=λx y:Int=>decide (x<=y)) (λa b c h1 h2=>by simp at h1 h2 ⊢;omega) (λa b=>by simp;omega) xs;exact hp.imp (λh=>by simpa using h)
def cmpS(P:List Int)(x:Int):List Int:=if P.getLast? =some x then P else P++[x]
def cmpL(xs:List Int):List Int:=xs.foldl cmpS []
theorem q28(P:List Int)(x:Int):(cmpS P x).getLast? =some x:=by
 unfold cmpS;split
 ·assumption
 ·simp
theorem q6c(P:List Int)(x:Int):P.length<=(cmpS P x).length/\(cmpS P x).length<=P.length+1:=by
 unfold cmpS;split<;>simp
theorem qf9{xs:List Int}{j:Nat}{x:Int}(h:xs[j]? =some x):cmpL (xs.take (j+1))=cmpS (cmpL (xs.take j)) x:=by
 unfold cmpL;rw[wb4,h];simp
theorem qud(xs:List Int):(cmpL xs).length<=xs.length:=by
 unfold cmpL;suffices h:∀P:List Int,(xs.foldl cmpS P).length<=P.length+xs.length by simpa using h []
 induction xs with
 |nil=>intro P;simp
 |cons x r ih=>
  intro P;have h1:=ih (cmpS P x);have h2:=(q6c P x).2;simp only[wf9,way];omega
theorem q6k(xs:List Int)(x:Int):x∈cmpL xs↔x∈xs:=by
 unfold cmpL;suffices h:∀P:List Int,x∈xs.foldl cmpS P↔x∈P\/x∈xs by simpa using h []
 induction xs with
 |nil=>intro P;simp
 |cons y r ih=>
  intro P;rw[wf9,ih];have:x∈cmpS P y↔x∈P\/x=y:=by
   unfold cmpS;split
   ·rename_i h
    constructor
    ·exact .inl
    ·rintro(h'|rfl)
     ·exact h'
     ·exact List.mem_of_getLast? h
   ·simp
  rw[this,wbg];constructor
  ·rintro((h|h)|h)
   ·exact .inl h
   ·exact .inr (.inl h)
   ·exact .inr (.inr h)
  ·rintro(h|h|h)
   ·exact .inl (.inl h)
   ·exact .inl (.inr h)
   ·exact .inr h
theorem q3f{xs:List Int}(h:xs.Pairwise (·<= ·)):(cmpL xs).Pairwise (·< ·):=by
 unfold cmpL;suffices hh:∀P:List Int,P.Pairwise (·< ·)->(∀a∈P,∀b∈xs,a<=b)->(xs.foldl cmpS P).Pairwise (·< ·) by exact hh [] .nil Zs
 induction xs with
 |nil=>intro P hP _;exact hP
 |cons y r ih=>
  intro P hP hle;obtain⟨h1,h2⟩:=wgd.1 h;rw[wf9];refine ih h2 _ ?_ ?_
  ·unfold cmpS
   split
   ·exact hP
   ·rename_i hne
    rw[wge];refine⟨hP,by simp,λa ha b hb=>?_⟩;obtain rfl:b=y:=by simpa using hb
    have h3:=hle a ha b Zs;have hab:a≠b:=by
     rintro rfl;apply hne
     rcases List.eq_nil_or_concat P with rfl|⟨L,z,rfl⟩
     ·cases ha
     ·have hz:z<=a:=hle z Zs a Zs
      rcases wa6.1 (by simpa using ha:a∈L++[z]) with hL|hz2
      ·have:=(wge.1 (by simpa using hP:(L++[z]).Pairwise (·< ·))).2.2 a hL z Zs
       omega
      ·obtain rfl:a=z:=by simpa using hz2
       simp
    omega
  ·intro a ha b hb
   rcases(show a∈P\/a=y from by
    unfold cmpS at ha;split at ha
    ·exact .inl ha
    ·simpa using ha) with h3|rfl
   ·exact hle a h3 b (by simp[hb])
   ·exact h1 b hb
theorem qnu(d:Array Int){i t:Nat}(x:Int)(h:i≠t):(d.setIfInBounds i x)[t]! =d[t]! :=by
 simp only[getElem!_def,wbw h]
theorem SrtI.set{W:World}{g c:Nat}{d:Array Int}(h:SrtI W g c d)(i:Nat)(x:Int):SrtI (W.setCell ⟨g,i,none⟩ (.int .i64 x)) g c (d.setIfInBounds i x):=by
 obtain⟨cur,hb,h1,h2,h3⟩:=h;refine⟨_,qah hb i _,by simp[h1],by simpa using h2,λt ht=>?_⟩;have ht':t<d.size:=by simpa using ht
 by_cases hti:i=t
 ·subst hti
  rw[wct Zo,getElem!_pos (d.setIfInBounds i x) i ht];simp
 ·rw[wbw hti,h3 t ht',qnu d x hti]
theorem SrtI.zeros{g c:Nat}:∀(k o:Nat) (W:World) (d:Array Int),SrtI W g c d->∃d',SrtI (W.setCells g o (List.replicate k (Value.int .i64 0))) g c d'/\d'.size=d.size/\∀t,t<o->d'[t]! =d[t]!
 |0,o,W,d,h=>⟨d,h,rfl,λ_ _=>rfl⟩
 |k+1,o,W,d,h=>by
  obtain⟨d',h1,h2,h3⟩:=SrtI.zeros k (o+1) _ _ (h.set o 0);refine⟨d',h1,by simpa using h2,λt ht=>?_⟩;rw[h3 t Zo,qnu d 0 Zo]
def CmpI(xs:List Int)(n m:Nat)(d:Array Int):Prop:=
 d.size=n/\xs.length=n/\1<=m/\m<=n/\(cmpL (xs.take m)).length+1<=m/\(∀t,t<(cmpL (xs.take m)).length->d[t]? =(cmpL (xs.take m))[t]?)/\∀t,m<=t+1->d[t]? =xs[t]?
theorem qht{xs:List Int}{m:Nat}(h1:1<=m)(h2:m<=xs.length):(cmpL (xs.take m)).getLast? =xs[m - 1]?:=by
 obtain⟨j,rfl⟩:∃j,m=j+1:=⟨m - 1,Zo⟩
 rw[qf9 (waj (show j<xs.length by omega)),q28,wgr,waj]
theorem CmpI.start{xs:List Int}{n k:Nat}(hl:xs.length=n)(hk:1<=k)(hkn:k<n)(hc:cmpL (xs.take k)=xs.take k)(he:xs[k]? =xs[k - 1]?):(cmpL (xs.take (k+1))).length=k/\CmpI xs n (k+1) xs.toArray:=by
 have hx:=waj (show k<xs.length by omega);have hP:cmpL (xs.take (k+1))=xs.take k:=by
  rw[qf9 hx,hc];unfold cmpS;rw[if_pos];rw[<-hc,qht hk Zo,<-he,hx]
 refine⟨by rw[hP,war];omega,by simpa using hl,hl,Zo,Zo,by rw[hP,war];omega,λt ht=>?_,λt _=>by simp⟩;rw[hP] at ht ⊢;rw[war] at ht;rw[wbh,if_pos Zo];simp
theorem CmpI.at_{xs:List Int}{n m:Nat}{d:Array Int}(h:CmpI xs n m d){t:Nat}(ht:m<=t+1)(htn:t<n):xs[t]? =some d[t]! :=by
 obtain⟨h1,h2,-,-,-,-,h3⟩:=h;rw[<-h3 t ht,getElem!_pos d t Zo,wep Zo]
theorem CmpI.same{xs:List Int}{n m:Nat}{d:Array Int}(h:CmpI xs n m d)(hm:m<n)(he:d[m]! =d[m - 1]!):cmpL (xs.take (m+1))=cmpL (xs.take m)/\CmpI xs n (m+1) d:=by
 have hx:=h.at_ (t:=m) Zo hm;have hy:=h.at_ (t:=m - 1) (by have:=h.2.2.1;omega) Zo;have hP:cmpL (xs.take (m+1))=cmpL (xs.take m):=by
  rw[qf9 hx];unfold cmpS;rw[if_pos];rw[qht h.2.2.1 (by have:=h.2.1;omega),hy,he]
 obtain⟨h1,h2,h3,h4,h5,h6,h7⟩:=h;exact⟨hP,h1,h2,Zo,Zo,by rw[hP];omega,by rw[hP];exact h6,λt ht=>h7 t Zo⟩
theorem CmpI.put{xs:List Int}{n m:Nat}{d:Array Int}(h:CmpI xs n m d)(hm:m<n)(he:¬d[m]! =d[m - 1]!):
  (cmpL (xs.take (m+1))).length=(cmpL (xs.take m)).length+1/\CmpI xs n (m+1) (d.setIfInBounds (cmpL (xs.take m)).length d[m]!):=by
 have hx:=h.at_ (t:=m) Zo hm;have hy:=h.at_ (t:=m - 1) (by have:=h.2.2.1;omega) Zo;have hP:cmpL (xs.take (m+1))=cmpL (xs.take m)++[d[m]!]:=by
  rw[qf9 hx];unfold cmpS;rw[if_neg];rw[qht h.2.2.1 (by have:=h.2.1;omega),hy];intro e;injection e with e;exact he e.symm
 obtain⟨h1,h2,h3,h4,h5,h6,h7⟩:=h;refine⟨by rw[hP];simp,by simpa using h1,h2,Zo,Zo,by rw[hP];simp;omega,λt ht=>?_,λt ht=>?_⟩
 ·rw[hP] at ht ⊢
  rw[was,wca] at ht;by_cases htl:t=(cmpL (xs.take m)).length
  ·subst htl
   rw[wct Zo,wbt (wab _)];simp
  ·rw[wbw (λe=>htl e.symm),wbk Zo]
   exact h6 t Zo
 ·rw[wbw Zo]
  exact h7 t Zo
theorem qpq{xs:List Int}(h:xs.length<2):cmpL xs=xs:=by
 match xs,h with
 |[],_=>rfl
 |[x],_=>rfl
theorem qaak{xs:List Int}(h:1<=xs.length):cmpL (xs.take 1)=xs.take 1:=qpq (by rw[war];omega)
theorem q6b{xs:List Int}{k:Nat}(hk:1<=k)(hkn:k<xs.length)(hc:cmpL (xs.take k)=xs.take k)(hne:¬xs[k]? =xs[k - 1]?):cmpL (xs.take (k+1))=xs.take (k+1):=by
 have hx:=waj hkn;rw[qf9 hx,hc];unfold cmpS;rw[if_neg]
 ·rw[wb4,hx];rfl
 ·rw[<-hc,qht hk Zo]
  intro e;exact hne (hx.trans e.symm)
theorem quw{w:World}{A:Option Addr}{n cap:Nat}(hn:n<2):Calls Tryz.prog 297 #[.slice A n cap] w λe w'=>e= .returned (.slice A n cap)/\w=w':=by
 have h2:(n:Int)<2:=Zo
 go_enter Tryz.func297,Tryz.ntmps297;go_wp2_with fail;go_ret;exact⟨rfl,rfl⟩
theorem q7w(w:World):(zeroValue 3).run Tryz.prog w= .ok (.int .i64 0) w:=by
 obtain⟨i,hi,hz,hs,hb⟩:=info_parts (show(Tryz.prog.info? 3).map (λi=>(i.zero,i.size,i.bytes))=some (some (.int .i64 0),1,8) by kernel_rfl);simp[zeroValue,typeInfo,hi,hz]
theorem qt1{w:World}{g cap n:Nat}{xs:List Int}(hS:SrtI w g cap xs.toArray)(hl:xs.length=n)(hn:2<=n)(hb:n<=60000):
  Calls Tryz.prog 297 #[.slice (some ⟨g,0,none⟩) n cap] w λe w'=>e= .returned (.slice (some ⟨g,0,none⟩) (cmpL xs).length cap)/\(∃d,SrtI w' g cap d/\(cmpL xs).length<=d.size/\d.toList.take (cmpL xs).length=cmpL xs)/\Below g w w':=by
 have hlt:=hS.lt;have hcap:n<=cap:=by obtain⟨cur,_,h1,h2,_⟩:=hS;simp at h2;omega
 replace hS:=waa hS;replace hl:=waa hl;go_enter Tryz.func297,Tryz.ntmps297;go_wp2_with fail;go_loopg [3] n (λk s3 wr=>∃j:Nat,s3= .int .i64 (j:Int)/\n - j<=k/\1<=j/\j<=n/\Hid (SrtI wr g cap xs.toArray)/\Hid (Below g w wr)/\Hid (cmpL (xs.take j)=xs.take j))
 case atStart=>exact⟨1,rfl,Zo,Zo,Zo,hS,waa (wac _ _),waa (qaak (by rw[hl.out];omega))⟩
 case round=>
  obtain⟨j,rfl,hkj,hj1,hjn,hS,hB,hC⟩:=hrel;by_cases hlt2:j<n
  ·obtain⟨G,hG,hc,hf⟩:=hS.out.words
   have hc:∀t,t<n->wr.cell? ⟨g,t,none⟩=some (.int .i64 (G t)):=λt ht=>hc t (by simp[hl.out,ht])
   have c1:=hc j hlt2;have c2:=hc (j - 1) Zo;have f1:=hf j;have f2:=hf (j - 1);have hx:∀t,t<n->xs[t]? =some (G t):=λt ht=>by
    rw[hG.out t,getElem!_pos _ _ (by simp[hl.out,ht])];simp[hl.out,ht]
   have hx:=waa hx;clear hc hf;by_cases hq:G j=G (j - 1)
   ·have hst:=waa (CmpI.start hl.out hj1 hlt2 hC.out (by rw[hx.out j hlt2,hx.out (j - 1) Zo,hq]))
    have hsz:=waa (λ(t:Nat)=>hS.out.drewN t);have hBz:=waa (λ(t:Nat)=>qad hB.out t);have hlc:=qud xs;rw[hl.out] at hlc;have k0:(0:Int)<=(j:Int):=Zo
    have k1:(j:Int)<=(n:Int):=Zo
    have k2:(j:Int)<=(cap:Int):=Zo
    go_wp2_with fail;go_quiet (fail)
    go_wp2_with fail;clear c1 c2 f1 f2 hx hG hq hC hS hB;go_loopg [3,5] (n - j) (λk s3 s5 wx=>∃(t:Nat) (d:Array Int) (K:Nat),s5= .int .i64 (t:Int)/\s3= .int .i64 (K:Int)/\Hid (K=(cmpL (xs.take (j+t))).length)/\K+1<=j+t/\n - j - t<=k/\1<=t/\t<=n - j/\Hid (CmpI xs n (j+t) d)/\Hid (SrtI wx g cap d)/\Hid (Below g w wx))
    case atStart=>exact⟨1,_,j,rfl,rfl,waa hst.out.1.symm,Zo,Zo,Zo,Zo,waa hst.out.2,waa (hsz.out _),waa (hBz.out _)⟩
    case round=>
     obtain⟨t,d,K,rfl,rfl,hK,hKm,hkt,ht1,htn,hI,hS2,hB2⟩:=hrel;have hds:=hI.out.1;by_cases hlt3:t<n - j
     ·obtain⟨G2,hG2,hc,hf⟩:=hS2.out.words
      rw[hds] at hc;have c1:=hc (j+t) Zo;have c2:=hc (j+(t - 1)) Zo;have f1:=hf (j+t);have f2:=hf (j+(t - 1));have f3:=hf K;have c3:=hc K Zo;have z0:(0:Int)<=(t:Int):=Zo
      have z1:(t:Int)<((n - j:Nat):Int):=Zo
      have z2:(0:Int)<=(t:Int) - 1:=Zo
      have z3:(t:Int) - 1<((n - j:Nat):Int):=Zo
      have z4:(0:Int)<=(K:Int):=Zo
      have z5:(K:Int)<(n:Int):=Zo
      clear hc hf hds;by_cases hq:G2 (j+t)=G2 (j+(t - 1))
      ·have hsame:=waa (hI.out.same Zo (by rw[<-hG2.out,<-hG2.out,hq];congr 1;omega))
       go_wp2_with fail;go_quiet (fail)
       go_wp2_with fail;go_roundg (n - j - (t+1))
       case measure=>omega
       case rel=>exact⟨t+1,d,K,by go_num,rfl,waa (by rw[<-we8,hsame.out.1];exact hK.out),Zo,Zo,Zo,Zo,waa (by rw[<-we8];exact hsame.out.2),waa (hS2.out.drewN _),waa (qad hB2.out _)⟩
      ·have hput:=waa (hI.out.put Zo (by rw[<-hG2.out,<-hG2.out];intro e;apply hq;rw[e];congr 1;omega))
       have hset:=waa (λ(q:Nat)=>(hS2.out.drewN q).set K (G2 (j+t)));have hbel:=waa (λ(q:Nat)=>(qad hB2.out q).setCell (p:=⟨g,K,none⟩) (wab _) (.int .i64 (G2 (j+t))));go_wp2_with fail;go_quiet (fail)
       go_wp2_with fail;go_roundg (n - j - (t+1))
       case measure=>omega
       case rel=>exact⟨t+1,_,K+1,by go_num,by go_num,waa (by rw[<-we8,hput.out.1,<-hK.out]),Zo,Zo,Zo,Zo,waa (by have:=hput.out.2;rw[<-hK.out,<-hG2.out] at this;rw[<-we8];exact this),waa (hset.out _),waa (hbel.out _)⟩
     ·obtain rfl:t=n - j:=Zo
      have hfull:xs.take (j+(n - j))=xs:=wa2 (by rw[hl.out];omega);have hK2:K=(cmpL xs).length:=by have:=hK.out;rwa [hfull] at this
      obtain⟨G2,hG2,hc,hf⟩:=hS2.out.words;rw[hds] at hc;have hclr:=λ(ty:TypeId)=>Lib.run_clear_slice (P:=Tryz.prog) wr 65 3 ty (.int .i64 0) wbs q7w rfl rfl g K (n - K) (cap - K) Zo (λi hi=>by rw[hc (K+i) Zo];rfl) (λi hi=>hf (K+i))
      obtain⟨d',hd1,hd2,hd3⟩:=SrtI.zeros (n - K) K wr d hS2.out;have hbel:=waa (qem (wab g) (List.replicate (n - K) (Value.int .i64 0)) K w wr hB2.out);have hres:d'.toList.take K=cmpL xs:=by
       apply wa3
       intro i;rw[wbh];by_cases hi:i<K
       ·rw[if_pos hi,wb9]
        have h6:=hI.out.2.2.2.2.2.1 i (by rw[hfull,<-hK2];exact hi);rw[hfull] at h6;rw[<-h6,wep Zo,wep Zo,<-getElem!_pos d' i Zo,<-getElem!_pos d i Zo,hd3 i hi]
       ·rw[if_neg hi]
        symm
        rw[wha];omega
      have hfin:=waa (show K=(cmpL xs).length/\∃d',SrtI (wr.setCells g K (List.replicate (n - K) (Value.int .i64 0))) g cap d'/\(cmpL xs).length<=d'.size/\d'.toList.take (cmpL xs).length=cmpL xs from⟨hK2,d',hd1,Zo,by rw[<-hK2];exact hres⟩);have z4:(0:Int)<=(K:Int):=Zo
      have z5:(K:Int)<=(n:Int):=Zo
      have z6:(K:Int)<=(cap:Int):=Zo
      clear hres hd1 hd2 hd3 hc hf hG2 hK2 hfull hds;go_wp2_with fail;go_ret;exact⟨by rw[hfin.out.1];rfl,hfin.out.2,hbel.out⟩
   ·have hnx:=waa (q6b hj1 (by rw[hl.out];exact hlt2) hC.out (by rw[hx.out j hlt2,hx.out (j - 1) Zo];intro e;injection e with e;exact hq e))
    go_wp2_with fail;go_quiet (fail)
    go_wp2_with fail;go_roundg (n - (j+1))
    case measure=>omega
    case rel=>exact⟨j+1,by go_num,Zo,Zo,Zo,waa (hS.out.drewN _),waa (qad hB.out _),hnx⟩
  ·obtain rfl:j=n:=Zo
   have hall:cmpL xs=xs:=by have:=hC.out;rwa [wa2 (by rw[hl.out];omega)] at this
   replace hall:=waa hall;go_wp2_with fail;go_ret;exact⟨by rw[hall.out,hl.out];rfl,⟨_,hS.out,by rw[hall.out];simp,by rw[hall.out];simp⟩,hB.out⟩
theorem qvn{w:World}{base n:Nat}{v:Value}{xs:List Int}(h:w.ownsRow base 3 1 v n (i64V xs))(hn:n<=60000):
  Calls Tryz.prog 297 #[v] w λe w'=>∃v',e= .returned v'/\w'.ownsRow base 3 1 v' (cmpL xs).length (i64V (cmpL xs))/\Below base w w':=by
 have hl:xs.length=n:=by have:=h.1;rwa [qcn,wb7] at this
 by_cases h2:n<2
 ·obtain⟨A,cap,rfl,-⟩:=Rd.of_own h
  refine(quw h2).mono ?_;rintro e w' ⟨rfl,rfl⟩;rw[qpq Zo,hl];exact⟨_,rfl,h,wac _ _⟩
 ·rcases h.2 with ⟨rfl,h0⟩|⟨g,cap,cur,rfl,hb,hg,hn1,hc,hs,ht⟩
  ·omega
  ·obtain⟨hS,-,hbg⟩:=qaaz h
   refine(qt1 hS hl Zo hn).mono ?_;rintro e w' ⟨rfl,⟨d,hd,hk,he⟩,hB⟩;have:=qabw hd hbg hc hk
   rw[he] at this;exact⟨_,rfl,this,⟨hB.os,hB.tape,hB.output,hB.size,λk hk=>hB.block k Zo⟩⟩
theorem qqg:(Tryz.prog.info? 3).map (λi=>(i.zero,i.size,i.bytes))=some (some (.int .i64 0),1,8):=by kernel_rfl
theorem qpe(l:List Int)(x:Int):i64V (l++[x])=i64V l++[.int .i64 x]:=by simp[i64V]
def qfm(a:Int):Int:=bits .andNot .i64 a 7
theorem qtk{a:Int}(h0:0<=a)(h1:a<9223372036854775807):qfm a=a/8*8:=by
 obtain⟨i,rfl⟩:=waz h0;unfold qfm;show IntKind.i64.wrap ((BitVec.ofInt 64 (i:Int)&&&~~~BitVec.ofInt 64 ((7:Nat):Int)).toNat:Int)=_
 rw[BitVec.toNat_and,BitVec.toNat_not,ofInt_u64 i Zo,ofInt_u64 7 Zo];have e:2 ^ 64 - 1 - 7=18446744073709551608:=by decide
 rw[e,nat_hi64_3,wdd Zo];rw[wao _ Zo];omega
theorem qwv(A:Option Addr)(cap N:Nat)(l:List (Int×Nat))(w:World)(h:EsRd w A N l)(hm:N<=60000):
  Calls Tryz.prog 224 #[.slice A N cap] w λe w'=>∃v,e= .returned v/\w'.ownsRow w.heap.size 3 1 v N (i64V (l.map (·.1)))/\Below w.heap.size w w':=by
 obtain⟨i0,ii,iz0,iz1,iz2⟩:=info_parts qqg;have hN:=waa h.1;replace h:=waa h;generalize hT:l.map (·.1)=T;have hTl:=waa (show T.length=N by rw[<-hT,wbr];exact hN.out);replace hT:=waa hT;go_enter Tryz.func224,Tryz.ntmps224;go_wp2_with fail;go_loopg [3,8] N (λk s3 s8 wr=>∃j:Nat,s8= .int .i64 (j:Int)/\N - j<=k/\j<=N/\Hid (wr.ownsRow w.heap.size 3 1 s3 j (i64V (T.take j)))/\Hid (Below w.heap.size w wr))
 case atStart=>exact⟨0,rfl,Zo,Zo,waa (wa9 _ _ _ _),waa (wac _ _)⟩
 case round=>
  obtain⟨j,rfl,hkj,hj,hrow,hB⟩:=hrel;by_cases hlt:j<N
  ·obtain⟨p,a,x,rfl,hd,hmem,c0,c1⟩:=(h.out.below hB.out).at_ hlt
   have hta:T.take (j+1)=T.take j++[a]:=by
    have hge:l[j]? =some (a,x):=by
     have:=congrArg (λz=>z[0]?) hd
     simpa[List.getElem?_drop] using this
    rw[wb4,<-hT.out,wa1,hge];rfl
   replace hta:=waa hta;have hB1:=hB.out.alloc hB.out.size (.cells #[.int .i64 a,.int .u64 (x:Int)] 152);have ho1:=hrow.out.alloc (.cells #[.int .i64 a,.int .u64 (x:Int)] 152);obtain⟨d0,d1,d2⟩:=(En.new wr a x).cells;have z0:(0:Int)<=(j:Int):=Zo
   have z1:(j:Int)<(N:Int):=Zo
   have hs2:=hB1.size;have hs0:=hB.out.size;clear hd hmem;go_wp2_with (go_loud (at_builtin;refine wpList_append_own _ rfl _ _ 65 rfl w.heap.size 3 i0 (.int .i64 0) 1 8 wbs ii iz0 iz1 iz2 rfl Zd _ _ _ rfl (ho1.alloc _) ⟨wr.heap.size+1,0,none⟩ 1 1 [.int .i64 a] rfl rfl (qb3 Zs _ rfl _) (by simp[Value.oneCell']) (by simp only[maxLen];omega) Zo Zx ?_;intro v' w4 hown' hgrow _;have hB4:=waa ((hB1.alloc hs2 (.cells #[.int .i64 a] 3)).grown hgrow Zx (qa0 ho1));replace hown':=waa hown'))
   go_roundg (N - (j+1))
   case measure=>omega
   case rel=>exact⟨j+1,by go_num,Zo,Zo,waa (by rw[hta.out,qpe];exact hown'.out),hB4⟩
  ·obtain rfl:j=N:=Zo
   have hall:T.take j=T:=wa2 (by rw[hTl.out];omega);rw[hall] at hrow;obtain⟨AV,cV,rfl,-⟩:=Rd.of_own hrow.out;go_wp2_with fail;go_ret;exact⟨_,rfl,hrow.out,hB.out⟩
def qeu(b:Int)(n j:Nat):List Int:=(List.range n).map λ(i:Nat)=>if i<j then b+(i:Int) else 0
def qbm(b:Int)(n:Nat):List Int:=(List.range n).map λ(i:Nat)=>b+(i:Int)
theorem q2r(b:Int){n j:Nat}(hj:j<n):(qeu b n j).set j (b+(j:Int))=qeu b n (j+1):=by
 unfold qeu;apply wa3
 intro i;rw[wcx,wa1,wa1];by_cases h:j=i
 ·subst h
  rw[if_pos rfl,if_pos (by simpa using hj)];simp[hj]
 ·rw[if_neg h]
  by_cases hi:i<n
  ·rw[wdi hi]
   simp only[wbo];by_cases h1:i<j
   ·rw[if_pos h1,if_pos Zo]
   ·rw[if_neg h1,if_neg Zo]
  ·rw[wbp Zx];rfl
theorem q2x(b:Int)(n:Nat):qeu b n n=qbm b n:=by
 unfold qeu qbm;apply wdb
 intro i hi;rw[if_pos (by simpa using hi)]
theorem qyt(b:Int)(n:Nat):i64V (qeu b n 0)=List.replicate n (.int .i64 0):=by
 apply wa3
 intro i;simp only[i64V,qeu,wa1,wcu];by_cases hi:i<n
 ·rw[wdi hi,if_pos hi];simp
 ·rw[wbp Zx,if_neg hi];rfl
theorem qm6{A:Option Addr}{cap N:Nat}{zs:List Int}{w:World}(h:Rd w A N (i64V zs))(hm:N<=60000):
  Calls Tryz.prog 223 #[.slice A N cap] w λe w'=>∃v L,e= .returned v/\(L.Pairwise (·< ·)/\(∀x,x∈L↔∃a∈zs,qfm a=x)/\L.length<=N)/\w'.ownsRow w.heap.size 3 1 v L.length (i64V L)/\Below w.heap.size w w':=by
 obtain⟨i0,ii,iz0,iz1,iz2⟩:=info_parts qqg;have hN:=waa (show zs.length=N by have:=h.1;rwa [qcn] at this);replace h:=waa h;generalize hT:zs.map qfm=T;have hTl:=waa (show T.length=N by rw[<-hT,wbr];exact hN.out);replace hT:=waa hT;go_enter Tryz.func223,Tryz.ntmps223;go_wp2_with fail;go_loopg [3,8] N (λk s3 s8 wr=>∃j:Nat,s8= .int .i64 (j:Int)/\N - j<=k/\j<=N/\Hid (wr.ownsRow w.heap.size 3 1 s3 j (i64V (T.take j)))/\Hid (Below w.heap.size w wr))
 case atStart=>exact⟨0,rfl,Zo,Zo,waa (wa9 _ _ _ _),waa (wac _ _)⟩
 case round=>
  obtain⟨j,rfl,hkj,hj,hrow,hB⟩:=hrel;by_cases hlt:j<N
  ·obtain⟨p,a,rfl,hd,hmem,c0⟩:=(h.out.below hB.out).i64_at hlt
   have hta:T.take (j+1)=T.take j++[qfm a]:=by
    have hge:zs[j]? =some a:=by
     have:=congrArg (λz=>z[0]?) hd
     simpa[List.getElem?_drop] using this
    rw[wb4,<-hT.out,wa1,hge];rfl
   replace hta:=waa hta;have z0:(0:Int)<=(j:Int):=Zo
   have z1:(j:Int)<(N:Int):=Zo
   have hs2:=hB.out.size;have ho1:=hrow.out;have hB1:=hB.out;have hli:Hid (qfm a=bits .andNot .i64 a 7):=waa rfl;clear hd hmem;go_wp2_with (at_builtin;go_loud (refine wpList_append_own _ rfl _ _ 65 rfl w.heap.size 3 i0 (.int .i64 0) 1 8 wbs ii iz0 iz1 iz2 rfl Zd _ _ _ rfl (ho1.alloc _) ⟨wr.heap.size,0,none⟩ 1 1 [.int .i64 (qfm a)] rfl rfl (qb3 rfl _ rfl _) (by simp[Value.oneCell']) (by simp only[maxLen];omega) Zo Zx ?_);intro v' w4 hown' hgrow _;have hB4:=waa ((hB1.alloc hs2 (.cells #[.int .i64 (qfm a)] 3)).grown hgrow Zx (qa0 ho1));replace hown':=waa hown')
   go_roundg (N - (j+1))
   case measure=>omega
   case rel=>exact⟨j+1,by go_num,Zo,Zo,waa (by rw[hta.out,qpe];exact hown'.out),hB4⟩
  ·obtain rfl:j=N:=Zo
   have hall:T.take j=T:=wa2 (by rw[hTl.out];omega);rw[hall] at hrow;have hso:=waa (q2f hrow.out hm);obtain⟨AV,cV,rfl,-⟩:=Rd.of_own hrow.out;clear hrow hall;go_wp2_with fail;refine hso.out.mono ?_;rintro q w2 ⟨rfl,ys,hp,hpw,hrow2,hB2⟩;have hyl:ys.length=j:=by rw[hp.length_eq];exact hTl.out
   have hco:=waa (qvn hrow2 hm);have hres:=waa (show(cmpL ys).Pairwise (·< ·)/\(∀x,x∈cmpL ys↔∃a∈zs,qfm a=x)/\(cmpL ys).length<=j from
    ⟨q3f hpw,λx=>by rw[q6k,hp.mem_iff,<-hT.out,wav],by have:=qud ys;omega⟩)
   have hB3:=waa (hB.out.trans hB2);generalize cmpL ys=L at hco hres;clear hp hpw hrow2 hB2 hyl hso hB;go_wp2_with fail;refine hco.out.mono ?_;rintro e w3 ⟨v',rfl,hrow3,hB4⟩;obtain⟨AW,cW,rfl,-⟩:=Rd.of_own hrow3;replace hrow3:=waa hrow3;replace hB4:=waa (hB3.out.trans hB4);generalize hLn:L.length=NL at hrow3 hres ⊢;replace hLn:=waa hLn;clear hco;go_wp2_with fail;go_ret;exact⟨_,L,rfl,⟨hres.out.1,hres.out.2.1,by rw[hLn.out];exact hres.out.2.2⟩,by rw[hLn.out];exact hrow3.out,hB4.out⟩
def q2g(R:World->Prop)(K:Ending->World->Prop)(e:Ending)(w:World):Prop:=(e= .returned (.tuple #[])/\R w)\/(∃ch,e= .panicked ch/\K e w)
theorem qpu{A:Option Addr}{cap n Fn:Nat}{caps:Array Value}{zs:List Int}{w:World}(hen:∀(args:Array Value) (w:World),(callFunc Fn args).run Tryz.prog w= .ok (.enter Fn args) w)(hl:zs.length=n)(hn:n<=60000)(J:Nat->World->Prop)(K:Ending->World->Prop)(h0:J 0 w)(hrow:∀j V,J j V->Rd V A n (i64V zs))(hstep:∀j a V,j<n->zs[j]? =some a->J j V->Calls Tryz.prog Fn (#[.int .i64 (j:Int),.int .i64 a]++caps) V λe V'=>q2g (J (j+1)) K e V'):
  Calls Tryz.prog 289 #[.slice A n cap,.func (.func Fn) #[] caps] w λe w'=>q2g (J n) K e w':=by
 replace h0:=waa h0;replace hrow:=waa hrow;replace hstep:=waa hstep;replace hl:=waa hl;go_enter Tryz.func289,Tryz.ntmps289;go_wp2_with fail;go_loopg [8] n (λk s8 wr=>∃j:Nat,s8= .int .i64 (j:Int)/\n - j<=k/\j<=n/\Hid (J j wr))
 case atStart=>exact⟨0,rfl,Zo,Zo,h0⟩
 case round=>
  obtain⟨j,rfl,hkj,hj,hJ⟩:=hrel;by_cases hlt:j<n
  ·obtain⟨p,a,rfl,hd,hmem,c0⟩:=(hrow.out j wr hJ.out).i64_at hlt
   have hge:zs[j]? =some a:=by
    have:=congrArg (λz=>z[0]?) hd
    simpa[List.getElem?_drop] using this
   have hs:=waa (hstep.out j a wr hlt hge hJ.out);have z0:(0:Int)<=(j:Int):=Zo
   have z1:(j:Int)<(n:Int):=Zo
   clear hd hmem hge;go_wp2_with fail;refine hs.out.mono ?_;rintro e V (⟨rfl,hV⟩|⟨ch,rfl,hV⟩)
   ·replace hV:=waa hV
    go_wp2_with fail;go_roundg (n - (j+1))
    case measure=>omega
    case rel=>exact⟨j+1,by go_num,Zo,Zo,hV⟩
   ·exact⟨rfl,.inr ⟨ch,rfl,hV⟩⟩
  ·obtain rfl:j=n:=Zo
   go_wp2_with fail;go_end0
   exact .inl ⟨rfl,hJ.out⟩
end Go.Proofs.YtocncmbeinmiaaaGreat
