/- Parts. No condition. -/
import Derived.Test.YtocncmbeinmiaaaGreatJoinU26
set_option linter.unusedVariables false
set_option maxRecDepth 100000
set_option maxHeartbeats 8000000
namespace Go.Proofs.YtocncmbeinmiaaaGreat
open Go Go.RowKit
open Go.Maps (Keyed)
theorem qgj:(Tryz.prog.info? 101).map (λi=>(i.zero,i.size,i.bytes))=some (some (qcd [0,0,0,0,0,0,0,0]),8,64):=by kernel_rfl
def qbq(n:Nat):List Nat:=List.replicate n 0
theorem q47(k:Nat):(madeCells (qcd [0,0,0,0,0,0,0,0]).cells (k*8)).toList=u64V (qbq (k*8)):=by
 apply wa3
 intro j;have hz:∀i,i<8->(qcd [0,0,0,0,0,0,0,0]).cells[i]! = .int .u64 0:=by
  intro i hi;match i,hi with
  |0,_=>rfl|1,_=>rfl|2,_=>rfl|3,_=>rfl|4,_=>rfl|5,_=>rfl|6,_=>rfl|7,_=>rfl
 by_cases hj:j<k*8
 ·have h8:=hz (j%8) (wcn _ Zo)
  have hs:(qcd [0,0,0,0,0,0,0,0]).cells.size=8:=rfl;simp[madeCells,u64V,qbq,hj,hs,h8]
 ·have hs:(qcd [0,0,0,0,0,0,0,0]).cells.size=8:=rfl
  simp[madeCells,u64V,qbq,hj]
theorem qy4(n:Nat)(hn:n<=2048)(w:World):(Instr.makeSlice 94 (.int .i64 (n:Int)) (.int .i64 (n:Int))).run Tryz.prog w= .ok (.slice (some ⟨w.heap.size,0,none⟩) n n) (w.alloc (.cells (u64V (qbq (n*8))).toArray 101)):=by
 obtain⟨i,hi,hz,hs,hb⟩:=info_parts qgj;have h:=run_makeSlice (P:=Tryz.prog) w 94 101 i _ wgc hi hz .i64 .i64 (n:Int) (n:Int) Zo (wen _) (by rw[hs,wam];omega) (by rw[hb];omega) Zo;rw[hs,wam] at h;rw[h];rw[show(madeCells (qcd [0,0,0,0,0,0,0,0]).cells (n*8))=(u64V (qbq (n*8))).toArray by rw[<-q47]]
theorem qky(w:World)(a b c d:Obj):((((w.alloc a).alloc b).alloc c).alloc d).heap[w.heap.size]? =some a/\((((w.alloc a).alloc b).alloc c).alloc d).heap[w.heap.size+1]? =some b/\((((w.alloc a).alloc b).alloc c).alloc d).heap[w.heap.size+1+1]? =some c/\((((w.alloc a).alloc b).alloc c).alloc d).heap[w.heap.size+1+1+1]? =some d/\Below w.heap.size w ((((w.alloc a).alloc b).alloc c).alloc d):=by
 refine⟨?_,?_,?_,?_,((((wac _ w).alloc Zs a).alloc Zs b).alloc Zx c).alloc Zx d⟩
 ·rw[wbv _ _ _ Zx,wbv _ _ _ Zx,wbv _ _ _ Zs];exact World.alloc_heap_new w a
 ·rw[wbv _ _ _ Zs,wbv _ _ _ Zs]
  have:=World.alloc_heap_new (w.alloc a) b
  rwa [show(w.alloc a).heap.size=w.heap.size+1 by simp] at this
 ·rw[wbv _ _ _ Zs]
  have:=World.alloc_heap_new ((w.alloc a).alloc b) c
  rwa [show((w.alloc a).alloc b).heap.size=w.heap.size+1+1 by simp] at this
 ·have:=World.alloc_heap_new (((w.alloc a).alloc b).alloc c) d
  rwa [show(((w.alloc a).alloc b).alloc c).heap.size=w.heap.size+1+1+1 by simp] at this
theorem qro{W:World}{base g n:Nat}(hn:n<=2048)(hb:base<=g)(h:W.heap[g]? =some (.cells (u64V (qbq (n*8))).toArray 101 (0,0))):W.ownsRow base 101 8 (.slice (some ⟨g,0,none⟩) n n) n (u64V (qbq (n*8))):=by
 have hl:(u64V (qbq (n*8))).length=n*8:=by rw[qai];simp[qbq]
 exact⟨hl,.inr ⟨g,n,_,rfl,hb,h,wab _,by unfold maxLen;omega,by simpa using hl,by rw[wa2 (by simp[hl])]⟩⟩
theorem qf2{W:World}{base p gs gk m n:Nat}(h0:0<n)(hn:n<=2048)(hp:W.heap[p]? =some (.cells #[.slice (some ⟨gs,0,none⟩) n n,.slice (some ⟨gk,0,none⟩) n n,.map (some m),.int .i64 0] 97 (0,0)))(hs:W.heap[gs]? =some (.cells (u64V (qbq (n*8))).toArray 101 (0,0)))(hk:W.heap[gk]? =some (.cells (u64V (qbq (n*8))).toArray 101 (0,0)))(hm:W.heap[m]? =some (.map #[] 0))(b1:base<=p)(b2:base<=gs)(b3:base<=gk)(b4:base<=m)(n1:p≠gs)(n2:p≠gk)(n3:gs≠gk):Reg W base p n 0 (qbq (n*8)) (qbq (n*8)) (λ_=>none):=
 ⟨gs,n,gk,n,m,0,.map [],b1,b4,n1,n2,n3,h0,hn,hp,qro hn b2 hs,qro hn b3 hk,⟨#[],0,hm,⟨by simp,MapKept.stamped_empty 0,by simp⟩,by simp,rfl⟩,Noted.empty,by simp[qbq],by simp[qbq]⟩
theorem q9v(n:Nat)(w:World)(h0:0<n)(hn:n<=2048):
  Calls Tryz.prog 45 #[.int .i64 ((n:Int)*8)] w λe w'=>∃p,e= .returned (.pointer (some ⟨p,0,none⟩))/\Reg w' w.heap.size p n 0 (qbq (n*8)) (qbq (n*8)) (λ_=>none)/\Below w.heap.size w w':=by
 have hmk:=qy4 n hn;have hmm:=@run_makeMap Tryz.prog;have hmay:∀w,Calls Tryz.prog 84 #[.int .i64 ((n:Int)*8)] w λe w'=>e= .returned (.bool true)/\w=w':=λw=>
  (qvv ((n:Int)*8) w).mono λe w' ⟨he,hw⟩=>⟨by rw[he];exact qab (by rw[wd4 Zo];simp;omega),hw⟩
 go_enter Tryz.func45,Tryz.ntmps45;go_wp2_with (go_at_call 84;refine(hmay _).mono ?_;rintro e w' ⟨rfl,rfl⟩)
 go_region
 all_goals
  go_wp2
  go_ret
  first
   |(obtain⟨q0,q1,q2,q3,hb⟩:=qky w (.map #[] 0) (.cells (u64V (qbq (n*8))).toArray 101) (.cells (u64V (qbq (n*8))).toArray 101) (.cells #[.slice (some ⟨w.heap.size+1,0,none⟩) n n,.slice (some ⟨w.heap.size+1+1,0,none⟩) n n,.map (some w.heap.size),.int .i64 0] 97);exact⟨_,rfl,(qf2 h0 hn q3 q1 q2 q0 Zo Zo Zo Zo Zo Zo Zo).drew,hb.drew⟩)
   |(obtain⟨q0,q1,q2,q3,hb⟩:=qky w (.map #[] 0) (.cells (u64V (qbq (n*8))).toArray 101) (.cells (u64V (qbq (n*8))).toArray 101) (.cells #[.slice (some ⟨w.heap.size+1+1,0,none⟩) n n,.slice (some ⟨w.heap.size+1,0,none⟩) n n,.map (some w.heap.size),.int .i64 0] 97);exact⟨_,rfl,(qf2 h0 hn q3 q2 q1 q0 Zo Zo Zo Zo Zo Zo Zo).drew,hb.drew⟩)
   |(obtain⟨q0,q1,q2,q3,hb⟩:=qky w (.cells (u64V (qbq (n*8))).toArray 101) (.map #[] 0) (.cells (u64V (qbq (n*8))).toArray 101) (.cells #[.slice (some ⟨w.heap.size,0,none⟩) n n,.slice (some ⟨w.heap.size+1+1,0,none⟩) n n,.map (some (w.heap.size+1)),.int .i64 0] 97);exact⟨_,rfl,(qf2 h0 hn q3 q0 q2 q1 Zo Zo Zo Zo Zo Zo Zo).drew,hb.drew⟩)
   |(obtain⟨q0,q1,q2,q3,hb⟩:=qky w (.cells (u64V (qbq (n*8))).toArray 101) (.map #[] 0) (.cells (u64V (qbq (n*8))).toArray 101) (.cells #[.slice (some ⟨w.heap.size+1+1,0,none⟩) n n,.slice (some ⟨w.heap.size,0,none⟩) n n,.map (some (w.heap.size+1)),.int .i64 0] 97);exact⟨_,rfl,(qf2 h0 hn q3 q2 q0 q1 Zo Zo Zo Zo Zo Zo Zo).drew,hb.drew⟩)
   |(obtain⟨q0,q1,q2,q3,hb⟩:=qky w (.cells (u64V (qbq (n*8))).toArray 101) (.cells (u64V (qbq (n*8))).toArray 101) (.map #[] 0) (.cells #[.slice (some ⟨w.heap.size,0,none⟩) n n,.slice (some ⟨w.heap.size+1,0,none⟩) n n,.map (some (w.heap.size+1+1)),.int .i64 0] 97);exact⟨_,rfl,(qf2 h0 hn q3 q0 q1 q2 Zo Zo Zo Zo Zo Zo Zo).drew,hb.drew⟩)
   |(obtain⟨q0,q1,q2,q3,hb⟩:=qky w (.cells (u64V (qbq (n*8))).toArray 101) (.cells (u64V (qbq (n*8))).toArray 101) (.map #[] 0) (.cells #[.slice (some ⟨w.heap.size+1,0,none⟩) n n,.slice (some ⟨w.heap.size,0,none⟩) n n,.map (some (w.heap.size+1+1)),.int .i64 0] 97);exact⟨_,rfl,(qf2 h0 hn q3 q1 q0 q2 Zo Zo Zo Zo Zo Zo Zo).drew,hb.drew⟩)
theorem qy6{w:World}{n gs gk cs ck:Nat}{ty:TypeId}{S:List Nat}{cur:Array Value}(hg:w.heap[gk]? =some (.cells cur 101 (0,0)))(hS:S.length=n*8)(hc:n*8<=cur.size)(hs:∀j v,(u64V S)[j]? =some v->w.cell? ⟨gs,j,none⟩=some v):
  (Builtin.copy_ #[94,94] ty #[.slice (some ⟨gk,0,none⟩) n ck,.slice (some ⟨gs,0,none⟩) n cs]).run Tryz.prog w= .ok (goInt n) (w.setRow gk (u64V S++cur.toList.drop (n*8)).toArray):=by
 obtain⟨i,hi,hz,hsz,hb⟩:=info_parts qgj;have hl:=run_loadCells_list (P:=Tryz.prog) w ⟨gs,0,none⟩ (u64V S) (λj v hj=>by
  have e:(⟨gs,0,none⟩:Addr).add j=⟨gs,j,none⟩:=by
   cases j with
   |zero=>rfl
   |succ j=>simp[Addr.add]
  rw[e];exact hs j v hj)
 rw[qai,hS] at hl;have hst:=run_storeCells_at Tryz.prog gk 0 101 (u64V S) 0 cur w hg (by rw[qai];omega) (by intro v hv;simp only[u64V,wav] at hv;obtain⟨x,-,rfl⟩:=hv;rfl);simp only[wdf,wa4,wdx,wba,qai,hS] at hst;simp[Builtin.copy_,run_underlying Tryz.underlying94,Builtin.lenOf,Builtin.firstCells,sizeOf,typeInfo,hi,hsz,hl,hst]
theorem take_set{S:List Nat}{N j x:Nat}(hN:S.length=N)(hx:S[j]? =some x):(S.take j++List.replicate (N - j) 0).set j x=S.take (j+1)++List.replicate (N - (j+1)) 0:=by
 have hj:j<N:=by have:=(wan.1 hx).1;omega
 apply wa3
 intro k;rw[wcx];by_cases hk:j=k
 ·subst hk
  rw[if_pos rfl,if_pos Zx,wbk Zx,wbh,if_pos Zo,hx]
 ·rw[if_neg hk]
  by_cases h1:k<j
  ·rw[wbk Zx,wbk Zx,wbh,wbh,if_pos h1,if_pos Zo]
  ·rw[wbt Zx,wbt Zx]
   simp only[wcu,war];have e1:min j S.length=j:=Zo
   have e2:min (j+1) S.length=j+1:=Zo
   rw[e1,e2];by_cases h2:k<N
   ·rw[if_pos Zo,if_pos Zo]
   ·rw[if_neg Zo,if_neg Zo]
theorem q0e{w:World}{base p n c gs cs gk ck m:Nat}{st:Int}{D:DataW Value}{S K:List Nat}{f:Nat->Option (List Nat)}(h:RegAt w base p n c gs cs gk ck m st D S K f):∃cur:Array Value,w.heap[gk]? =some (.cells cur 101 (0,0))/\n*8<=cur.size/\
  RegAt (w.setRow gk (u64V S++cur.toList.drop (n*8)).toArray) base p n c gs cs gk ck m st D S S f/\Below base w (w.setRow gk (u64V S++cur.toList.drop (n*8)).toArray):=by
 obtain⟨a1,a2,a3⟩:=h.apart;obtain⟨⟨_,l1⟩,⟨_,l2⟩,⟨b3,l3⟩,⟨_,l4⟩⟩:=h.lts;have hSl:=h.len.1;obtain⟨h1,h2,h3,h4,h5,h6,h6',hp,hs,hk,hm,hD,hS,hK⟩:=h;obtain⟨e1,e2⟩:=hk;rcases e2 with ⟨e,_⟩|⟨g,cap,cur,e,hb,hg,hn,hcm,hsz,ht⟩
 ·cases e
 injection e with e5 e6 e7;injection e5 with e5;injection e5 with e5;subst e5 e7;have hfit:n*8<=cur.size:=by rw[hsz];omega
 have hoth:∀k,k≠gk->(w.setRow gk (u64V S++cur.toList.drop (n*8)).toArray).heap[k]? =w.heap[k]?:=λk hk=>setRow_other w gk k _ hk
 refine⟨cur,hg,hfit,⟨h1,h2,h3,h4,h5,h6,h6',(hoth p h4).trans hp,qa5 hs (hoth gs h5),⟨by rw[qai,hSl],.inr ⟨gk,ck,_,rfl,hb,setRow_heap w gk cur _ _ _ hg,hn,hcm,?_,?_⟩⟩,qc4 hm (hoth m (λe=>a3 e.symm)),hD,hS,hS⟩,below_setRow (wac _ w) b3 _⟩
 ·simp only[wbj,was,qai,hSl,wbu,wdt]
  omega
 ·rw[wdp (by rw[qai];omega),wa2 (by rw[qai];omega)]
theorem qacj{N n:Nat}(hN:N=n*8)(w:World)(h0:0<n)(hn:n<=2048):
  Calls Tryz.prog 45 #[.int .i64 (N:Int)] w λe w'=>∃p,e= .returned (.pointer (some ⟨p,0,none⟩))/\Reg w' w.heap.size p n 0 (qbq (n*8)) (qbq (n*8)) (λ_=>none)/\Below w.heap.size w w':=by
 subst hN;have h:=q9v n w h0 hn;rw[show((n:Int)*8)=((n*8:Nat):Int) by omega] at h;exact h
theorem qk4{A:Option Addr}{n cap:Nat}{S:List Nat}{w:World}(hR:Rd w A (n*8) (u64V S))(h0:0<n)(hn:n<=2048)(hS:∀x∈S,x<18446744073709551616):
  Calls Tryz.prog 24 #[.slice A (n*8) cap] w λe w'=>∃p,e= .returned (.pointer (some ⟨p,0,none⟩))/\Reg w' w.heap.size p n 0 S S (λ_=>none)/\Below w.heap.size w w':=by
 have hSl:S.length=n*8:=by have:=hR.1;rwa [qai] at this
 obtain⟨q,rfl,-⟩:=hR.2 Zo;replace hR:=waa hR;replace hS:=waa hS;replace hSl:=waa hSl;obtain⟨N,hN⟩:∃N,N=n*8:=⟨_,rfl⟩
 rw[<-hN];have hnew:=waa (λV=>qacj (N:=N) (n:=n) hN V h0 hn);replace hN:=waa hN;go_enter Tryz.func24,Tryz.ntmps24;go_wp2_with (go_at_call 45;refine(hnew.out _).mono ?_;rintro e w1 ⟨p,rfl,⟨gs,cs,gq,ck,m,st,D,hA⟩,hB1⟩;replace hA:=waa hA;replace hB1:=waa hB1)
 go_loopg [13] N (λk s13 wr=>∃j:Nat,s13= .int .i64 (j:Int)/\N - j<=k/\j<=N/\Hid (RegAt wr w.heap.size p n 0 gs cs gq ck m st D (S.take j++List.replicate (N - j) 0) (qbq (n*8)) (λ_=>none))/\Hid (Below w.heap.size w wr))
 case atStart=>exact⟨0,rfl,Zo,Zo,waa (by have:=hA.out;rw[wdx,wba,Nat.sub_zero,hN.out];exact this),hB1⟩
 case round=>
  obtain⟨j,rfl,hkj,hj,hA2,hB2⟩:=hrel;obtain⟨c0,c1,c2,c3,cf⟩:=hA2.out.cells;by_cases hlt:j<N
  ·obtain⟨p',x,hp',hdr,hx,hcx⟩:=(hR.out.kept hB2.out (wab _)).u64_at (k:=j) (by rw[<-hN.out];exact hlt)
   injection hp' with hp';subst hp';have hxj:S[j]? =some x:=by rw[<-List.head?_drop,hdr];rfl
   have hst:=hA2.out.stored (j:=j) (x:=x) (by rw[<-hN.out];exact hlt) (hS.out x hx);rw[take_set (hSl.out.trans hN.out.symm) hxj] at hst;have hst:=waa hst;obtain⟨u,_,_,hold⟩:=qdx (hA2.out.2.2.2.2.2.2.2.2.1) (j:=j) (by rw[<-hN.out];exact hlt);have hf:=(hA2.out.2.2.2.2.2.2.2.2.1).frozenAt j;have hgs:=waa hA2.out.lts.2.1.1;have hw8:(j/8)*8+j%8=j:=Zo
   have t1:((j:Int)).tdiv 8=((j/8:Nat):Int):=by rw[wew Zo];omega
   have t2:((j:Int)).tmod 8=((j%8:Nat):Int):=by rw[wd4 Zo];omega
   have z1:(0:Int)<=((j/8:Nat):Int):=Zo
   have z2:((j/8:Nat):Int)<(n:Int):=by have:=hN.out;omega
   have z3:(0:Int)<=((j%8:Nat):Int):=Zo
   have z4:((j%8:Nat):Int)<8:=Zo
   have y1:(0:Int)<=(j:Int):=Zo
   have y2:(j:Int)<(N:Int):=Zo
   clear hdr;have hB3:=waa (hB2.out.setCell (p:=⟨gs,j,none⟩) hgs.out (.int .u64 (x:Int)));clear hA2 hB2;go_wp2_with fail;go_roundg (N - (j+1))
   case measure=>omega
   case rel=>exact⟨j+1,by go_num,Zo,Zo,hst,hB3⟩
  ·obtain rfl:j=N:=Zo
   have hA3:=hA2.out;rw[wcw,List.replicate_zero,wbl,wa2 (by rw[hSl.out,hN.out];omega)] at hA3;obtain⟨cur,hcur,hfit,hA4,hB4⟩:=q0e hA3;have hcs:∀i v,(u64V S)[i]? =some v->wr.cell? ⟨gs,i,none⟩=some v:=λi v hi=>by
    have hil:i<n*8:=by have:=(wan.1 hi).1;rw[qai,hSl.out] at this;exact this
    obtain⟨u,hu,_,hold⟩:=qdx (hA3.2.2.2.2.2.2.2.2.1) (j:=i) hil;rw[hold];simp[u64V,hu] at hi
    rw[hi]
   have hcp1:=λ(ty:TypeId)=>qy6 (w:=wr.drew) (cs:=cs) (ck:=ck) (ty:=ty) hcur hSl.out hfit hcs
   have hB5:=waa (hB2.out.trans hB4);replace hA4:=waa hA4;clear hA2 hA3 hB2 hB4 hcur hfit hcs;go_wp2_with fail;go_still_tail 8,Zk
   change wpList _ _ _ _ _ wr.drew;go_wp2_with fail;go_ret;exact⟨_,rfl,⟨_,_,_,_,_,_,_,hA4.out.drew⟩,hB5.out.drew⟩
end Go.Proofs.YtocncmbeinmiaaaGreat
namespace Go.Proofs.YtocncmbeinmiaaaGreat
open Go Go.RowKit
theorem qzq:MendR (qa8 1 1 1) (qa8 1 1 1):=by
 have hho:qa3 1 1 1 (qa8 1 1 1)=some [(0,0,0)]:=qv3 qdn;have hz:∀x∈rtL 1 (qa8 1 1 1),x=0:=by
  intro x hx;have h8:(qa8 1 1 1)[8]? =some 0:=qex qdn (wab _) Zd;obtain⟨j,hj⟩:=wc0 hx;have hj0:=(wan.1 hj).1;rw[rtL,war] at hj0;obtain rfl:j=0:=by have:(1:Int).toNat=1:=rfl;omega
  rw[rtL,wbf Zd,wbd,wdf,h8] at hj;exact(wco hj).symm
 have ht:ToldL 1 1 1 (qa8 1 1 1) [(0,0,0)] []:=⟨hho,q3j hz,λo ho=>by cases ho⟩
 refine⟨1,1,1,_,qho qdn,qjw qdn,1,1,1,_,_,qho qdn,ht,?_⟩;have h1:(1:Int).toNat=1:=rfl;have htot:totN 1 1 1=128:=by decide
 apply wa3
 intro i;rcases qg0 ht i with ⟨j,hj,rfl,e⟩|⟨j,hj,rfl,e⟩|⟨o,ho,-⟩|⟨e,-⟩
 ·obtain rfl:j=0:=Zo
  rw[e,qex qdn (by unfold hdAt;omega) (by unfold hdAt;omega)];rfl
 ·obtain rfl:j=0:=Zo
  rw[e,qex qdn (by unfold hdAt;omega) (by unfold hdAt;omega)];rfl
 ·cases ho
 ·exact e.symm
theorem qaax(A:Option Addr)(cap N:Nat)(ws:List Nat)(w:World)(hr:Rd w A N (u64V ws))(hwl:ws.length=N)(hlt:∀y∈ws,y<18446744073709551616)(hcap:N<=cap)(hl:N<=2000)(h:¬∃v,StandR ws v):
  Calls Tryz.prog 161 #[.slice A N cap] w λe w'=>e= .returned (.tuple #[.slice none 0 0,.int .i64 11])/\Below w.heap.size w w':=by
 subst hwl;have hsd:=waa (q3i A cap ws w hr hlt hcap hl h);clear h hlt hr;refine(callsIn_wide (n:=5)).1 ?_;refine callsIn_of_wp_marks Tryz.func161 rfl trivial ?_ rfl;simp only[Tryz.ntmps161,wbj,way,wbq,Nat.reduceAdd,Nat.reduceSub,wci,wcj,wck,wcl,wba,wcb];gi_wp2_with fail
 refine⟨trivial,(callsIn_wide.2 hsd.out).mono ?_⟩;rintro e w1 ⟨rfl,hB1⟩;gi_wp2_with fail
 exact⟨.tuple #[.slice none 0 0,.int .i64 11],by simp[results,Tryz.f161,go_sem],rfl,hB1⟩
end Go.Proofs.YtocncmbeinmiaaaGreat
