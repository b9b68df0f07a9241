/- Parts. No condition. -/
import Derived.Laws.AppendOwn
import Derived.Laws.Append
import Derived.Laws.CopyRow
import Derived.Test.YtocncmbeinmiaaaGreatJoinU15
import Derived.Test.YtocncmbeinmiaaaGreatJoinU16
set_option linter.unusedVariables false
set_option maxRecDepth 100000
set_option maxHeartbeats 8000000
namespace Go.Proofs.YtocncmbeinmiaaaGreat
open Go Go.RowKit
structure Cpt (W:World) (bw bg bh bs:Nat) (A:Option Addr) (cap:Nat) (ws:List Nat) (s l r:Int) (HA:Option Addr) (hcap:Nat) (hs:List HD) (SA:Option Addr) (scap:Nat) (ms:List Nat):Prop where
 w:W.heap[bw]? =some (.cells #[.slice A ws.length cap] 40 (0,0))
 g:Gm W bg s l r
 h:W.heap[bh]? =some (.cells #[.slice HA hs.length hcap] 75 (0,0))
 m:W.heap[bs]? =some (.cells #[.slice SA ms.length scap] 40 (0,0))
 rw_:Rd W A ws.length (u64V ws)
 rh:HdsRd W HA hs.length hs
 rm:Rd W SA ms.length (u64V ms)
section
variable {W W':World} {bw bg bh bs:Nat} {A:Option Addr} {cap:Nat} {ws:List Nat} {s l r:Int} {HA:Option Addr} {hcap:Nat} {hs:List HD} {SA:Option Addr} {scap:Nat} {ms:List Nat}
theorem Cpt.below(h:Cpt W bw bg bh bs A cap ws s l r HA hcap hs SA scap ms)(hb:Below W.heap.size W W'):Cpt W' bw bg bh bs A cap ws s l r HA hcap hs SA scap ms:=
 ⟨(hb.block bw (wal.1 h.w).1).trans h.w,h.g.below hb h.g.lt,(hb.block bh (wal.1 h.h).1).trans h.h,(hb.block bs (wal.1 h.m).1).trans h.m,h.rw_.below hb,h.rh.below hb,h.rm.below hb⟩
end
def qyp(o:Option LV):Ending:=match o with
 |none=> .returned (.tuple #[.agg #[.int .i64 0,.int .i64 0,.int .i64 0,.int .i64 0,.int .i64 0,.int .i64 0,.int .i64 0],.bool false])
 |some q=> .returned (.tuple #[.agg #[.int .i64 q.a,.int .i64 0,.int .i64 q.s,.int .i64 q.n,.int .i64 q.sp,.int .i64 q.ix,.int .i64 q.wd],.bool true])
theorem q7m{x:Nat}{h:HD}{r s n:Int}(hh:BHit x h.2.1 r s n)(hz:qdt r s n=false)(hm:hdB h=true)(hk:h.1=1\/h.1=2):(objB x h=decide (spN n=h.2.2))/\fR x=r/\fS x=s/\fN x=n:=by
 obtain⟨t1,t2,t3,t4⟩:=hh.told;refine⟨?_,t2,t3,t4⟩;have h1:qbs r s n=true/\bW r s n=x/\clN n=h.2.1:=by
  rcases hh with ⟨-,h2⟩|h2
  ·rw[hz] at h2;cases h2
  ·exact h2
 have hb:=bmay_iff.1 h1.1;have hmm:=(hmay_iff (k:=h.1) (c:=h.2.1) (n:=h.2.2)).1 hm;have e:(objB x h=true↔spN n=h.2.2):=by
  rw[objB_iff,show fR x=r from t2,show fS x=s from t3,show fN x=n from t4];constructor
  ·rintro⟨-,-,e3,e4⟩
   rcases hk with hk|hk
   ·have h5:h.2.2=0/\h.2.1<4:=Zo
    rw[h5.1];have h6:=h1.2.2;unfold spN;unfold clN at h6;repeat' split at h6
    all_goals(try split)
    all_goals omega
   ·exact e4 hk
  ·intro e4
   exact⟨h1.1,h1.2.1,h1.2.2,λ_=>e4⟩
 by_cases hs:spN n=h.2.2
 ·rw[decide_eq_true hs];exact e.2 hs
 ·rw[decide_eq_false hs]
  exact wg7.2 (λh=>hs (e.1 h))
theorem q15{h:HD}:objB 0 h=false:=by
 refine wg7.2 (λho=>?_);have:=(objB_iff.1 ho).1
 have:=bmay_iff.1 this
 simp[fR,fS,fN] at this
theorem q4g{x:Nat}{h:HD}(hh:∀r s n,¬BHit x h.2.1 r s n):objB x h=false:=by
 refine wg7.2 (λho=>?_);obtain⟨h1,h2,h3,-⟩:=objB_iff.1 ho;exact hh _ _ _ (.inr ⟨h1,h2,h3⟩)
def zLV:LV:=⟨0,0,0,0,0,0,0⟩
theorem Lb.set7{V:World}{b:Nat}{o:LV}(h:Lb V b o)(q:LV):Lb (((((((V.setCell ⟨b,0,none⟩ (.int .i64 q.a)).setCell ⟨b,1,none⟩ (.int .i64 q.r)).setCell ⟨b,2,none⟩ (.int .i64 q.s)).setCell ⟨b,3,none⟩ (.int .i64 q.n)).setCell ⟨b,4,none⟩ (.int .i64 q.sp)).setCell ⟨b,5,none⟩ (.int .i64 q.ix)).setCell ⟨b,6,none⟩ (.int .i64 q.wd)) b q:=by
 have h0:=qah h 0 (.int .i64 q.a);have h1:=qah h0 1 (.int .i64 q.r);have h2:=qah h1 2 (.int .i64 q.s);have h3:=qah h2 3 (.int .i64 q.n);have h4:=qah h3 4 (.int .i64 q.sp);have h5:=qah h4 5 (.int .i64 q.ix);have h6:=qah h5 6 (.int .i64 q.wd);unfold Lb;rw[h6];simp[lvV]
theorem Lb.below_set7{U V:World}{B b:Nat}(h:Below B U V)(hB:B<=b)(q:LV):Below B U (((((((V.setCell ⟨b,0,none⟩ (.int .i64 q.a)).setCell ⟨b,1,none⟩ (.int .i64 q.r)).setCell ⟨b,2,none⟩ (.int .i64 q.s)).setCell ⟨b,3,none⟩ (.int .i64 q.n)).setCell ⟨b,4,none⟩ (.int .i64 q.sp)).setCell ⟨b,5,none⟩ (.int .i64 q.ix)).setCell ⟨b,6,none⟩ (.int .i64 q.wd)):=
 ((((((h.setCell (p:=⟨b,0,none⟩) hB _).setCell (p:=⟨b,1,none⟩) hB _).setCell (p:=⟨b,2,none⟩) hB _).setCell (p:=⟨b,3,none⟩) hB _).setCell (p:=⟨b,4,none⟩) hB _).setCell (p:=⟨b,5,none⟩) hB _).setCell (p:=⟨b,6,none⟩) hB _
theorem q80(bw bg bh bs:Nat)(A:Option Addr)(cap:Nat)(ws:List Nat)(s l r:Int)(HA:Option Addr)(hcap:Nat)(hs:List HD)(SA:Option Addr)(scap:Nat)(ms:List Nat)(x:Nat)(hx:x<18446744073709551616)(W:World)(h:Cpt W bw bg bh bs A cap ws s l r HA hcap hs SA scap ms)(hf:fitB s l r ws.length=true)(hlt:∀y∈ws,y<18446744073709551616)(hhs:hs.length=s.toNat)(hms:ms=qcq s l r ws)(hhc:hs.length<=hcap):
  Calls Tryz.prog 413 #[.int .u64 (x:Int),.pointer (some ⟨bw,0,none⟩),.pointer (some ⟨bg,0,none⟩),.pointer (some ⟨bh,0,none⟩),.pointer (some ⟨bs,0,none⟩)] W λe w'=>e=qyp (obO s l r hs ws x)/\Below W.heap.size W w':=by
 obtain⟨s0,s1,l0,l1,r0,r1,hwl,hwm⟩:=qaw hf;have hbw:bw<W.heap.size:=(wal.1 h.w).1;have hbg:bg<W.heap.size:=h.g.lt;have hbh:bh<W.heap.size:=(wal.1 h.h).1;have hbs:bs<W.heap.size:=(wal.1 h.m).1;have cw:W.cell? ⟨bw,0,none⟩=some (.slice A ws.length cap):=by rw[qaa h.w];rfl
 obtain⟨g0,g1,g2,g3⟩:=h.g.cells;have ch:W.cell? ⟨bh,0,none⟩=some (.slice HA hs.length hcap):=by rw[qaa h.h];rfl
 have cm:W.cell? ⟨bs,0,none⟩=some (.slice SA ms.length scap):=by rw[qaa h.m];rfl
 have hK:=waa h;have hfK:=waa hf;have hhsK:=waa hhs;have hmsK:=waa hms;have hln:=waa hwl;clear h hf hhs hms hwl;by_cases hxl:ws.length<=x
 ·have hno:=waa (show obO s l r hs ws x=none from by
   cases ho:obO s l r hs ws x with
   |none=>rfl
   |some o=>have:=qev ho;have:=hln.out;omega)
  obtain⟨⟨z0,z1,z2,z3,z4,z5,z6⟩,zf⟩:=(Lb.new W zLV).cells;have hB0:=qfl W zLV;go_enter Tryz.func413,Tryz.ntmps413;go_wp2_with fail;refine bodyPost_ret (v:= .tuple #[.agg #[.int .i64 0,.int .i64 0,.int .i64 0,.int .i64 0,.int .i64 0,.int .i64 0,.int .i64 0],.bool false]) ?_ rfl ⟨by rw[hno.out];rfl,hB0⟩;simp only[zLV,lvV] at z0 z1 z2 z3 z4 z5 z6;simp[results,Tryz.results413,go_sem,z0,z1,z2,z3,z4,z5,z6]
 ·have hxi:(x:Int)<(ws.length:Int):=Zo
  have hlw:ws.length<=9223372036854775807:=Zo
  have hsp:=waa (λ(V:World) (hV:Below W.heap.size W V)=>q56 s l r (x:Int) HA hcap hs V (hK.out.rh.below hV) hhc (by have:=hhsK.out;omega));have hL0:=waa (Lb.new W zLV);have hB0:=waa (qfl W zLV);cases hfd:(qbd s l r hs).find? (pAt (x:Int)) with
  |none=>
   have hno:=waa (show obO s l r hs ws x=none from by rw[obO,hfd];rfl);have hsp2:=waa (hsp.out _ hB0.out);rw[hfd] at hsp2;clear hfd hsp;go_enter Tryz.func413,Tryz.ntmps413;go_upto_region 5 with (go_at_call 368;refine hsp2.out.mono ?_;rintro e w1 ⟨rfl,hB1⟩;have hB1:=waa hB1;unfold qxh;dsimp only)
   have hL1:=waa (hL0.out.below hB1.out hL0.out.lt);obtain⟨⟨z0,z1,z2,z3,z4,z5,z6⟩,zf⟩:=hL1.out.cells;simp only[zLV] at z0 z1 z2 z3 z4 z5 z6;have hN1:W.heap.size<w1.heap.size:=hL1.out.lt;go_quiet (fail)
   go_wp2_with fail;have hBs:=(wac w1.heap.size w1).alloc (wab _) (.cells #[.int .i64 0,.int .i64 0,.int .i64 0] 164);have hBv:=waa (show Below W.heap.size W ((w1.alloc (.cells #[.int .i64 0,.int .i64 0,.int .i64 0] 164)).drewN nq) from qad ((hB0.out.trans (hB1.out.mono Zs)).trans (hBs.mono (wbb hN1))) nq);have hLv:=waa (show Lb ((w1.alloc (.cells #[.int .i64 0,.int .i64 0,.int .i64 0] 164)).drewN nq) W.heap.size zLV from hL1.out.below (qad hBs nq) hN1);generalize ((w1.alloc (.cells #[.int .i64 0,.int .i64 0,.int .i64 0] 164)).drewN nq)=V at hBv hLv ⊢;obtain⟨⟨z0,z1,z2,z3,z4,z5,z6⟩,zf⟩:=(hLv.out.set7 zLV).cells;have hBz:=Lb.below_set7 hBv.out (wab _) zLV;simp only[zLV] at z0 z1 z2 z3 z4 z5 z6 hBz;refine bodyPost_ret (v:= .tuple #[.agg #[.int .i64 0,.int .i64 0,.int .i64 0,.int .i64 0,.int .i64 0,.int .i64 0,.int .i64 0],.bool false]) ?_ rfl ⟨by rw[hno.out];rfl,hBz⟩;simp[results,Tryz.results413,go_sem,z0,z1,z2,z3,z4,z5,z6]
  |some b=>
   have hbm:b∈qbd s l r hs:=wec hfd;have hbx:b.1=(x:Int):=by simpa[pAt] using wdr hfd
   obtain⟨hd,u1,u2,u3,u4,u5,u6,u7,u8,h',hxh,hm,hwd,hk⟩:=qej hbm;have hobO:=waa (show obO s l r hs ws x=obB l hs ws b from by rw[obO,hfd];rfl);have hsp2:=waa (hsp.out _ hB0.out);rw[hfd] at hsp2;obtain⟨b0,b1,b2,b3⟩:=b;obtain⟨k',c',n'⟩:=h';simp only at hbx u1 u2 u3 u4 u5 u6 u7 u8 hxh hwd hk;obtain⟨j,rfl⟩:=waz u1;rw[wam] at hxh;have hjs:j<hs.length:=(wan.1 hxh).1;have hjm:j<ms.length:=by rw[hmsK.out,qcq,if_pos hfK.out,wbr,we5];have:=hhsK.out;omega
   obtain⟨mv,hmv⟩:∃mv,ws.getD (hdAt l j+1) 0=mv:=⟨_,rfl⟩
   have hmj:ms[j]? =some mv:=by
    rw[hmsK.out,qcq,if_pos hfK.out,wa1,wdi (by have:=hhsK.out;omega),wbo,hmv]
   have hmlt:mv<18446744073709551616:=by
    rw[<-hmv,wax];cases hq:ws[hdAt l j+1]? with
    |none=>simp
    |some y=>exact hlt y (waq hq)
   have hxw:x<ws.length:=Zo
   obtain⟨v,hv⟩:∃v,ws[x]? =some v:=⟨_,waj hxw⟩
   have hvlt:v<18446744073709551616:=hlt v (waq hv);have hobB:=waa (show obB l hs ws (b0,(j:Int),b2,b3)=if hasB mv b2=true/\objB v (k',c',n')=true then some (lvOf v (b0,(j:Int),b2,b3)) else none from by
    unfold obB;simp only[wam];rw[hxh];simp only
    rw[hmv,hbx,wam,wax,hv,wa8])
   obtain⟨R,S,N,code,hrd0,hcase⟩:∃R S N code:Int,(∀V:World,Calls Tryz.prog 321 #[.int .u64 (v:Int),.int .i64 c'] V λe w'=>e= .returned (.tuple #[.agg #[.int .i64 R,.int .i64 S,.int .i64 N],.int .i64 code])/\Below V.heap.size V w')/\((code=11/\objB v (k',c',n')=false)\/(code=0/\R=0/\S=0/\N=0/\objB v (k',c',n')=false)\/(code=0/\1<=N/\objB v (k',c',n')=decide (spN N=n')/\fS v=S/\fN v=N)):=by
    by_cases hh:∃r s n,BHit v c' r s n
    ·obtain⟨R,S,N,hit⟩:=hh
     refine⟨R,S,N,0,λV=>(qpp v c' V Zo).mono λe w' ⟨a,b⟩=>⟨a.is hit,b⟩,?_⟩;by_cases hz:qdt R S N=true
     ·obtain⟨rfl,rfl,rfl⟩:=bzero_iff.1 hz
      have hv0:v=0:=by
       rcases hit with ⟨h1,-⟩|⟨h1,-⟩
       ·exact h1
       ·have:=bmay_iff.1 h1;omega
      exact .inr (.inl ⟨rfl,rfl,rfl,rfl,by rw[hv0];exact q15⟩)
     ·have hz':qdt R S N=false:=by simpa using hz
      obtain⟨e1,e2,e3,e4⟩:=q7m (h:=(k',c',n')) hit hz' hm (by rcases hk with hk|hk;exact .inl hk.1;exact .inr hk.1);refine .inr (.inr ⟨rfl,?_,e1,e3,e4⟩);rcases hit with ⟨-,h1⟩|⟨h1,-⟩
      ·rw[hz'] at h1;cases h1
      ·have:=bmay_iff.1 h1;omega
    ·exact⟨0,0,0,11,λV=>(qpp v c' V Zo).mono λe w' ⟨a,b⟩=>⟨a.isno (λr s n h=>hh ⟨r,s,n,h⟩),b⟩,.inl ⟨rfl,q4g (h:=(k',c',n')) (λr s n h=>hh ⟨r,s,n,h⟩)⟩⟩
   have hrd:=waa hrd0;have hcase:=waa hcase;have hmj:=waa hmj;have hvK:=waa hv;have hxhK:=waa hxh;obtain⟨Bh,hBh⟩:∃Bh,Hid (hasB mv b2=Bh):=⟨_,waa rfl⟩
   have hhas:=waa (λ(V:World)=>show Calls Tryz.prog 66 #[.int .u64 (mv:Int),.int .i64 b2] V λe w'=>e= .returned (.bool Bh)/\V=w' from by rw[<-hBh.out];exact qw9 mv b2 V hmlt Zo Zo);have hhm:=waa hm;clear hfd hsp hbm hmv hv hrd0 hxh hk hwd hm hd;go_enter Tryz.func413,Tryz.ntmps413;go_upto_region 5 with (go_at_call 368;refine hsp2.out.mono ?_;rintro e w1 ⟨rfl,hB1⟩;have hB1:=waa hB1;unfold qxh;dsimp only)
   have hBa:=hB0.out.trans (hB1.out.mono Zs);have hBs:=(wac w1.heap.size w1).alloc (wab _) (.cells #[.int .i64 (j:Int),.int .i64 b2,.int .i64 b3] 164);have hL2:=waa ((hL0.out.below hB1.out hL0.out.lt).below hBs (hL0.out.below hB1.out hL0.out.lt).lt);have hC2:=waa ((hK.out.below hBa).below hBs);have hS2:=waa (Sb.new w1 (j:Int) b2 b3);have hB2:=waa (hBa.trans (hBs.mono hBa.size));obtain⟨n9,hn9⟩:∃n9,w1.heap.size=n9:=⟨_,rfl⟩
   have hn9W:W.heap.size<n9:=by rw[<-hn9];exact(hL0.out.below hB1.out hL0.out.lt).lt
   rw[hn9] at hS2 ⊢;clear hn9 hBs hBa;generalize (w1.alloc (.cells #[.int .i64 (j:Int),.int .i64 b2,.int .i64 b3] 164))=W2 at hL2 hC2 hS2 hB2 ⊢;have dw:W2.cell? ⟨bw,0,none⟩=some (.slice A ws.length cap):=by rw[qaa hC2.out.w];rfl
   have dh:W2.cell? ⟨bh,0,none⟩=some (.slice HA hs.length hcap):=by rw[qaa hC2.out.h];rfl
   have dm:W2.cell? ⟨bs,0,none⟩=some (.slice SA ms.length scap):=by rw[qaa hC2.out.m];rfl
   obtain⟨pS,rfl,cS⟩:=qa6 hC2.out.rm hmj.out;obtain⟨s1',s2',s3',s4'⟩:=hS2.out.cells;obtain⟨⟨z0,z1,z2,z3,z4,z5,z6⟩,zf⟩:=hL2.out.cells;simp only[zLV] at z0 z1 z2 z3 z4 z5 z6;have hN2:W.heap.size<W2.heap.size:=hL2.out.lt;go_quiet (first|(go_at_call 66;exact qau (hhas.out _)))
   cases Bh with
   |false=>
    have hno:=waa (show obO s l r hs ws x=none from by rw[hobO.out,hobB.out,if_neg];rw[hBh.out];simp);have hBv:=waa (show Below W.heap.size W (W2.drewN nq) from qad hB2.out nq);have hLv:=waa (show Lb (W2.drewN nq) W.heap.size zLV from hL2.out);go_wp2_with fail;generalize (W2.drewN nq)=V at hBv hLv ⊢;obtain⟨⟨z0,z1,z2,z3,z4,z5,z6⟩,zf⟩:=(hLv.out.set7 zLV).cells;have hBz:=Lb.below_set7 hBv.out (wab _) zLV;simp only[zLV] at z0 z1 z2 z3 z4 z5 z6 hBz;refine bodyPost_ret (v:= .tuple #[.agg #[.int .i64 0,.int .i64 0,.int .i64 0,.int .i64 0,.int .i64 0,.int .i64 0,.int .i64 0],.bool false]) ?_ rfl ⟨by rw[hno.out];rfl,hBz⟩;simp[results,Tryz.results413,go_sem,z0,z1,z2,z3,z4,z5,z6]
   |true=>
    have hD:=qad (wac W2.heap.size W2) nq;have hC3:=waa (hC2.out.below hD);have hS3:=waa (hS2.out.below hD hS2.out.lt);have hL3:=waa (hL2.out.below hD hL2.out.lt);have hB3:=waa (qad hB2.out nq);have hn92:=waa hS2.out.lt;clear dw dh dm cS s1' s2' s3' s4' z0 z1 z2 z3 z4 z5 z6 zf hN2 hD hhas;clear hC2 hS2 hL2 hB2 hn92;generalize W2.drewN nq=W3 at hC3 hS3 hL3 hB3 ⊢;have dw:W3.cell? ⟨bw,0,none⟩=some (.slice A ws.length cap):=by rw[qaa hC3.out.w];rfl
    have dh:W3.cell? ⟨bh,0,none⟩=some (.slice HA hs.length hcap):=by rw[qaa hC3.out.h];rfl
    obtain⟨s1',s2',s3',s4'⟩:=hS3.out.cells;obtain⟨pH,rfl,hpH⟩:=hC3.out.rh.2 Zo;obtain⟨y0,y1,y2⟩:=hpH j _ hxhK.out;clear hpH;have hji:(j:Int)<(hs.length:Int):=Zo
    go_upto_region 8 with fail
    have hHn:=waa (Hd.new W3 k' c' n');have hBs:=(wac W3.heap.size W3).alloc (wab _) (.cells #[.int .i64 k',.int .i64 c',.int .i64 n'] 82);have hC4:=waa (hC3.out.below hBs);have hS4:=waa (hS3.out.below hBs hS3.out.lt);have hL4:=waa (hL3.out.below hBs hL3.out.lt);have hB4:=waa (hB3.out.trans (hBs.mono hB3.out.size));have hW3n:n9<W3.heap.size:=hS3.out.lt;have hW3N:W.heap.size<W3.heap.size:=hL3.out.lt;obtain⟨n11,hn11⟩:∃n11,W3.heap.size=n11:=⟨_,rfl⟩
    rw[hn11] at hHn hW3n hW3N ⊢;clear hC3 hS3 hL3 hB3 hBs dw dh s1' s2' s3' s4' y0 y1 y2 hn11;generalize (W3.alloc (.cells #[.int .i64 k',.int .i64 c',.int .i64 n'] 82))=W4 at hHn hC4 hS4 hL4 hB4 ⊢;have dw:W4.cell? ⟨bw,0,none⟩=some (.slice A ws.length cap):=by rw[qaa hC4.out.w];rfl
    obtain⟨pA,rfl,cA⟩:=qa6 hC4.out.rw_ hvK.out;obtain⟨e0,e1,e2,e3⟩:=hHn.out.cells;go_cut [12,13] from 48 (λs12 s13 wx=>∃n12:Nat,s12= .pointer (some ⟨n12,0,none⟩)/\s13= .int .i64 code/\Hid (W4.heap.size<=n12)/\Hid (Ob wx n12 R S N)/\Hid (Below W4.heap.size W4 wx))
    case first=>
     go_region_held3 (λV=>V.cell? ⟨bw,0,none⟩=some (.slice (some pA) ws.length cap)/\V.cell? (pA.add x)=some (.int .u64 (v:Int))/\V.cell? ⟨n11,1,none⟩=some (.int .i64 c'))
      (first|with_reducible exact⟨dw,cA,e1⟩|with_reducible exact⟨v0,v1,v2⟩|with_reducible exact⟨t0,t1,t2⟩|go_keep)
      (first
       |(go_at_call 321;refine(hrd.out _).mono ?_;rintro e' w4 ⟨rfl,hB5⟩
         have hBx:Below W4.heap.size W4 w4:=((wac W4.heap.size W4).alloc (wab _) (.cells #[.int .i64 0,.int .i64 0,.int .i64 0] 162)).drew.trans (hB5.mono Zs);have hq:=(Ob.new W4 0 0 0).drew.below hB5 Zs;obtain⟨q0,q1,q2,q3⟩:=hq.cells;have v0:=(hBx.cell (wak W4 _ dw)).trans dw;have v1:=(hBx.cell (wak W4 _ cA)).trans cA;have v2:=(hBx.cell (wak W4 _ e1)).trans e1;have hst:Below W4.heap.size w4 (((w4.setCell ⟨W4.heap.size,0,none⟩ (.int .i64 R)).setCell ⟨W4.heap.size,1,none⟩ (.int .i64 S)).setCell ⟨W4.heap.size,2,none⟩ (.int .i64 N)):=(((wac W4.heap.size w4).setCell (p:=⟨W4.heap.size,0,none⟩) (wab _) _).setCell (p:=⟨W4.heap.size,1,none⟩) (wab _) _).setCell (p:=⟨W4.heap.size,2,none⟩) (wab _) _;have t0:=(hst.cell (wak W4 _ dw)).trans v0;have t1:=(hst.cell (wak W4 _ cA)).trans v1;have t2:=(hst.cell (wak W4 _ e1)).trans v2;clear hst;have hBx:=waa hBx;have hq:=waa hq;clear hB5)
       |(go_at_call 321;refine(hrd.out _).mono ?_;rintro e' w4 ⟨rfl,hB5⟩
         have hBx:Below W4.heap.size W4 w4:=(wac W4.heap.size W4).drew.trans hB5;have v0:=(hBx.cell (wak W4 _ dw)).trans dw;have v1:=(hBx.cell (wak W4 _ cA)).trans cA;have v2:=(hBx.cell (wak W4 _ e1)).trans e1;have hBx:=waa hBx;clear hB5))
     all_goals
      go_wp2_with fail;go_meet
      first
       |exact⟨W4.heap.size,rfl,rfl,waa (wab _),waa hq.out.set,waa (Ob.below_set hBx.out (wab _))⟩
       |exact⟨w4.heap.size,rfl,rfl,waa hBx.out.size,waa (Ob.new w4 R S N),waa (hBx.out.alloc hBx.out.size _)⟩
    case rest=>
     obtain⟨n12,rfl,rfl,hn12,hO,hBw⟩:=hcut;have hC5:=waa (hC4.out.below hBw.out);have hS5:=waa (hS4.out.below hBw.out hS4.out.lt);have hH5:=waa (hHn.out.below hBw.out hHn.out.lt);have hL5:=waa (hL4.out.below hBw.out hL4.out.lt);have hB5:=waa (show Below W.heap.size W wc from hB4.out.trans (hBw.out.mono hB4.out.size));have hm12:n11<n12:=by have:=hHn.out.lt;have:=hn12.out;omega
     clear hC4 hS4 hHn hL4 hB4 hBw hn12 dw cA e0 e1 e2 e3;obtain⟨o0,o1,o2,o3⟩:=hO.out.cells;obtain⟨e0,e1,e2,e3⟩:=hH5.out.cells;obtain⟨s1',s2',s3',s4'⟩:=hS5.out.cells;obtain⟨⟨z0,z1,z2,z3,z4,z5,z6⟩,zf⟩:=hL5.out.cells;simp only[zLV] at z0 z1 z2 z3 z4 z5 z6;rcases hcase.out with ⟨rfl,hob⟩|⟨rfl,rfl,rfl,rfl,hob⟩|⟨rfl,hN1,hob,hfs,hfn⟩
     ·have hno:=waa (show obO s l r hs ws x=none from by rw[hobO.out,hobB.out,if_neg];rw[hob];simp)
      clear hcase hob;go_wp2_with fail;go_quiet (fail)
      have hBv:=waa (show Below W.heap.size W (wc.drewN nq) from qad hB5.out nq);have hLv:=waa (show Lb (wc.drewN nq) W.heap.size zLV from hL5.out);go_wp2_with fail;generalize (wc.drewN nq)=V at hBv hLv ⊢;obtain⟨⟨z0,z1,z2,z3,z4,z5,z6⟩,zf⟩:=(hLv.out.set7 zLV).cells;have hBz:=Lb.below_set7 hBv.out (wab _) zLV;simp only[zLV] at z0 z1 z2 z3 z4 z5 z6 hBz;refine bodyPost_ret (v:= .tuple #[.agg #[.int .i64 0,.int .i64 0,.int .i64 0,.int .i64 0,.int .i64 0,.int .i64 0,.int .i64 0],.bool false]) ?_ rfl ⟨by rw[hno.out];rfl,hBz⟩;simp[results,Tryz.results413,go_sem,z0,z1,z2,z3,z4,z5,z6]
     ·have hno:=waa (show obO s l r hs ws x=none from by rw[hobO.out,hobB.out,if_neg];rw[hob];simp)
      clear hcase hob;go_wp2_with fail;go_quiet (fail)
      have hBv:=waa (show Below W.heap.size W (wc.drewN nq) from qad hB5.out nq);have hLv:=waa (show Lb (wc.drewN nq) W.heap.size zLV from hL5.out);go_wp2_with fail;generalize (wc.drewN nq)=V at hBv hLv ⊢;obtain⟨⟨z0,z1,z2,z3,z4,z5,z6⟩,zf⟩:=(hLv.out.set7 zLV).cells;have hBz:=Lb.below_set7 hBv.out (wab _) zLV;simp only[zLV] at z0 z1 z2 z3 z4 z5 z6 hBz;refine bodyPost_ret (v:= .tuple #[.agg #[.int .i64 0,.int .i64 0,.int .i64 0,.int .i64 0,.int .i64 0,.int .i64 0,.int .i64 0],.bool false]) ?_ rfl ⟨by rw[hno.out];rfl,hBz⟩;simp[results,Tryz.results413,go_sem,z0,z1,z2,z3,z4,z5,z6]
     ·have hN0:¬N=0:=Zo
      have hN0':¬0=N:=Zo
      clear hcase;obtain⟨zs,hzs⟩:∃zs,Hid (spN N=zs):=⟨_,waa rfl⟩
      have hspn:=waa (λV=>show Calls Tryz.prog 183 #[.int .i64 N] V λe w'=>e= .returned (.int .i64 zs)/\V=w' from by rw[<-hzs.out];exact qxt N V);by_cases hspk:zs=n'
      ·subst hspk
       have hyes:=waa (show obO s l r hs ws x=some (lvOf v (b0,(j:Int),b2,b3)) from by rw[hobO.out,hobB.out,if_pos];exact⟨hBh.out,by rw[hob];simp[hzs.out]⟩);have hres:=waa (show Ending.returned (.tuple #[.agg #[.int .i64 (x:Int),.int .i64 0,.int .i64 S,.int .i64 N,.int .i64 (j:Int),.int .i64 b2,.int .i64 b3],.bool true])=qyp (obO s l r hs ws x) from by
        rw[hyes.out];unfold qyp lvOf;simp only
        rw[hbx,hfs,hfn])
       have hbxK:=waa hbx;clear hob hyes hfs hfn hbx;go_wp2_with fail;go_quiet (first|(go_at_call 183;exact qau (hspn.out _)))
       have hN12:W.heap.size<n12:=Zo
       have hBv:=waa (show Below W.heap.size W ((wc.drewN nq).setCell ⟨n12,0,none⟩ (.int .i64 0)) from(qad hB5.out nq).setCell (p:=⟨n12,0,none⟩) Zx _);have hLv:=waa (show Lb ((wc.drewN nq).setCell ⟨n12,0,none⟩ (.int .i64 0)) W.heap.size zLV from(wat _ _ _ _ Zx).trans hL5.out);go_wp2_with fail;generalize ((wc.drewN nq).setCell ⟨n12,0,none⟩ (.int .i64 0))=V at hBv hLv ⊢;obtain⟨⟨w0,w1',w2,w3,w4,w5,w6⟩,wf⟩:=(hLv.out.set7 ⟨(x:Int),0,S,N,(j:Int),b2,b3⟩).cells;have hBz:=Lb.below_set7 hBv.out (wab _) ⟨(x:Int),0,S,N,(j:Int),b2,b3⟩;simp only at w0 w1' w2 w3 w4 w5 w6 hBz;refine bodyPost_ret (v:= .tuple #[.agg #[.int .i64 (x:Int),.int .i64 0,.int .i64 S,.int .i64 N,.int .i64 (j:Int),.int .i64 b2,.int .i64 b3],.bool true]) ?_ rfl ⟨hres.out,hBz⟩;simp[results,Tryz.results413,go_sem,w0,w1',w2,w3,w4,w5,w6]
      ·have hno:=waa (show obO s l r hs ws x=none from by rw[hobO.out,hobB.out,if_neg];rw[hob,hzs.out];simp[hspk])
       clear hob;go_wp2_with fail;go_quiet (first|(go_at_call 183;exact qau (hspn.out _)))
       have hBv:=waa (show Below W.heap.size W (wc.drewN nq) from qad hB5.out nq);have hLv:=waa (show Lb (wc.drewN nq) W.heap.size zLV from hL5.out);go_wp2_with fail;generalize (wc.drewN nq)=V at hBv hLv ⊢;obtain⟨⟨z0,z1,z2,z3,z4,z5,z6⟩,zf⟩:=(hLv.out.set7 zLV).cells;have hBz:=Lb.below_set7 hBv.out (wab _) zLV;simp only[zLV] at z0 z1 z2 z3 z4 z5 z6 hBz;refine bodyPost_ret (v:= .tuple #[.agg #[.int .i64 0,.int .i64 0,.int .i64 0,.int .i64 0,.int .i64 0,.int .i64 0,.int .i64 0],.bool false]) ?_ rfl ⟨by rw[hno.out];rfl,hBz⟩;simp[results,Tryz.results413,go_sem,z0,z1,z2,z3,z4,z5,z6]
theorem q5c(A:Option Addr)(cap:Nat)(ws:List Nat)(s l r:Int)(HA:Option Addr)(hcap:Nat)(hs:List HD)(W:World)(hr:Rd W A ws.length (u64V ws))(hH:HdsRd W HA hs.length hs)(hn:ws.length<=9223372036854775807)(hlt:∀y∈ws,y<18446744073709551616):
  Calls Tryz.prog 382 #[.agg #[.int .i64 s,.int .i64 l,.int .i64 r],.slice HA hs.length hcap,.slice A ws.length cap] W λe w'=>∃(bw bg bh bs:Nat) (SA:Option Addr) (scap:Nat),e= .returned (.func (.func 413) #[] #[.pointer (some ⟨bw,0,none⟩),.pointer (some ⟨bg,0,none⟩),.pointer (some ⟨bh,0,none⟩),.pointer (some ⟨bs,0,none⟩)])/\Cpt w' bw bg bh bs A cap ws s l r HA hcap hs SA scap (qcq s l r ws)/\Below W.heap.size W w':=by
 have hmf:∀(fn:Fn) (first cp:Array Value) (w:World),(Instr.makeFunc fn first cp).run Tryz.prog w= .ok (.func fn first cp) w:=λ_ _ _ _=>rfl
 obtain⟨W1,hW1⟩:∃W1,((W.alloc (.cells #[.int .i64 s,.int .i64 l,.int .i64 r] 23)).alloc (.cells #[.slice HA hs.length hcap] 75)).alloc (.cells #[.slice A ws.length cap] 40)=W1:=⟨_,rfl⟩
 have hB1:Below W.heap.size W W1:=by rw[<-hW1];exact(((wac _ W).alloc (wab _) _).alloc Zs _).alloc Zx _
 have hg:Gm W1 W.heap.size s l r:=by rw[<-hW1];exact qag (qag (qan rfl _ _) _) _
 have hh:W1.heap[W.heap.size+1]? =some (.cells #[.slice HA hs.length hcap] 75 (0,0)):=by rw[<-hW1];exact qag (qan Zs _ _) _
 have hw:W1.heap[W.heap.size+1+1]? =some (.cells #[.slice A ws.length cap] 40 (0,0)):=by rw[<-hW1];exact qan Zs _ _
 have hsz:W1.heap.size=W.heap.size+1+1+1:=by rw[<-hW1];simp
 obtain⟨g0,g1,g2,g3⟩:=hg.cells;have cw:W1.cell? ⟨W.heap.size+1+1,0,none⟩=some (.slice A ws.length cap):=by rw[qaa hw];rfl
 have hmp:=waa (qoz s l r A cap ws W1 (hr.below hB1) hn hlt);have hB1K:=waa hB1;have hgK:=waa hg;have hhK:=waa hh;have hwK:=waa hw;have hszK:=waa hsz;have hrK:=waa hr;have hHK:=waa hH;clear hB1 hg hh hw hsz hr hH;go_enter Tryz.func382,Tryz.ntmps382;go_upto_region 1 with fail
 clear hW1;go_wp2_with (go_at_call 55;refine hmp.out.mono ?_;rintro e w1 ⟨v,rfl,hrow,hB⟩;obtain⟨SA,scap,rfl,hrd⟩:=Rd.of_own hrow;have hrd:=waa hrd;have hB:=waa hB;clear hrow)
 go_ret;have hs1:=hszK.out;have hBo:=(wac w1.heap.size w1).alloc (wab _) (.cells #[.slice SA (qcq s l r ws).length scap] 40);have hB2:Below W1.heap.size W1 (w1.alloc (.cells #[.slice SA (qcq s l r ws).length scap] 40)):=hB.out.trans (hBo.mono hB.out.size);have hB3:=hB1K.out.trans (hB2.mono hB1K.out.size);exact⟨_,_,_,_,SA,scap,rfl,⟨(hB2.block _ Zo).trans hwK.out,hgK.out.below hB2 Zo,(hB2.block _ Zo).trans hhK.out,World.alloc_heap_new w1 _,hrK.out.below hB3,hHK.out.below hB3,hrd.out.below hBo⟩,hB3⟩
end Go.Proofs.YtocncmbeinmiaaaGreat
namespace Go.Proofs.YtocncmbeinmiaaaGreat
open Go Go.RowKit Go.Shelf
attribute [local go_sem] wcy
theorem q6a:(Tryz.prog.info? 3).map (λi=>(i.zero,i.size,i.bytes))=some (some (.int .i64 0),1,8):=by kernel_rfl
end Go.Proofs.YtocncmbeinmiaaaGreat
namespace Go.Proofs.YtocncmbeinmiaaaGreat
open Go Go.RowKit
def OffRow(w:World)(base:Nat)(v:Value)(L:List Int):Prop:=(v= .slice none 0 0/\L=[])\/∃g off cap cur,v= .slice (some ⟨g,off,none⟩) L.length cap/\base<=g/\w.heap[g]? =some (.cells cur 3 (0,0))/\L.length<=cap/\off+cap<=cur.size/\∀j x,L[j]? =some x->cur[off+j]? =some (.int .i64 x)
theorem OffRow.kept{w w':World}{base:Nat}{v:Value}{L:List Int}{row:Option Nat}(h:OffRow w base v L)(hg:w.grownBy w' row)(hne:∀g,v.ownBlock=some g->row≠some g):OffRow w' base v L:=by
 rcases h with ⟨rfl,rfl⟩|⟨g,off,cap,cur,rfl,hb,hh,r⟩
 ·exact .inl ⟨rfl,rfl⟩
 ·exact .inr ⟨g,off,cap,cur,rfl,hb,(hg.block g (wal.1 hh).1 (λe=>hne g rfl e.symm)).trans hh,r⟩
theorem OffRow.shape{w:World}{base:Nat}{v:Value}{L:List Int}(h:OffRow w base v L):∃A n c,v= .slice A n c:=by
 rcases h with ⟨rfl,-⟩|⟨g,off,cap,cur,rfl,-⟩
 ·exact⟨_,_,_,rfl⟩
 ·exact⟨_,_,_,rfl⟩
theorem OffRow.alloc{w:World}{base:Nat}{v:Value}{L:List Int}(h:OffRow w base v L)(o:Obj):OffRow (w.alloc o) base v L:=h.kept (World.grownBy_alloc w o none) (λg _=>by simp)
theorem qop{w:World}{base:Nat}{v:Value}{L:List Int}(ty:TypeId)(h:OffRow w base v L)(a:Addr)(c:Nat)(x:Int)(hnew:w.cell? a=some (.int .i64 x))(hL:L.length+1<=1099511627776)(hbase:base<=w.heap.size):
  ∃v' w',(Builtin.append_ #[65,65] ty #[v,.slice (some a) 1 c]).run Tryz.prog w= .ok v' w'/\OffRow w' base v' (L++[x])/\w.grownBy w' (v.ownBlock):=by
 obtain⟨i,hi,hz,hsz,hby⟩:=info_parts q6a;have hnews:∀j u,[Value.int .i64 x][j]? =some u->w.cell? (a.add j)=some u:=by
  intro j u hu;cases j with
  |zero=>
   obtain rfl:Value.int .i64 x=u:=by simpa using hu
   rw[show a.add 0=a by simp[Addr.add]];exact hnew
  |succ j=>simp at hu
 rcases h with ⟨rfl,rfl⟩|⟨g,off,cap,cur,rfl,hb,hh,hlc,hcs,hcur⟩
 ·have hr:=run_append_nil (P:=Tryz.prog) w 65 ty 3 i _ wbs hi hz a 1 c [.int .i64 x] (by simp[hsz]) hnews Zo Zo (by rw[hby];omega)
  refine⟨_,_,hr,.inr ⟨w.heap.size,0,_,_,rfl,hbase,heap_alloc_new w.drew _,?_,?_,?_⟩,⟨rfl,rfl,rfl,by simp,λk hk _=>wbv w.drew _ k hk⟩⟩
  ·have:=grownCap_ge w 1 0 3
   simpa using this
  ·have:=grownCap_ge w 1 0 3
   simp only[wf3,wbj,size_zeroCells,way,wbq];show _<=1+_*1
   omega
  ·intro j y hy
   cases j with
   |zero=>
    obtain rfl:x=y:=by simpa using hy
    rw[wf4 Zs];rfl
   |succ j=>simp at hy
 ·by_cases hroom:L.length+1<=cap
  ·have hf:=run_firstCells_some (P:=Tryz.prog) w i.size 1 a 1 c [.int .i64 x] (by simp[hsz]) hnews
   have hst:=run_storeCells_at Tryz.prog g (off+L.length) 3 [.int .i64 x] 0 cur w hh Zx (by simp[Value.oneCell']);rw[hsz] at hf;simp only[wdf] at hst;refine⟨.slice (some ⟨g,off,none⟩) (L.length+1) cap,w.setRow g (cur.toList.take (off+L.length)++[Value.int .i64 x]++cur.toList.drop (off+L.length+[Value.int .i64 x].length)).toArray,?_,.inr ⟨g,off,cap,_,by simp,hb,setRow_heap w g cur _ 3 _ hh,by simpa using hroom,?_,?_⟩,⟨rfl,rfl,rfl,by simp,λk _ hk=>setRow_other w g k _ (λe=>hk (by simp[Value.ownBlock,e]))⟩⟩
   ·simp[Builtin.append_,run_underlying Tryz.underlying65,sizeOf,typeInfo,hi,Builtin.lenOf,hroom,hf,hsz,Addr.add_lit,hst]
   ·simp only[wbj,was,war,wbu,wdt,way,wbq]
    omega
   ·intro j y hy
    have hjl:j<L.length+1:=by have:=(wan.1 hy).1;simpa using this
    rw[wcs,wbm];by_cases hj:j<L.length
    ·rw[wbk Zx,wbf Zo,wb9]
     refine hcur j y ?_;rw[<-hy,wbk hj]
    ·obtain rfl:j=L.length:=Zo
     obtain rfl:x=y:=by simpa using hy
     rw[wbt Zx];have e1:(cur.toList.take (off+L.length)).length=off+L.length:=by simp;omega
     rw[e1,wcw];rfl
  ·have holds:∀j u,(i64V L)[j]? =some u->w.cell? ((⟨g,off,none⟩:Addr).add j)=some u:=by
    intro j u hu;rw[wb5,qaa hh];simp only[i64V,wa1,wcz] at hu;obtain⟨y,hy,rfl⟩:=hu;exact hcur j y hy
   have hlL:(i64V L).length=L.length:=by simp[i64V]
   have hr:=run_append_grow (P:=Tryz.prog) w 65 ty 3 i _ wbs hi hz ⟨g,off,none⟩ L.length cap (i64V L) (by rw[hlL,hsz];omega) holds a 1 c [.int .i64 x] (by simp[hsz]) hnews Zo Zo (growslice_fits Zo (by rw[hby];omega));refine⟨_,_,hr,.inr ⟨w.heap.size,0,grownCap w (L.length+1) cap 3,_,by simp,hbase,heap_alloc_new w.drew _,?_,?_,?_⟩,⟨rfl,rfl,rfl,by simp,λk hk _=>wbv w.drew _ k hk⟩⟩
   ·have:=grownCap_ge w (L.length+1) cap 3
    simpa using this
   ·have:=grownCap_ge w (L.length+1) cap 3
    simp only[wf3,wbj,size_zeroCells,way,wbq,hlL];show _<=L.length+1+_*1
    omega
   ·intro j y hy
    rw[wa4];have e2:(i64V (L++[x]))[j]? =some (.int .i64 y):=by simp only[i64V,wa1,hy,wbo]
    have e3:i64V (L++[x])=i64V L++[.int .i64 x]:=by simp[i64V]
    rw[e3] at e2;have hjl:=(wan.1 e2).1;rw[wf4 (by simpa using hjl)];rw[<-e2];simp
theorem qlc{ops:Array Oper}{w:World}{rest:List Oper}{o:Oper}{a:Act}{Q:Exit->Act->World->Prop}(hgd:o.guard=none)(s x:Operand)(ho:o.op= .call {callee:= .builtin .append,args:=#[s,x],argTypes:=#[65,65]})(base:Nat)(v:Value)(L:List Int)(hs:a.eval s=v)(hown:OffRow w base v L)(ad:Addr)(c:Nat)(y:Int)(hx:a.eval x= .slice (some ad) 1 c)(hnew:w.cell? ad=some (.int .i64 y))(hL:L.length+1<=1099511627776)(hbase:base<=w.heap.size)(h:∀v' w',OffRow w' base v' (L++[y])->w.grownBy w' v.ownBlock->wpList Tryz.prog ops Q rest (a.put o.dst v') w'):
  wpList Tryz.prog ops Q (o::rest) a w:=by
 refine wpList_plain hgd λK hK=>?_
 obtain⟨v',w',hr,h2,h3⟩:=qop o.type hown ad c y hnew hL hbase;unfold Oper.wp execOp;simp only[ho,resolve,invoke,builtin,wfb,Sem.run_pure,wgq,List.map_toArray,wc5,List.map_nil,hs,hx,hr];exact hK _ _ (h v' w' h2 h3)
def Plc(W:World)(bp:Nat)(L:List Int):Prop:=∃v,W.heap[bp]? =some (.cells #[v] 65 (0,0))/\OffRow W (bp+1) v L
def KeepT(bp:Nat)(W W':World):Prop:=∀k o,W.heap[k]? =some o->k≠bp->(∀cur,o≠ .cells cur 3 (0,0))->W'.heap[k]? =some o
theorem Plc.lt{W:World}{bp:Nat}{L:List Int}(h:Plc W bp L):bp<W.heap.size:=by
 obtain⟨v,hb,-⟩:=h;exact(wal.1 hb).1
theorem Plc.below{W W':World}{bp:Nat}{L:List Int}(h:Plc W bp L)(hb:Below W.heap.size W W'):Plc W' bp L:=by
 obtain⟨v,h1,h2⟩:=h;exact⟨v,(hb.block bp (wal.1 h1).1).trans h1,h2.kept (row:=none) ⟨hb.os,hb.tape,hb.output,hb.size,λk hk _=>hb.block k hk⟩ (λg _=>by simp)⟩
theorem Plc.new{W:World}:Plc (W.alloc (.cells #[.slice none 0 0] 65)) W.heap.size []:=⟨_,World.alloc_heap_new W _,.inl ⟨rfl,rfl⟩⟩
theorem qlh{W:World}{v:Value}{C:Array Value}{t:TypeId}{fr:Nat×Nat}{k:Nat}{base:Nat}{L:List Int}(hk:W.heap[k]? =some (.cells C t fr))(hte:t≠3)(h:OffRow W base v L):v.ownBlock≠some k:=by
 rcases h with ⟨rfl,-⟩|⟨g,off,cap,cur,rfl,hb,hh,-⟩
 ·simp[Value.ownBlock]
 ·intro e
  obtain rfl:g=k:=by simpa[Value.ownBlock] using e
  rw[hk] at hh;injection hh with hh;injection hh with _ h2 _;exact hte h2
theorem Plc.head{W:World}{bp:Nat}{x:Int}{L:List Int}(h:Plc W bp (x::L)):∃g off cap,bp+1<=g/\W.heap[bp]? =some (.cells #[.slice (some ⟨g,off,none⟩) (L.length+1) cap] 65 (0,0))/\W.cell? ⟨g,off,none⟩=some (.int .i64 x)/\L.length+1<=cap/\
  ∀V,V.heap[g]? =W.heap[g]?->OffRow V (bp+1) (.slice (if cap=1 then some ⟨g,off,none⟩ else some ⟨g,off+1,none⟩) L.length (cap - 1)) L:=by
 obtain⟨v,h1,h2⟩:=h;rcases h2 with ⟨-,h0⟩|⟨g,off,cap,cur,rfl,hb,hh,hl,hcs,hcur⟩
 ·cases h0
 ·rw[way] at hl h1
  refine⟨g,off,cap,hb,h1,?_,hl,λV hV=>?_⟩
  ·rw[qaa hh]
   exact hcur 0 x rfl
  ·by_cases h1c:cap=1
   ·have hL0:L=[]:=wdu Zo
    subst hL0;rw[if_pos h1c];exact .inr ⟨g,off,cap - 1,cur,rfl,hb,hV.trans hh,by simp,Zo,λj y hy=>by simp at hy⟩
   ·rw[if_neg h1c]
    refine .inr ⟨g,off+1,cap - 1,cur,rfl,hb,hV.trans hh,Zo,Zo,λj y hy=>?_⟩;have:=hcur (j+1) y (by simpa using hy)
    rwa [show off+(j+1)=off+1+j by omega] at this
theorem qpr(bp:Nat)(L:List Int)(x:Int)(W:World)(h:Plc W bp L)(hL:L.length+1<=1099511627776):
  Calls Tryz.prog 383 #[.int .i64 x,.pointer (some ⟨bp,0,none⟩)] W λe w'=>e= .returned (.tuple #[])/\Plc w' bp (L++[x])/\KeepT bp W w'/\Below bp W w':=by
 obtain⟨v,h1,h2⟩:=h;have hbp:bp<W.heap.size:=(wal.1 h1).1;have c0:W.cell? ⟨bp,0,none⟩=some v:=by rw[qaa h1];rfl
 have f0:=qaj h1 0;have h1K:=waa h1;have h2K:=waa h2;clear h1 h2;go_enter Tryz.func383,Tryz.ntmps383;have hal:=waa (h2K.out.alloc (.cells #[.int .i64 x] 3));have hcx:=waa (show(W.alloc (.cells #[.int .i64 x] 3)).cell? ⟨W.heap.size,0,none⟩=some (.int .i64 x) from by simp);have hsz:=waa (show bp+1<=(W.alloc (.cells #[.int .i64 x] 3)).heap.size from by simp;omega);have hkeep:=waa (λ(w1:World) (hg:(W.alloc (.cells #[.int .i64 x] 3)).grownBy w1 v.ownBlock)=>show w1.heap[bp]? =some (.cells #[v] 65 (0,0)) from(hg.block bp Zx (λe=>qlh h1K.out Zd h2K.out e.symm)).trans ((wbv _ _ bp hbp).trans h1K.out));go_wp2_with (at_builtin;go_loud (refine qlc rfl _ _ rfl (bp+1) v L rfl hal.out ⟨W.heap.size,0,none⟩ 1 x rfl hcx.out hL hsz.out ?_;intro v' w1 hown' hgrow;obtain⟨A',n',c',rfl⟩:=hown'.shape;have hb1:=hkeep.out w1 hgrow;have c1:w1.cell? ⟨bp,0,none⟩=some v:=(qaa hb1 0).trans rfl;have f1:=qaj hb1 0;have hown':=waa hown';have hgrow:=waa hgrow;have hb1:=waa hb1))
 go_end0
 have hst:w1.grownBy (w1.setCell ⟨bp,0,none⟩ (.slice A' n' c')) (some bp):=qbb w1 ⟨bp,0,none⟩ _;have hw1:=hgrow.out.size;have hvb:∀j,v.ownBlock=some j->bp+1<=j:=by
  intro j hj;rcases h2K.out with ⟨rfl,-⟩|⟨g,off,cap,cur,rfl,hb,hh,-⟩
  ·simp[Value.ownBlock] at hj
  ·obtain rfl:g=j:=by simpa[Value.ownBlock] using hj
   exact hb
 refine⟨rfl,⟨_,qah hb1.out 0 _,hown'.out.kept hst (λg hg=>?_)⟩,λk o ho hne hc=>?_,?_⟩
 ·intro e
  obtain rfl:bp=g:=by simpa using e
  exact qlh hb1.out Zd hown'.out hg
 ·have hk:=(wal.1 ho).1
  refine(wat _ _ _ _ hne).trans ((hgrow.out.block k Zx (λe=>?_)).trans ((wbv _ _ k hk).trans ho));rcases h2K.out with ⟨rfl,-⟩|⟨g,off,cap,cur,rfl,hb,hh,-⟩
  ·simp[Value.ownBlock] at e
  ·obtain rfl:k=g:=by simpa[Value.ownBlock] using e
   rw[ho] at hh;exact hc cur (by injection hh)
 ·exact((((wac bp W).alloc Zo _).grown hgrow.out Zx (λj hj=>by have:=hvb j hj;omega))).setCell (p:=⟨bp,0,none⟩) (wab _) _
end Go.Proofs.YtocncmbeinmiaaaGreat
