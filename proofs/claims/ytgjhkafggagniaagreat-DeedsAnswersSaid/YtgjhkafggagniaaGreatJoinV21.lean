/- Parts. No condition. -/
import Derived.RangeFuncNested
import Derived.RangeFuncBound
import Derived.RangeFuncCalls
import Derived.RangeFuncLeaves
import Derived.Shelf.RegionOpen
import Derived.OwnWalkIn
import Derived.TacticsInMore
import Derived.LoopNIn
import Derived.LoopIn
import Derived.Laws.EntriesVeiled
import Derived.Test.YtgjhkafggagniaaGreatJoinV20
set_option linter.unusedVariables false
set_option maxRecDepth 100000
set_option maxHeartbeats 8000000
namespace Go.Proofs.YtgjhkafggagniaaGreat
open Go Go.RowKit
theorem q02(w:World)(A:Option Addr):HdsRd w A 0 []:=⟨rfl,λh=>absurd h Zo⟩
theorem qtv(p:Addr)(j i:Nat):(p.add (j*3)).add (i*3)=p.add ((j+i)*3):=by
 unfold Addr.add;by_cases h1:j=0
 ·subst h1;simp
 ·by_cases h2:i=0
  ·subst h2;simp
  ·rw[if_neg Zo,if_neg Zo,if_neg Zo]
   simp only[Addr.mk.injEq,true_and,and_true];omega
theorem qzy{w:World}{p:Addr}{n j q:Nat}{hs:List HD}(h:HdsRd w (some p) n hs)(hq:j+q<=n):HdsRd w (some (p.add (j*3))) q ((hs.drop j).take q):=by
 refine⟨by rw[war,wc2,h.1];omega,λhq0=>⟨_,rfl,λi x hx=>?_⟩⟩;obtain⟨p',e,hp⟩:=h.2 Zo;obtain rfl:p=p':=by injection e
 have hi:i<q:=by have:=(was.1 hx).1;rw[war] at this;omega
 rw[wde hi,wa3] at hx;rw[qtv];exact hp (j+i) x hx
theorem qn8(i:Int)(A:Option Addr)(cap:Nat)(hs:List HD)(B:Nat)(w:World)(hb:Boxed w B 90 (.slice A hs.length cap))(h:HdsRd w A hs.length hs)(hm:∀x∈hs,hdB x=true)(hc:hs.length<=cap)(hn:hs.length<=9223372036854775800):
  Calls Tryz.prog 289 #[.int .i64 i,.pointer (some ⟨B,0,none⟩)] w λe w'=>e= .returned (.bool (whoI hs i))/\Below w.heap.size w w':=by
 have hbc:=hb.cell;by_cases hi0:i<0
 ·have e:=waa (qph (hs:=hs) (.inl hi0))
  go_enter wcv,wcw;go_wp2_with fail;go_ret;exact⟨qae e.out.symm,wai _ _⟩
 ·obtain⟨j,rfl⟩:=waq (show 0<=i by omega)
  by_cases hj:j<hs.length
  ·rw[qmx]
   obtain⟨p,k,c,n,rfl,hd,hmem,h0,h1,h2⟩:=h.at_ hj;have hmk:=hm _ hmem;have hB1:=qas w k c n;have hg:=Hd.new w k c n;by_cases k1:k=1
   ·subst k1
    have e:=waa (qru hd rfl);clear hd hmem hmk;go_enter wcv,wcw;go_wp2_with fail;generalize (w.alloc (.cells #[.int .i64 1,.int .i64 c,.int .i64 n] 134))=W1 at hB1 hg ⊢;obtain⟨c0,c1,c2,f⟩:=hg.cells;go_wp2_with fail;go_ret;exact⟨qae e.out.symm,hB1⟩
   ·have ek1:(k==1)=false:=beq_eq_false_iff_ne.2 k1
    by_cases k2:k=2
    ·subst k2
     have hl:=qxi hmk rfl;obtain⟨-,-,n0,n1⟩:=hl;have n0':1<=n:=n0;have n1':n<=4:=n1;obtain⟨m,rfl⟩:=waq (show 0<=n by omega);obtain⟨q,hq,hq2⟩:∃q,(q=m\/(q=(hs.drop (j+1)).length+1/\q<=m))/\j+q=min (j+m) hs.length:=by
      rw[wc2];by_cases hx:j+m<=hs.length
      ·exact⟨m,.inl rfl,Zo⟩
      ·exact⟨hs.length - (j+1)+1,.inr ⟨rfl,Zo⟩,Zo⟩
     have ht:=qye (h:=(2,c,(m:Int))) (t:=hs.drop (j+1)) Zo hq;rw[<-hd] at ht;have hsub:=qzy h (show j+q<=hs.length by omega);rw[ht] at hsub;have hlen:(((2,c,(m:Int)):HD)::(hs.drop (j+1)).take (m - 1)).length=q:=hsub.1;have hrun:=λ(V:World) (hV:Below w.heap.size w V)=>q0l (some (p.add (j*3))) (cap - j) (((2,c,(m:Int)):HD)::(hs.drop (j+1)).take (m - 1)) V (by rw[hlen];exact hsub.below hV) (by rw[hlen];omega)
     rw[hlen,qzx rfl rfl Zo,<-qpt hd rfl] at hrun;have hrun':=waa hrun;have kj:IntKind.i64.wrap ((j:Int)+(m:Int))=(j:Int)+(m:Int):=wap _ Zo;have hbc2:=(hb.alloc (.cells #[.int .i64 2,.int .i64 c,.int .i64 (m:Int)] 134)).cell;have hcj:¬cap=j:=Zo
     have hqj:j+q - j=q:=Zo
     clear hd hmem hmk ht hsub hlen hrun hq;by_cases hx:hs.length<j+m
     ·have hx1:(hs.length:Int)<(j:Int)+(m:Int):=Zo
      have hmn:min ((j:Int)+(m:Int)) (hs.length:Int)=(hs.length:Int):=Zo
      have hq3:hs.length - j=q:=Zo
      have hq4:(hs.length:Int).toNat - j=q:=Zo
      clear hq2;go_enter wcv,wcw;go_wp2_with fail;generalize (w.alloc (.cells #[.int .i64 2,.int .i64 c,.int .i64 (m:Int)] 134))=W1 at hB1 hg hbc2 ⊢;obtain⟨c0,c1,c2,f⟩:=hg.cells;go_wp2_with fail;refine(hrun'.out _ hB1).mono ?_;rintro e w2 ⟨rfl,hC⟩;go_wp2_with fail;go_ret;exact⟨rfl,hB1.trans (hC.mono hB1.size)⟩
     ·have hx1:¬(hs.length:Int)<(j:Int)+(m:Int):=Zo
      have hmn:min ((j:Int)+(m:Int)) (hs.length:Int)=(j:Int)+(m:Int):=Zo
      have hq3:((j:Int)+(m:Int)).toNat - j=q:=Zo
      have hq4:j+m - j=q:=Zo
      have hq5:(j:Int)+(m:Int)<=(cap:Int):=Zo
      clear hq2;go_enter wcv,wcw;go_wp2_with fail;generalize (w.alloc (.cells #[.int .i64 2,.int .i64 c,.int .i64 (m:Int)] 134))=W1 at hB1 hg hbc2 ⊢;obtain⟨c0,c1,c2,f⟩:=hg.cells;go_wp2_with fail;refine(hrun'.out _ hB1).mono ?_;rintro e w2 ⟨rfl,hC⟩;go_wp2_with fail;go_ret;exact⟨rfl,hB1.trans (hC.mono hB1.size)⟩
    ·have ek2:(k==2)=false:=beq_eq_false_iff_ne.2 k2
     have e:=waa (qui hd k1 k2);clear hd hmem hmk;go_enter wcv,wcw;go_wp2_with fail;generalize (w.alloc (.cells #[.int .i64 k,.int .i64 c,.int .i64 n] 134))=W1 at hB1 hg ⊢;obtain⟨c0,c1,c2,f⟩:=hg.cells;go_wp2_with fail;go_ret;exact⟨qae e.out.symm,hB1⟩
  ·have e:=waa (qph (hs:=hs) (i:=(j:Int)) (.inr Zo))
   have hj2:(hs.length:Int)<=(j:Int):=Zo
   go_enter wcv,wcw;go_wp2_with fail;go_ret;exact⟨qae e.out.symm,wai _ _⟩
end Go.Proofs.YtgjhkafggagniaaGreat
namespace Go.Proofs.YtgjhkafggagniaaGreat
open Go Go.RowKit Go.Shelf
attribute [local go_sem] we5
def Cap(W:World)(bh bi bg bw:Nat)(s l r:Int)(v:Value):Prop:=
 Boxed W bh 90 v/\Boxed W bi 98 (.func (.func 289) #[] #[.pointer (some ⟨bw,0,none⟩)])/\Gm W bg s l r/\Boxed W bw 90 v
theorem Cap.below{W W':World}{bh bi bg bw:Nat}{s l r:Int}{v:Value}(h:Cap W bh bi bg bw s l r v)(hB:Below W.heap.size W W'):Cap W' bh bi bg bw s l r v:=
 ⟨(hB.block _ h.1.lt).trans h.1,(hB.block _ h.2.1.lt).trans h.2.1,(hB.block _ h.2.2.1.lt).trans h.2.2.1,(hB.block _ h.2.2.2.lt).trans h.2.2.2⟩
def qdr(n0:Nat)(bh bi bg bw:Nat)(s l r:Int)(v:Value)(W W':World):Prop:=(Cap W bh bi bg bw s l r v->Cap W' bh bi bg bw s l r v)/\Below n0 W W'
theorem qu8{n0 bh bi bg bw:Nat}{s l r:Int}{v:Value}:∀{X Y Z:World},qdr n0 bh bi bg bw s l r v X Y->qdr n0 bh bi bg bw s l r v Y Z->qdr n0 bh bi bg bw s l r v X Z:=λh k=>⟨λx=>k.1 (h.1 x),h.2.trans k.2⟩
theorem qbw{W:World}{B l:Nat}{o o':Obj}{C:Array Value}{t:TypeId}{fr:Nat×Nat}(h:W.heap[B]? =some (.cells C t fr))(hl:W.heap[l]? =some o)(ho:o.isCells=false):(W.putObj l o').heap[B]? =some (.cells C t fr):=by
 refine(World.putObj_heap_other (λe=>?_)).trans h;subst e;rw[h] at hl;cases hl
 cases ho
theorem qvk{n0 bh bi bg bw D:Nat}{s l r:Int}{v:Value}(hn:n0<=D)(W:World)(k:Nat)(o o':Obj)(hk:D<=k)(hl:W.heap[k]? =some o)(ho:o.isCells=false)(_:o.isWalk=false):qdr n0 bh bi bg bw s l r v W (W.putObj k o'):=
 ⟨λh=>⟨qbw h.1 hl ho,qbw h.2.1 hl ho,qbw h.2.2.1 hl ho,qbw h.2.2.2 hl ho⟩,
  (wai n0 W).grown (grownBy_putObj' W k o') (by have:=(waj.1 hl).1;omega) (λj e=>by cases e;omega)⟩
def encB(b:BL):Array Value:=#[.int .i64 b.1,.agg #[.int .i64 b.2.1,.int .i64 b.2.2.1,.int .i64 b.2.2.2]]
theorem qr5(s l r:Int)(A:Option Addr)(cap:Nat)(hs:List HD)(w:World)(h:HdsRd w A hs.length hs)(hn:hs.length<=9223372036854775800):
  Calls Tryz.prog 182 #[.agg #[.int .i64 s,.int .i64 l,.int .i64 r],.slice A hs.length cap] w λe w'=>∃bi bw,e= .returned (.func (.func 233) #[] #[.pointer (some ⟨w.heap.size+1,0,none⟩),.pointer (some ⟨bi,0,none⟩),.pointer (some ⟨w.heap.size,0,none⟩)])/\
   Cap w' (w.heap.size+1) bi w.heap.size bw s l r (rgtV s l r A cap hs)/\w.heap.size<bi/\w.heap.size<bw/\Below w.heap.size w w':=by
 have hmf:∀(fn:Fn) (first cap:Array Value) (w:World),(Instr.makeFunc fn first cap).run Tryz.prog w= .ok (.func fn first cap) w:=λ_ _ _ _=>rfl
 have hr:=waa (λ(V:World) (hV:Below w.heap.size w V)=>qt5 s l r A cap hs V (h.below hV) Zo);obtain⟨B,nn,cc,hv⟩:∃B nn cc,rgtV s l r A cap hs= .slice B nn cc:=by unfold rgtV;split;exact⟨_,_,_,rfl⟩;exact⟨_,_,_,rfl⟩
 rw[hv] at hr ⊢;have hw:=waa (λ(V:World)=>qp8 (.slice B nn cc) V B nn cc rfl);clear hv h;have hg0:=Gm.new w s l r;have hB0:=qi5 w s l r;have hs0:=waa (show(w.alloc (.cells #[.int .i64 s,.int .i64 l,.int .i64 r] 36)).heap.size=w.heap.size+1 by simp);have hg1:=hg0.below ((wai _ _).alloc (wah _) (.cells #[.slice A hs.length cap] 90)) hg0.lt;have hx1:=Boxed.new (w.alloc (.cells #[.int .i64 s,.int .i64 l,.int .i64 r] 36)) 90 (.slice A hs.length cap);rw[hs0.out] at hx1;have hB1:=hB0.alloc hB0.size (.cells #[.slice A hs.length cap] 90);have hne:=waa hg1.lt;clear hg0 hB0;go_enter Tryz.func182,Tryz.ntmps182;go_wp2_with fail;generalize (w.alloc (.cells #[.int .i64 s,.int .i64 l,.int .i64 r] 36)).alloc (.cells #[.slice A hs.length cap] 90)=W1 at hg1 hx1 hB1 hne ⊢;obtain⟨c0,c1,c2,f⟩:=hg1.cells;have hc1:=hx1.cell;go_wp2_with fail;refine(hr.out _ hB1).mono ?_;rintro e w1 ⟨rfl,hB⟩;have hl1:=hx1.lt;have hg2:Gm w1 w.heap.size s l r:=hg1.below hB hg1.lt;have hx2:Boxed w1 (w.heap.size+1) 90 (.slice A hs.length cap):=(hB.block _ hx1.lt).trans hx1;have hB2:=hB1.trans (hB.mono hB1.size);have hx3:=hx2.set (.slice B nn cc);have hg3:=hg2.other (b':=w.heap.size+1) (o:=0) (v:= .slice B nn cc) Zo;have hB3:=hB2.setCell (p:=⟨w.heap.size+1,0,none⟩) (by show w.heap.size<=w.heap.size+1;omega) (.slice B nn cc);have hc2:=hx2.cell;have hf2:=hx2.frozen;have hl2:w.heap.size+1<(w1.setCell ⟨w.heap.size+1,0,none⟩ (.slice B nn cc)).heap.size:=hx3.lt;clear hB hg1 hx1 hB1 c0 c1 c2 f hc1 hg2 hx2 hB2;go_wp2_with fail;generalize w1.setCell ⟨w.heap.size+1,0,none⟩ (.slice B nn cc)=W2 at hx3 hg3 hB3 hl2 ⊢;have hc3:=hx3.cell;clear hc2 hf2;go_wp2_with fail;refine(hw.out _).mono ?_;rintro e w2 ⟨rfl,rfl⟩;have hBa:=(wai W2.heap.size W2).alloc (wah _) (.cells #[.slice B nn cc] 90);have hx4:Boxed _ (w.heap.size+1) 90 (.slice B nn cc):=hx3.alloc (.cells #[.slice B nn cc] 90);have hg4:=hg3.below hBa hg3.lt;have hw4:=Boxed.new W2 90 (.slice B nn cc);have hB4:=hB3.trans (hBa.mono hB3.size);have hlw:w.heap.size<W2.heap.size:=Zo
 generalize hw':W2.heap.size=bw at hw4 hlw ⊢;clear hBa hx3 hg3 hB3 hc3;generalize W2.alloc (.cells #[.slice B nn cc] 90)=W3 at hx4 hg4 hw4 hB4 ⊢;have hBb:=(wai W3.heap.size W3).alloc (wah _) (.cells #[.func (.func 289) #[] #[.pointer (some ⟨bw,0,none⟩)]] 98);have hx5:=hx4.alloc (.cells #[.func (.func 289) #[] #[.pointer (some ⟨bw,0,none⟩)]] 98);have hg5:=hg4.below hBb hg4.lt;have hw5:=hw4.alloc (.cells #[.func (.func 289) #[] #[.pointer (some ⟨bw,0,none⟩)]] 98);have hi5:=Boxed.new W3 98 (.func (.func 289) #[] #[.pointer (some ⟨bw,0,none⟩)]);have hB5:=hB4.trans (hBb.mono hB4.size);have hli:w.heap.size<W3.heap.size:=hg4.lt;clear hx4 hg4 hw4 hB4 hBb;go_wp2_with fail;go_ret;exact⟨_,bw,rfl,⟨hx5,hi5,hg5,hw5⟩,hli,hlw,hB5⟩
theorem qi0(n:Nat)(hn:1<=n)(y bh bi bg bw:Nat)(s l r:Int)(A:Option Addr)(cap:Nat)(hs:List HD)(w0:World)(hH:HdsRd w0 A hs.length hs)(hr:hs=[]\/hdsB s l r hs=true)(hcap:hs.length<=cap)(J Jx:List BL->World->Prop)(hJ:∀pre W W',J pre W->Below W.heap.size W W'->J pre W')(hY:∀pre x W,J pre W->pre.length<600->YieldAt Fence.wide (n - 1) Tryz.prog y (encB x) W λe W'=>
   (e= .returned (.bool true)/\J (pre++[x]) W'/\qdr w0.heap.size bh bi bg bw s l r (.slice A hs.length cap) W W')\/(e= .returned (.bool false)/\Jx (pre++[x]) W'))(W:World)(hc:Cap W bh bi bg bw s l r (.slice A hs.length cap))(hB0:Below w0.heap.size w0 W)(h0:J [] W):
  CallsIn Fence.wide n Tryz.prog 233 #[.func (.yield y) #[] #[],.pointer (some ⟨bh,0,none⟩),.pointer (some ⟨bi,0,none⟩),.pointer (some ⟨bg,0,none⟩)] W λe W'=>(∃v,e= .returned v)/\
   ((∃ys,ys=qbg s l r hs hs.length/\J ys W')\/(∃pre,pre<+:qbg s l r hs hs.length/\Jx pre W')):=by
 have hlen:hs.length<=16:=by
  rcases hr with rfl|hr
  ·simp
  ·obtain⟨a,b,-⟩:=hdsB_iff.1 hr
   have:=mayB_iff.1 a
   omega
 have hall:∀x∈hs,hdB x=true:=by
  rcases hr with rfl|hr
  ·simp
  ·exact(hdsB_iff.1 hr).2.2
 have hbc:=hc.1.cell;refine callsIn_of_wp Tryz.func233 rfl trivial ?_ rfl;simp only[Tryz.ntmps233,wa8,waz,wb2,Nat.reduceAdd,Nat.reduceSub,wcr,wcs,wct,wcu,wa7,wbt];gi_wp2
 gi_loopw [13,31] (λp _ wr=>∃(V:World) (j:Nat),V=wr/\p= .int .i64 (j:Int)/\j<=hs.length/\Cap V bh bi bg bw s l r (.slice A hs.length cap)/\Below w0.heap.size w0 V/\J (qbg s l r hs j) V)
  (λp _ _=>hs.length - (intOf p).toNat)
 case atStart=>
  exact⟨_,0,rfl,rfl,wat _,hc,hB0,h0⟩
 case round=>
  obtain⟨V,j,rfl,rfl,hj,hcV,hB,hJs⟩:=hrel;by_cases hlt:j<hs.length
  ·obtain⟨p,k,c,m,rfl,hd,hmem,d0,d1,d2⟩:=(hH.below hB).at_ hlt
   have hrr:hdsB s l r hs=true:=by
    rcases hr with rfl|hr
    ·simp at hlt
    ·exact hr
   have hx:hs[j]? =some (k,c,m):=by
    have:=wbl hlt
    rw[hd] at this;injection this with e1 e2;rw[wan hlt,e1]
   have hw:=λ(U:World) (hU:Below w0.heap.size w0 U) (hx:Boxed U bw 90 (.slice (some p) hs.length cap))=>callsIn_wide (n:=n - 1)|>.2 (qn8 (j:Int) (some p) cap hs bw U hx (hH.below hU) hall hcap Zo)
   rw[qmx] at hw;have hB1:=(wai V.heap.size V).alloc (wah _) (.cells #[.int .i64 k,.int .i64 c,.int .i64 m] 134);have hg:=Hd.new V k c m;have hcA:=hcV.below hB1;have hi1:=hcA.2.1.cell;cases hwb:whoB hs j with
   |false=>
    have hu:qbg s l r hs (j+1)=qbg s l r hs j:=by rw[qdf,quf hwb,wba]
    rw[hwb] at hw;rw[<-hu] at hJs;have hw':=waa hw;clear hu hwb hw hd hx hmem;gi_wp2_with fail
    refine⟨trivial,(hw'.out _ (hB.trans (hB1.mono hB.size)) hcA.2.2.2).mono ?_⟩;rintro e W2 ⟨rfl,hC⟩;have hB2:=hB1.trans (hC.mono hB1.size);have hc2:=hcV.below hB2;have hJ2:=hJ _ _ _ hJs hB2;have hB3:=hB.trans (hB2.mono hB.size);gi_wp2_with fail
    go_roundw
    case rel=>exact⟨_,j+1,rfl,by go_num,Zo,hc2,hB3,hJ2⟩
    case measure=>simp[intOf];omega
   |true=>
    rw[hwb] at hw;have hw':=waa hw;obtain⟨sp,hsp⟩:∃sp,sp=qci s l r (j:Int):=⟨_,rfl⟩
    obtain⟨nb,hnb⟩:∃nb,nb=adNb (k,c,m):=⟨_,rfl⟩
    obtain⟨wd,hwd⟩:∃wd,wd=adWd (k,c,m):=⟨_,rfl⟩
    have hpre:=λ(i:Nat) (hi:(i:Int)<=nb)=>qsu (s:=s) (l:=l) (r:=r) hlt hwb hx (hnb▸hi)
    have hend:=λ(i:Nat) (hi:(i:Int)=nb)=>qwp (s:=s) (l:=l) (r:=r) hwb hx (hnb▸hi)
    rw[<-hsp,<-hwd] at hpre hend;have hmk:=hall _ hmem;have hnb1:=qpe (k,c,m);have hwd1:=qzn hmk;rw[<-hnb] at hnb1;rw[<-hwd] at hwd1;have hsb:0<=sp/\sp<=4000:=by
     obtain⟨a1,a2,-⟩:=hdsB_iff.1 hrr;have a3:=qxg (j:=j) a1 Zo;have:=mayB_iff.1 a1
     omega
    have hsc:=λU=>callsIn_wide (n:=n - 1)|>.2 (qnj s l r (j:Int) U)
    have hsh:=λU=>callsIn_wide (n:=n - 1)|>.2 (qt9 k c m U hmk)
    rw[<-hsp] at hsc;rw[<-hnb,<-hwd] at hsh;have hsc':=waa hsc;have hsh':=waa hsh;have hpre':=waa hpre;have hend':=waa hend;have hmx:=waa (show(qbg s l r hs hs.length).length<=512 by rw[<-qgn hrr];exact qtm s l r hs);clear hwb hw hd hx hmem hpre hend hsc hsh hsp hnb hwd hmk hrr;gi_wp2_with fail
    refine⟨trivial,(hw'.out _ (hB.trans (hB1.mono hB.size)) hcA.2.2.2).mono ?_⟩;rintro e W2 ⟨rfl,hC⟩;have hB2:=hB1.trans (hC.mono hB1.size);have hc2:=hcV.below hB2;have hg2:Hd W2 V.heap.size k c m:=hg.below hC hg.lt;obtain⟨q0,q1,q2,qf⟩:=hc2.2.2.1.cells;clear hB1 hg hcA hi1 hC d0 d1 d2;gi_wp2_with fail
    refine⟨trivial,(hsc'.out _).mono ?_⟩;rintro e W3 ⟨rfl,hC⟩;have hg3:Hd W3 V.heap.size k c m:=hg2.below hC hg2.lt;have hB3:=hB2.trans (hC.mono hB2.size);obtain⟨x0,x1,x2,xf⟩:=hg3.cells;clear hB2 hc2 hg2 q0 q1 q2 qf hC;gi_wp2_with fail
    refine⟨trivial,(hsh'.out _).mono ?_⟩;rintro e W4 ⟨rfl,hC⟩;have hB4:=hB3.trans (hC.mono hB3.size);have hc4:=hcV.below hB4;have hB5:=hB.trans (hB4.mono hB.size);have hJ4:=hJ _ _ _ hJs hB4;clear hB3 hg3 x0 x1 x2 xf hC hJs hB4;gi_wp2_with fail
    gi_loopw [31] (λq wr=>∃(U:World) (i:Nat),U=wr/\q= .int .i64 (i:Int)/\(i:Int)<=nb/\Cap U bh bi bg bw s l r (.slice (some p) hs.length cap)/\Below w0.heap.size w0 U/\J (qbg s l r hs j++bls sp (j:Int) wd i) U)
     (λq _=>nb.toNat - (intOf q).toNat)
    case atStart=>
     exact⟨_,0,rfl,rfl,Zo,hc4,hB5,by simpa[bls] using hJ4⟩
    case round=>
     clear hc4 hB5 hJ4;obtain⟨U,i,rfl,rfl,hi,hcU,hBU,hJU⟩:=hrel;by_cases hil:(i:Int)<nb
     ·have hprod:0<=(i:Int)*wd/\(i:Int)*wd<=32*256:=⟨Int.mul_nonneg Zo hwd1.1,Int.mul_le_mul Zo hwd1.2 hwd1.1 Zo⟩
      have kw1:IntKind.i64.wrap ((i:Int)*wd)=(i:Int)*wd:=wap _ Zo;have kw2:IntKind.i64.wrap (sp+(i:Int)*wd)=sp+(i:Int)*wd:=wap _ Zo;have hp1:=waa (hpre'.out (i+1) Zo);have hll:(qbg s l r hs j++bls sp (j:Int) wd i).length<600:=by
       have:=(hpre'.out i hi).length_le
       have:=hmx.out
       omega
      obtain⟨fn,tmps,assign,body,hy,hR⟩:=hY _ (sp+(i:Int)*wd,(j:Int),(i:Int),wd) U hJU hll;dsimp only[encB] at hy;rw[wbi,<-qln] at hR;clear hll hprod;gi_wp2_with fail
      refine hR.mono ?_;rintro e U3 (⟨rfl,hJ3,hk3⟩|⟨rfl,hJx3⟩)
      ·have hc3:=hk3.1 hcU
       have hB3:=hBU.trans hk3.2;clear hp1;gi_wp2_with fail
       go_roundw
       case rel=>exact⟨_,i+1,rfl,by go_num,Zo,hc3,hB3,hJ3⟩
       case measure=>simp[intOf];omega
      ·gi_wp2_with fail
       refine bodyPost_ret (results_none rfl _ _ _) rfl ?_;exact⟨⟨_,rfl⟩,.inr ⟨_,hp1.out,hJx3⟩⟩
     ·have he:=hend'.out i Zo
      rw[he] at hJU;clear he;gi_wp2_with fail
      go_roundw
      case rel=>exact⟨_,j+1,rfl,by go_num,Zo,hcU,hBU,hJU⟩
      case measure=>simp[intOf];omega
  ·obtain rfl:j=hs.length:=Zo
   gi_wp2_with fail
   go_end0
   exact⟨⟨_,rfl⟩,.inl ⟨_,rfl,hJs⟩⟩
theorem qni(n:Nat)(hn:1<=n)(bh bi bg bw:Nat)(s l r:Int)(A:Option Addr)(cap:Nat)(hs:List HD)(w0 w:World)(hH:HdsRd w0 A hs.length hs)(hcap:hs.length<=cap)(hc:Cap w bh bi bg bw s l r (rgtV s l r A cap hs))(hB0:Below w0.heap.size w0 w):
  SeqStopsK Fence.wide n Tryz.prog 233 #[.pointer (some ⟨bh,0,none⟩),.pointer (some ⟨bi,0,none⟩),.pointer (some ⟨bg,0,none⟩)] encB (qdr w0.heap.size bh bi bg bw s l r (rgtV s l r A cap hs)) (λys=>ys=qeo s l r hs) (λpre=>pre<+:qeo s l r hs) 600 w:=λy J Jx W hW hJ hJx hY h0=>by
 have hJ':∀pre X Y,J pre X->Below X.heap.size X Y->J pre Y:=λpre X Y hj hb=>hJ pre X Y none hj ⟨hb.os,hb.tape,hb.output,hb.size,λk hk _=>hb.block k hk⟩ (λr e=>by cases e)
 have hcW:=hc.below hW;have hBW:=hB0.trans (hW.mono hB0.size);cases hr:hdsB s l r hs with
 |true=>
  rw[qgn hr];rw[qm4 hr] at hcW hY;exact qi0 n hn y bh bi bg bw s l r A cap hs w0 hH (.inr hr) hcap J Jx hJ' hY W hcW hBW h0
 |false=>
  rw[qmt hr];rw[qg6 hr] at hcW hY;exact qi0 n hn y bh bi bg bw s l r none 0 [] w0 (q02 _ _) (.inl rfl) (wah _) J Jx hJ' hY W hcW hBW h0
def yU(ws:List (Int×Nat))(j:Nat):List (Nat×Int×Nat):=(((List.range ws.length).map λ(i:Nat)=>(i,(ws[i]?.getD (0,0)).1,(ws[i]?.getD (0,0)).2)).drop j).reverse
theorem qpm{ws:List (Int×Nat)}{j:Nat}{a:Int}{x:Nat}(h:ws[j]? =some (a,x)):yU ws j=yU ws (j+1)++[(j,a,x)]:=by
 have hl:=(was.1 h).1;unfold yU;rw[wbl (by simpa using hl),List.reverse_cons];simp[h]
theorem qzk(ws:List (Int×Nat)):yU ws ws.length=[]:=by
 unfold yU;rw[weh Zs];rfl
theorem q13(ws:List (Int×Nat))(j:Nat):(yU ws j).length<=ws.length:=by simp[yU]
theorem q16{ws:List (Int×Nat)}:∀{j:Nat},j<=ws.length->yU ws j<+:yU ws 0:=by
 intro j;induction j with
 |zero=>intro _;exact wdf _
 |succ j ih=>
  intro h;obtain⟨⟨a,x⟩,hx⟩:∃e,ws[j]? =some e:=⟨_,wan Zo⟩
  have:=ih Zo
  rw[qpm hx] at this;exact(we2 _ _).trans this
def encE(e:Nat×Int×Nat):Array Value:=#[.int .i64 (e.1:Int),.agg #[.int .i64 e.2.1,.int .u64 (e.2.2:Int)]]
def qe9(n0 bw:Nat)(v:Value)(W W':World):Prop:=(Boxed W bw 155 v->Boxed W' bw 155 v)/\Below n0 W W'
theorem q1c{n0 bw:Nat}{v:Value}:∀{X Y Z:World},qe9 n0 bw v X Y->qe9 n0 bw v Y Z->qe9 n0 bw v X Z:=λh k=>⟨λx=>k.1 (h.1 x),h.2.trans k.2⟩
theorem qqn{n0 bw:Nat}{v:Value}(W:World):qe9 n0 bw v W W:=⟨id,wai _ _⟩
theorem qoq{n0 bw:Nat}{v:Value}{W:World}(h:n0<=W.heap.size)(o:Obj):qe9 n0 bw v W (W.alloc o):=⟨λh=>qag h o,(wai _ W).alloc h o⟩
theorem qmp(A:Option Addr)(m cap:Nat)(w:World):Calls Tryz.prog 277 #[.slice A m cap] w λe w'=>e= .returned (.func (.func 324) #[] #[.pointer (some ⟨w.heap.size,0,none⟩)])/\w.alloc (.cells #[.slice A m cap] 155)=w':=by
 have hmf:∀(fn:Fn) (first cap:Array Value) (w:World),(Instr.makeFunc fn first cap).run Tryz.prog w= .ok (.func fn first cap) w:=λ_ _ _ _=>rfl
 go_enter Tryz.func277,Tryz.ntmps277;go_wp2_with fail;go_ret;exact⟨rfl,rfl⟩
theorem qy5(n:Nat)(hn:1<=n)(y bw:Nat)(A:Option Addr)(m cap:Nat)(ws:List (Int×Nat))(w0:World)(hR:EsRd w0 A m ws)(hm:m<=500)(J Jx:List (Nat×Int×Nat)->World->Prop)(hJ:∀pre W W',J pre W->Below W.heap.size W W'->J pre W')(hY:∀pre x W,J pre W->pre.length<600->YieldAt Fence.wide (n - 1) Tryz.prog y (encE x) W λe W'=>
   (e= .returned (.bool true)/\J (pre++[x]) W'/\qe9 w0.heap.size bw (.slice A m cap) W W')\/(e= .returned (.bool false)/\Jx (pre++[x]) W'))(W:World)(hc:Boxed W bw 155 (.slice A m cap))(hB0:Below w0.heap.size w0 W)(h0:J [] W):
  CallsIn Fence.wide n Tryz.prog 324 #[.func (.yield y) #[] #[],.pointer (some ⟨bw,0,none⟩)] W λe W'=>(∃v,e= .returned v)/\
   ((∃ys,ys=yU ws 0/\J ys W')\/(∃pre,pre<+:yU ws 0/\Jx pre W')):=by
 have hl:=hR.1;have hwm:IntKind.i64.wrap ((m:Int) - 1)=(m:Int) - 1:=wap _ Zo;have hbc:=hc.cell;refine callsIn_of_wp Tryz.func324 rfl trivial ?_ rfl;simp only[Tryz.ntmps324,wa8,waz,wb2,Nat.reduceAdd,Nat.reduceSub,wcr,wcs,wct,wcu,wa7,wbt];gi_wp2
 gi_loopw [3] (λp wr=>∃(V:World) (j:Nat),V=wr/\p= .int .i64 ((j:Int) - 1)/\j<=m/\Boxed V bw 155 (.slice A m cap)/\Below w0.heap.size w0 V/\J (yU ws j) V)
  (λp _=>(intOf p+1).toNat)
 case atStart=>
  exact⟨_,m,rfl,rfl,wah _,hc,hB0,by rw[<-hl,qzk];exact h0⟩
 case round=>
  obtain⟨V,j,rfl,rfl,hj,hcV,hB,hJs⟩:=hrel;rcases Nat.eq_zero_or_pos j with hj0|hj0
  ·subst hj0
   gi_wp2_with fail
   go_end0
   exact⟨⟨_,rfl⟩,.inl ⟨_,rfl,hJs⟩⟩
  ·obtain⟨k,rfl⟩:∃k,j=k+1:=⟨j - 1,Zo⟩
   obtain⟨⟨a,x⟩,hx⟩:∃e,ws[k]? =some e:=⟨_,wan Zo⟩
   obtain⟨p,rfl,hcc⟩:=(hR.below hB).2 Zo;obtain⟨d0,d1⟩:=hcc k _ hx;dsimp only at d0 d1;have hbc2:=hcV.cell;have hnx:=qpm hx;obtain⟨fn,tmps,assign,body,hy,hR2⟩:=hY _ (k,a,x) V hJs (by have:=q13 ws (k+1);omega);rw[<-hnx] at hR2;dsimp only[encE] at hy;have e1:((k+1:Nat):Int) - 1=(k:Int):=Zo
   have z1:(0:Int)<=(k:Int):=Zo
   have z2:(k:Int)<(m:Int):=Zo
   have hw2:IntKind.i64.wrap ((k:Int) - 1)=(k:Int) - 1:=wap _ Zo;rw[e1];have hpre:=waa (q16 (ws:=ws) (j:=k) Zo);clear hnx e1 hcc hx hbc;gi_wp2_with fail
   refine hR2.mono ?_;rintro e U3 (⟨rfl,hJ3,hk3⟩|⟨rfl,hJx3⟩)
   ·have hc3:=hk3.1 hcV
    have hB3:=hB.trans hk3.2;gi_wp2_with fail
    go_roundw
    case rel=>exact⟨_,k,rfl,by go_num,Zo,hc3,hB3,hJ3⟩
    case measure=>simp[intOf]
   ·gi_wp2_with fail
    refine bodyPost_ret (results_none rfl _ _ _) rfl ?_;exact⟨⟨_,rfl⟩,.inr ⟨_,hpre.out,hJx3⟩⟩
theorem qq8(n:Nat)(hn:1<=n)(bw:Nat)(A:Option Addr)(m cap:Nat)(ws:List (Int×Nat))(w0 w:World)(hR:EsRd w0 A m ws)(hm:m<=500)(hc:Boxed w bw 155 (.slice A m cap))(hB0:Below w0.heap.size w0 w):
  SeqStopsK Fence.wide n Tryz.prog 324 #[.pointer (some ⟨bw,0,none⟩)] encE (qe9 w0.heap.size bw (.slice A m cap)) (λys=>ys=yU ws 0) (λpre=>pre<+:yU ws 0) 600 w:=λy J Jx W hW hJ hJx hY h0=>by
 have hJ':∀pre X Y,J pre X->Below X.heap.size X Y->J pre Y:=λpre X Y hj hb=>hJ pre X Y none hj ⟨hb.os,hb.tape,hb.output,hb.size,λk hk _=>hb.block k hk⟩ (λr e=>by cases e)
 exact qy5 n hn y bw A m cap ws w0 hR hm J Jx hJ' hY W (qds hc hW hc.lt) (hB0.trans (hW.mono hB0.size)) h0
end Go.Proofs.YtgjhkafggagniaaGreat
namespace Go.Proofs.YtgjhkafggagniaaGreat
open Go Go.RowKit
section
variable {τ:Type} {E:DP τ} {i:Nat} {l:List Nat} {s:DM×τ} {F:Nat->Prop} {w w':World}
def qie(n nl:Nat)(who:Int)(a:Int):AP (DM×τ) Nat:=AP.ask (onM (doF n nl who 1 a 0)) id
end
end Go.Proofs.YtgjhkafggagniaaGreat
