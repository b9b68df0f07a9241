/- Parts. No condition. -/
import Derived.Test.YtocncmbeinmiaaaGreatJoinU40
import Derived.Test.YtocncmbeinmiaaaGreatJoinU26
set_option linter.unusedVariables false
set_option maxRecDepth 100000
set_option maxHeartbeats 8000000
namespace Go.Proofs.YtocncmbeinmiaaaGreat
open Go Go.RowKit
theorem qi2(hs:List HD)(n:Nat)(P:Nat->Bool):(selL hs n P).length=n:=by simp[selL]
theorem qjg{hs:List HD}{n:Nat}{P Q:Nat->Bool}(h:∀j,j<n->P j=Q j):selL hs n P=selL hs n Q:=by
 unfold selL;refine wdb λj hj=>?_
 rw[h j (wcc.1 hj)]
theorem q2o(hs:List HD)(n:Nat):selL hs n (λ_=>false)=List.replicate n (0,0,0):=by
 apply wa3
 intro j;by_cases hj:j<n
 ·simp[selL,hj]
 ·simp[selL,hj]
theorem q54{hs:List HD}{n:Nat}{P:Nat->Bool}{s:Nat}{h:HD}(hh:hs[s]? =some h):(selL hs n P).set s h=selL hs n (λj=>P j||decide (j=s)):=by
 apply wa3
 intro j;by_cases hj:j<n
 ·by_cases hjs:j=s
  ·subst hjs
   rw[wb3 (by rw[qi2];exact hj)];simp[selL,hj,hh]
  ·rw[wbe (λe=>hjs e.symm)]
   simp[selL,hj,hjs]
 ·rw[wbp (by rw[wb1,qi2];omega),wbp (by rw[qi2];omega)]
theorem q09(hs:List HD)(L:List LV)(n:Nat):qbt hs L n=selL hs n (λj=>L.any (inB (j:Int))):=rfl
theorem q3o{sp wd:Int}{t:Nat}{o:LV}(h1:o.sp=sp)(h2:o.wd=wd)(h0:0<wd)(he:¬(64*(t:Int)<wd))(hp:t=0\/64*((t:Int) - 1)<wd)(j:Nat):decide (sp<=(j:Int)/\(j:Int)<sp+(t:Int))=inB (j:Int) o:=by
 unfold inB;rw[h1,h2];exact decide_eq_decide.2 Zo
theorem qzm(HA:Option Addr)(hcap:Nat)(hs:List HD)(LA:Option Addr)(lcap:Nat)(L:List LV)(w:World)(hH:HdsRd w HA hs.length hs)(hhs:hs.length<=16)(hL:LsRd w LA L.length L)(hn:L.length<=512)(hsp:∀o∈L,0<=o.sp/\0<o.wd/\o.wd<=1000/\∀t:Nat,64*(t:Int)<o.wd->o.sp+(t:Int)<(hs.length:Int)):
  Calls Tryz.prog 79 #[.slice HA hs.length hcap,.slice LA L.length lcap] w λe w'=>∃v,e= .returned v/\w'.ownsRow w.heap.size 82 3 v (qbt hs L hs.length).length (hV (qbt hs L hs.length))/\Below w.heap.size w w':=by
 obtain⟨n,hnE⟩:∃n,hs.length=n:=⟨_,rfl⟩
 rw[hnE] at hH hhs hsp ⊢;have hmk:=λV=>qnp n Zo V
 have hW0:=waa (show Hb (w.alloc (.cells (hV (List.replicate n (0,0,0))).toArray 82)) w.heap.size (selL hs n (λj=>([]:List LV).any (inB (j:Int)))) from by rw[show(λj:Nat=>([]:List LV).any (inB (j:Int)))=λ_=>false from rfl,q2o];exact World.alloc_heap_new w _);have hB3:=waa (qb8 w (.cells (hV (List.replicate n (0,0,0))).toArray 82));have hLK:=waa hL;have hHK:=waa hH;have hspK:=waa hsp;clear hL hH hsp hnE;go_enter Tryz.func79,Tryz.ntmps79;go_wp2_with fail;go_loopg [6] L.length (λk s6 wr=>∃i:Nat,s6= .int .i64 (i:Int)/\L.length - i<=k/\i<=L.length/\Hid (Hb wr w.heap.size (selL hs n (λj=>(L.take i).any (inB (j:Int)))))/\Hid (Below w.heap.size w wr))
 case atStart=>exact⟨0,rfl,Zo,Zo,hW0,hB3⟩
 case round=>
  clear hW0 hB3;obtain⟨i,rfl,hki,hil,hW,hB⟩:=hrel;have hi0:(0:Int)<=(i:Int):=Zo
  by_cases hi:i<L.length
  ·have hi1:(i:Int)<(L.length:Int):=Zo
   obtain⟨p,o,rfl,ho,-⟩:=hLK.out.at_ hi;obtain⟨p0,p1,p2,p3⟩:=hspK.out o (waq ho);have hsn:=waa (qfd ho);have hat:=waa (λ(V:World) (hV:Below w.heap.size w V)=>show LvAt V (p.add (i*7)) o from by
    obtain⟨p',o',e,ho',hx⟩:=(hLK.out.below hV).at_ hi;injection e with e;rw[e];rw[ho] at ho';injection ho' with ho';rw[ho'];exact hx)
   have hend:=waa (λ(t:Nat) (he:¬(64*(t:Int)<o.wd)) (hp:t=0\/64*((t:Int) - 1)<o.wd) (j:Nat)=>q3o (sp:=o.sp) (wd:=o.wd) rfl rfl p1 he hp j);have hp3:=waa p3;obtain⟨oa,orr,os,on,osp,oix,owd⟩:=o;simp only at p0 p1 p2 hp3 hend;obtain⟨q,rfl⟩:∃q:Nat,osp=(q:Int):=waz p0;clear ho p3;have hW1:=waa (show Hb wr w.heap.size (selL hs n (λj=>(L.take i).any (inB (j:Int))||decide ((q:Int)<=(j:Int)/\(j:Int)<(q:Int)+((0:Nat):Int)))) from by
    rw[qjg (Q:=λj=>(L.take i).any (inB (j:Int))) (λj _=>by rw[decide_eq_false Zo,Bool.or_false])];exact hW.out)
   clear hW;go_wp2_with fail;go_loopg [7] 20 (λk s7 wr=>∃t:Nat,s7= .int .i64 (64*(t:Int))/\20 - t<=k/\t<=16/\(t=0\/64*((t:Int) - 1)<owd)/\Hid (Hb wr w.heap.size (selL hs n (λj=>(L.take i).any (inB (j:Int))||decide ((q:Int)<=(j:Int)/\(j:Int)<(q:Int)+(t:Int)))))/\Hid (Below w.heap.size w wr))
   case atStart=>exact⟨0,rfl,Zo,Zo,.inl rfl,hW1,hB⟩
   case round=>
    clear hW1 hB;obtain⟨t,rfl,hkt,ht16,hpt,hW,hB⟩:=hrel;obtain⟨o0,o1,o2,o3,o4,o5,o6⟩:=hat.out _ hB.out;simp only at o0 o1 o2 o3 o4 o5 o6;by_cases hlt:64*(t:Int)<owd
    ·have hq:=hp3.out t hlt
     have hd:decide (64*(t:Int)<owd)=true:=decide_eq_true hlt;obtain⟨m,hm⟩:∃m,q+t=m:=⟨_,rfl⟩
     have hmn:m<n:=Zo
     obtain⟨p2',a,b,c,rfl,hh,h0,h1,h2⟩:=qku (hHK.out.below hB.out) hmn;have e1:(64*(t:Int)).tdiv 64=(t:Int):=by rw[wew Zo];omega
     have e1':64*(t:Int)/64=(t:Int):=Zo
     have e2:(q:Int)+(t:Int)=(m:Int):=Zo
     have e3:IntKind.i64.wrap (64*(t:Int)+64)=64*(t:Int)+64:=wao _ Zo;have hm0:(0:Int)<=(m:Int):=Zo
     have hm1:(m:Int)<(n:Int):=Zo
     have hkt:=qi2 hs n (λj=>(L.take i).any (inB (j:Int))||decide ((q:Int)<=(j:Int)/\(j:Int)<(q:Int)+(t:Int)));obtain⟨z0,c0⟩:=hW.out.cell (i:=m*3) (by rw[hkt];omega);obtain⟨z1,c1⟩:=hW.out.cell (i:=m*3+1) (by rw[hkt];omega);obtain⟨z2,c2⟩:=hW.out.cell (i:=m*3+2) (by rw[hkt];omega);have f0:=qaj hW.out (m*3);have f1:=qaj hW.out (m*3+1);have f2:=qaj hW.out (m*3+2);have hW7:=waa (show Hb _ w.heap.size (selL hs n (λj=>(L.take i).any (inB (j:Int))||decide ((q:Int)<=(j:Int)/\(j:Int)<(q:Int)+((t+1:Nat):Int)))) from by
      have h1:=hW.out.set m a b c (by rw[hkt];exact hmn);rw[q54 hh,qjg (Q:=λj=>(L.take i).any (inB (j:Int))||decide ((q:Int)<=(j:Int)/\(j:Int)<(q:Int)+((t+1:Nat):Int))) (λj _=>by
       rw[Bool.or_assoc,<-Bool.decide_or];exact congrArg _ (decide_eq_decide.2 Zo))] at h1
      exact h1)
     have hB7:=waa (((hB.out.setCell (p:=⟨w.heap.size,m*3,none⟩) (wab _) (.int .i64 a)).setCell (p:=⟨w.heap.size,m*3+1,none⟩) (wab _) (.int .i64 b)).setCell (p:=⟨w.heap.size,m*3+2,none⟩) (wab _) (.int .i64 c));clear hW hB hkt hh hm hq;go_wp2_with fail;go_roundg (20 - (t+1))
     case measure=>omega
     case rel=>exact⟨t+1,by go_num,wab _,Zo,.inr Zo,hW7,hB7⟩
    ·have hd:decide (64*(t:Int)<owd)=false:=decide_eq_false hlt
     have hW7:=waa (show Hb wr w.heap.size (selL hs n (λj=>(L.take (i+1)).any (inB (j:Int)))) from by
      rw[qjg (Q:=λj=>(L.take i).any (inB (j:Int))||decide ((q:Int)<=(j:Int)/\(j:Int)<(q:Int)+(t:Int))) (λj _=>by
       rw[hsn.out,List.any_append,hend.out t Zo hpt j];simp)]
      exact hW.out)
     clear hW hend;go_wp2_with fail;go_roundg (L.length - (i+1))
     case measure=>omega
     case rel=>exact⟨i+1,by go_num,wab _,Zo,hW7,hB⟩
  ·obtain rfl:i=L.length:=Zo
   have hW':=hW.out;rw[wbz,<-q09] at hW';have hml:=qdu hs L n;have ho:=waa (hW'.own (base:=w.heap.size) (wab _) Zo);clear hW';go_wp2_with fail;go_ret;exact⟨_,rfl,by have:=ho.out;rw[hml] at this ⊢;exact this,hB.out⟩
theorem q24(s l r:Int)(LA:Option Addr)(lcap:Nat)(L:List LV)(w:World)(hm:mayB s l r=true)(hL:LsRd w LA L.length L)(hn:L.length<=9223372036854775800)(hsp:∀o∈L,0<=o.sp/\o.sp<s/\0<=o.ix/\o.ix<32):
  Calls Tryz.prog 80 #[.agg #[.int .i64 s,.int .i64 l,.int .i64 r],.slice LA L.length lcap] w λe w'=>∃v,e= .returned v/\w'.ownsRow w.heap.size 27 1 v (mapF s L).length (u64V (mapF s L))/\Below w.heap.size w w':=by
 obtain⟨s0,s1,-⟩:=qcc hm;obtain⟨n,rfl⟩:∃n:Nat,s=(n:Int):=waz Zo;have hmk:=λV=>qit n Zo V
 have hg0:=Gm.new w n l r;have hB0:=(wac w.heap.size w).alloc (wab _) (.cells #[.int .i64 n,.int .i64 l,.int .i64 r] 23);have hgl:=hg0.lt;obtain⟨g0,g1,g2,g3⟩:=hg0.cells;have hLK:=waa (hL.below hB0);have hBK:=waa hB0;have hspK:=waa hsp;clear hm hL hB0 hsp;go_enter Tryz.func80,Tryz.ntmps80;have hg1:=waa hg0;have hL1:=waa hLK.out;have hB2:=waa hBK.out;have hsz:(w.alloc (.cells #[.int .i64 (n:Int),.int .i64 l,.int .i64 r] 23)).heap.size=w.heap.size+1:=by simp
 go_wp2_with fail;generalize w.alloc (.cells #[.int .i64 (n:Int),.int .i64 l,.int .i64 r] 23)=w1 at hg0 hgl g0 g1 g2 g3 hLK hBK hg1 hL1 hB2 hsz ⊢;rw[<-hsz];clear hsz;have hW0:=waa (show Wb (w1.alloc (.cells (u64V (List.replicate n 0)).toArray 27)) w1.heap.size (mapF (n:Int) []) from World.alloc_heap_new w1 _);have hB3:=waa (qb8 w1 (.cells (u64V (List.replicate n 0)).toArray 27));have hg1l:=hg1.out.lt;go_loopg [6] L.length (λk s6 wr=>∃j:Nat,s6= .int .i64 (j:Int)/\L.length - j<=k/\j<=L.length/\Hid (Wb wr w1.heap.size (mapF (n:Int) (L.take j)))/\Hid (Below w1.heap.size w1 wr))
 case atStart=>exact⟨0,rfl,Zo,Zo,hW0,hB3⟩
 case round=>
  clear hW0 hB3;obtain⟨j,rfl,hkj,hjs,hW,hB⟩:=hrel;by_cases hj:j<L.length
  ·obtain⟨p,o,rfl,ho,hat⟩:=(hL1.out.below hB.out).at_ hj
   obtain⟨o0,o1,o2,o3,o4,o5,o6⟩:=hat
   obtain⟨p0,p1,p2,p3⟩:=hspK.out o (waq ho);have hsn:=qkm (n:Int) (L.take j) o;rw[<-qfd ho] at hsn;obtain⟨oa,orr,os,on,osp,oix,owd⟩:=o;simp only at o0 o1 o2 o3 o4 o5 o6 p0 p1 p2 p3 hsn;obtain⟨q,rfl⟩:∃q:Nat,osp=(q:Int):=waz p0;rw[wam] at hsn;have hml:=qe4 (n:Int) (L.take j);rw[wam] at hml;have hmx:=qk2 (n:Int) (L.take j);obtain⟨x,hx⟩:∃x,(mapF (n:Int) (L.take j))[q]? =some x:=⟨_,waj Zo⟩
   have hx64:=hmx x (waq hx);rw[hx,wa8] at hsn;have hwith:=waa (λV=>q1g x oix V hx64 Zo Zo);have hwl:w1.heap.size<wr.heap.size:=(wal.1 hW.out).1;have hsn:=waa hsn;obtain⟨t0,t1,t2,tf⟩:=(hg1.out.below hB.out hg1l).cells;have c0:=Wb.cell hW.out hx;have c1:=qaj hW.out q;have hB3:=waa (hB.out.setCell (p:=⟨w1.heap.size,q,none⟩) (wab _) (.int .u64 ((qcy x oix:Nat):Int)));have hW3:=waa (hW.out.set q (qcy x oix));have hj0:(0:Int)<=(j:Int):=Zo
   have hj1:(j:Int)<(L.length:Int):=Zo
   have hq1:(q:Int)<(n:Int):=p1;have hq0:(0:Int)<=(q:Int):=Zo
   clear hml hmx ho hx hB;go_wp2_with fail;go_region_with (go_at_call 116;refine(hwith.out _).mono ?_;rintro e w6 ⟨rfl,rfl⟩)
   all_goals
    go_wp2_with fail;go_roundg (L.length - (j+1))
    case measure=>omega
    case rel=>exact⟨j+1,by go_num,wab _,Zo,waa (by rw[hsn.out];exact hW3.out),waa hB3.out.drew⟩
  ·obtain rfl:j=L.length:=Zo
   have hW':=hW.out;rw[wbz] at hW';have hml:=qe4 (n:Int) L;rw[wam] at hml;have ho:=waa (hW'.own (base:=w.heap.size) hB2.out.size Zo);clear hW';go_wp2_with fail;go_ret;exact⟨_,rfl,by have:=ho.out;rw[hml] at this ⊢;exact this,hB2.out.trans (hB.out.mono hB2.out.size)⟩
set_option linter.unusedSectionVars false
theorem qus(s l r:Int)(A:Option Addr)(cap:Nat)(ws:List Nat)(w:World)(hr:Rd w A ws.length (u64V ws))(hn:ws.length<=9223372036854775807)(hlt:∀y∈ws,y<18446744073709551616)(hho:qa3 s l r ws=none):
  Calls Tryz.prog 78 #[.agg #[.int .i64 s,.int .i64 l,.int .i64 r],.slice A ws.length cap] w λe w'=>e= .returned (.tuple #[.slice none 0 0,.bool false])/\Below w.heap.size w w':=by
 have hg0:=Gm.new w s l r;have hB0:=qb8 w (.cells #[.int .i64 s,.int .i64 l,.int .i64 r] 23);have hh:=waa (qe0 s l r A cap ws _ (hr.below hB0) hn hlt);rw[hho] at hh;obtain⟨g0,g1,g2,g3⟩:=hg0.cells;have hB0:=waa hB0;clear hr hho;go_enter Tryz.func78,Tryz.ntmps78;go_wp2_with (go_at_call 57;go_loud (refine hh.out.mono ?_;rintro e w1 ⟨hE,hB1⟩;obtain rfl:=(show e= .returned (.tuple #[.slice none 0 0,.bool false]) from hE);have hB1:=waa hB1;clear hE))
 go_ret2;exact⟨rfl,hB0.out.trans (hB1.out.mono hB0.out.size)⟩
section
variable (s l r:Int) (A:Option Addr) (cap:Nat) (ws:List Nat) (w:World) (hr:Rd w A ws.length (u64V ws)) (hn:ws.length<=9223372036854775807) (hlt:∀y∈ws,y<18446744073709551616)
include hr hn hlt
theorem qu3{hs:List HD}{L:List LV}(h:ToldL s l r ws hs L):
  Calls Tryz.prog 78 #[.agg #[.int .i64 s,.int .i64 l,.int .i64 r],.slice A ws.length cap] w λe w'=>(∃LA lc,e= .returned (.tuple #[.slice LA L.length lc,.bool true])/\LsRd w' LA L.length L)/\Below w.heap.size w w':=by
 obtain⟨h1,h2,h3⟩:=h;obtain⟨hf,hhl⟩:=qgh h1;refine(qm1 s l r A cap ws hs w hr hlt h1 hf hhl).mono λe w' ⟨hE,hb⟩=>⟨?_,hb⟩
 rcases hE with ⟨L',v,g1,g2,rfl,g4⟩|⟨g,-⟩
 ·obtain rfl:=g1.one h2
  obtain⟨LA,lc,rfl,g5⟩:=LsRd.of_own g4;exact⟨LA,lc,rfl,g5⟩
 ·exact absurd g (h2.not_no h3)
theorem qqq(h:¬∃hs L,ToldL s l r ws hs L):
  Calls Tryz.prog 78 #[.agg #[.int .i64 s,.int .i64 l,.int .i64 r],.slice A ws.length cap] w λe w'=>e= .returned (.tuple #[.slice none 0 0,.bool false])/\Below w.heap.size w w':=by
 cases hho:qa3 s l r ws with
 |none=>exact qus s l r A cap ws w hr hn hlt hho
 |some hs=>
  obtain⟨hf,hhl⟩:=qgh hho;refine(qm1 s l r A cap ws hs w hr hlt hho hf hhl).mono λe w' ⟨hE,hb⟩=>⟨?_,hb⟩
  rcases hE with ⟨L',v,g1,g2,-,-⟩|⟨-,g⟩
  ·exact absurd ⟨hs,L',hho,g1,g2⟩ h
  ·exact g
end
theorem qu0{s l r:Int}{hs:List HD}{ws:List Nat}{L:List LV}(h:IsReach (rtL r ws) (kdO s l r hs ws) (obO s l r hs ws) L):∀o∈L,0<=o.sp/\0<o.wd/\o.wd<=1000/\∀t:Nat,64*(t:Int)<o.wd->o.sp+(t:Int)<s:=by
 intro o ho;obtain⟨-,-,q,e1,-,e⟩:=h.each o ho;obtain⟨b,hbm,-,-,-,hq⟩:=qnj e1;obtain⟨-,b1,b2,-,-,b5,b6,-,-,h',-,-,hwd,hk⟩:=qej hbm;have hsp:o.sp=b.2.1:=by rw[e,hq];rfl
 have hw:o.wd=b.2.2.2:=by rw[e,hq];rfl
 rw[hsp,hw];refine⟨b1,Zo,Zo,λt ht=>?_⟩;rcases hk with ⟨k1,k2,k3⟩|⟨k1,k2,k3,k4,k5,k6,k7,k8⟩
 ·have:b.2.2.2<=16:=by
   rw[hwd,adWd,if_neg Zo];unfold szN
   (repeat' split)<;>omega
  omega
 ·omega
theorem qqk(A:Option Addr)(cap:Nat)(ws:List Nat)(w:World)(hr:Rd w A ws.length (u64V ws))(hl:ws.length<=9223372036854775807)(hh:∀s l r,¬Hit ws s l r):
  Calls Tryz.prog 41 #[.slice A ws.length cap] w λe w'=>RRepE w.heap.size none e w'/\Below w.heap.size w w':=by
 have hs:=waa ((qea A cap ws w hr hl).mono λe w' ⟨h1,h2⟩=>(⟨h1.no hh,h2⟩:e=Ending.returned (.tuple #[.agg #[.int .i64 0,.int .i64 0,.int .i64 0],.bool false])/\Below w.heap.size w w'));clear hr hh;go_enter Tryz.func41,Tryz.ntmps41;go_wp2_with fail;refine hs.out.mono ?_;rintro e w1 ⟨rfl,hB⟩;have hB1:=hB.alloc hB.size (.cells #[.int .i64 0,.int .i64 0,.int .i64 0] 23);go_wp2_with fail;go_ret2;exact⟨RRepE.no rfl _ _,hB1⟩
theorem qh6(s l r:Int)(A:Option Addr)(cap:Nat)(ws:List Nat)(w:World)(hr:Rd w A ws.length (u64V ws))(hcap:ws.length<=cap)(hlt:∀x∈ws,x<18446744073709551616)(hh:Hit ws s l r):
  Calls Tryz.prog 41 #[.slice A ws.length cap] w λe w'=>RRepE w.heap.size (repF s l r ws l.toNat) e w'/\Below w.heap.size w w':=by
 obtain⟨i0,ii,iz0,iz1,iz2⟩:=info_parts qcg;have hf:fitB s l r ws.length=true:=fitB_iff.2 ⟨hh.1,hh.2.1⟩;have hb:=qaw hf;have hs:=waa ((qea A cap ws w hr Zo).mono λe w' ⟨h1,h2⟩=>(⟨h1.is hh,h2⟩:e=Ending.returned (.tuple #[.agg #[.int .i64 s,.int .i64 l,.int .i64 r],.bool true])/\Below w.heap.size w w'));have hla:=waa (λ(t:Nat) (ht:(t:Int)<l) (V:World) (hV:Below w.heap.size w V)=>qx0 s l r t A cap ws V (hr.below hV) hcap hf ht hlt);have hln:=waa (λ(t:Nat) (ht:(t:Int)<l) (V:World)=>show Calls Tryz.prog 77 #[.agg #[.int .i64 s,.int .i64 l,.int .i64 r],.int .i64 (t:Int)] V λe w'=>e= .returned (.int .i64 ((16+40*t:Nat):Int))/\Below V.heap.size V w' from by
  have:=qo4 s l r (t:Int) V
  rw[show qbl s l r (t:Int)=((16+40*t:Nat):Int) from(if_pos ⟨hh.1,Zo,ht⟩).trans Zo] at this;exact this)
 have hmy:=waa (λ(a:Int) (h0:0<=a) (h1:a<=16383) V=>q22 s l r a V Zo Zo);have hin:=waa (λ(a:Int) (h:qbj s l r a=true)=>show 0<=a/\a<(ws.length:Int) from by have:=imay_iff.1 h;omega);obtain⟨p,rfl,-⟩:=qa6 hr (show ws[0]? =some _ from waj Zo);have hrdc:=waa (λ(V:World) (hV:Below w.heap.size w V)=>show ∀j u,(u64V ws)[j]? =some u->V.cell? (p.add j)=some u from λj u hu=>by
  obtain⟨q,e,hq⟩:=(hr.below hV).2 Zo;obtain rfl:p=q:=by injection e
  exact hq j u hu)
 obtain⟨n,hn⟩:∃n,ws.length=n:=⟨_,rfl⟩
 have hl4:l.toNat<=4:=Zo
 obtain⟨m,hm⟩:∃m:Nat,l=(m:Int):=⟨l.toNat,Zo⟩
 have hlanes:16+40*m<=n:=Zo
 have hn2:128<=n/\n<=1328:=Zo
 have huv:=waa (show(u64V ws).length=n by rw[qai,hn]);have hone:=waa (show ∀u∈u64V ws,u.oneCell'=true by simp[u64V,Value.oneCell']);rw[hn] at hs hla ⊢;subst hm;clear hr hcap hh hlt;rw[wam];go_enter Tryz.func41,Tryz.ntmps41;go_wp2_with fail;refine hs.out.mono ?_;rintro e w1 ⟨rfl,hB⟩;have hB1:=hB.alloc hB.size (.cells #[.int .i64 s,.int .i64 (m:Int),.int .i64 r] 23);have hg1:=Gi.new w1 s (m:Int) r;have hgb:=hB.size;clear hB;have h0:((w1.alloc (.cells #[.int .i64 s,.int .i64 (m:Int),.int .i64 r] 23)).alloc (.cells #[] 27)).ownsRow w.heap.size 27 1 (.slice (some ⟨w1.heap.size+1,0,none⟩) 0 0) 0 []:=by
  have:=wcq (base:=w.heap.size) (e:=27) (size:=1) (w1.alloc (.cells #[.int .i64 s,.int .i64 (m:Int),.int .i64 r] 23)) #[] 0 hB1.size Zd rfl
  rw[wf7] at this;exact this
 have hB2:=hB1.alloc hB1.size (.cells #[] 27);have hrc:=waa (hrdc.out _ hB2);have hs2:=waa hB2.size;have hg2:=hg1.below ((wac _ _).alloc (wab _) (.cells #[] 27)) hg1.lt;go_wp2_with (at_builtin;go_loud (refine wpList_append_own _ rfl _ _ 40 rfl w.heap.size 27 i0 (.int .u64 0) 1 8 wbi ii iz0 iz1 iz2 rfl Zd _ 0 [] rfl h0 p n cap (u64V ws) rfl (by rw[huv.out];omega) hrc.out hone.out (by simp only[maxLen];omega) Zo hs2.out ?_);intro v' w3 hown hgrow _;obtain⟨g,cap2,rfl,hgb2,hgl⟩:=hown.form Zo;rw[wa4,wba] at hown;have hB3:=hB2.grown hgrow hs2.out (qa0 h0);have hg3:Gi w3 w1.heap.size s (m:Int) r:=(hgrow.block w1.heap.size hg2.lt (λe=>by have:=wco (show some w1.heap.size=some (w1.heap.size+1) from e);omega)).trans hg2)
 clear h0 hB2 hrc hs2 hg2 hg1 hB1 hgrow;generalize w1.heap.size=bg at hg3 ⊢;go_loopw [7,9] (λq _ wr=>∃(W:World) (t:Nat) (o:List Nat),W=wr/\q= .int .i64 (t:Int)/\t<=m/\Hid (repF s (m:Int) r ws t=some o)/\W.ownsRow w.heap.size 27 1 (.slice (some ⟨g,0,none⟩) n cap2) n (u64V o)/\Gi W bg s (m:Int) r/\Below w.heap.size w W) (λq _ _=>m - (RowKit.intOf q).toNat)
 case atStart=>exact⟨_,0,ws,rfl,rfl,wau _,waa rfl,hown,hg3,hB3⟩
 case round=>
  clear hown hg3 hB3;obtain⟨W,t,o,rfl,rfl,ht,hrep,hrow,hg,hB⟩:=hrel;obtain⟨c0,c1,c2,cf⟩:=hg.cells;have hol:o.length=n:=by have:=hrow.1;rw[qai] at this;omega
  have hgne:bg≠g:=λe=>qaz hg Zd hrow (by rw[e];rfl)
  have hgW:=(hrow.lt g rfl).2;by_cases htm:t<m
  ·have hyes:=waa (λh2=>qdw hrep.out h2)
   have hno:=waa (λh2=>qkw (qgz (s:=s) (l:=(m:Int)) (r:=r) (ws:=ws) (t:=t) h2) (show t+1<=m by omega));have hbd:=waa (qs1 (ws:=ws) (t:=t));have hel:=qkb ws t;have hlt:=waa (hla.out t Zo _ hB);generalize qak ws t=es at hyes hno hbd hel hlt;go_wp2_with fail;refine hlt.out.mono ?_;rintro e w4 ⟨v,rfl,hent,hC⟩;have hg4:=hg.below hC hg.lt;have hr4:=qaf hrow hC;have hB4:=hB.trans (hC.mono hB.size);obtain⟨Be,cape,rfl,hE⟩:=EsRd.of_own hent;have hEb:∀q,Be=some q->q.block≠g:=λq hq=>by subst hq;have:=qd5 hent;omega
   clear hlt hent hC hrow hg hB c0 c1 c2 cf hrep;go_wp2_with fail;go_loopw [9] (λq wr=>∃(V:World) (i:Nat) (o2:List Nat),V=wr/\q= .int .i64 (i:Int)/\i<=es.length/\Hid (putE o (es.take i)=o2)/\Hid ((es.take i).all (λe=>qbj s (m:Int) r e.1)=true)/\V.ownsRow w.heap.size 27 1 (.slice (some ⟨g,0,none⟩) n cap2) n (u64V o2)/\Gi V bg s (m:Int) r/\EsRd V Be es.length es/\Below w.heap.size w V) (λq _=>es.length - (RowKit.intOf q).toNat)
   case atStart=>exact⟨_,0,o,rfl,rfl,wau _,waa rfl,waa rfl,hr4,hg4,hE,hB4⟩
   case round=>
    clear hr4 hg4 hE hB4;obtain⟨V,i,o2,rfl,rfl,hi,hpt,hal,hrow,hg,hE,hB⟩:=hrel;have ho2:o2.length=n:=by have:=hrow.1;rw[qai] at this;omega
    by_cases hil:i<es.length
    ·obtain⟨pe,a,x,rfl,hd,hmem,e0,e1⟩:=hE.at_ hil
     have hei:es[i]? =some (a,x):=by
      have:=wbc hil
      rw[hd] at this;injection this with q1 q2;rw[waj hil,q1]
     obtain⟨a0,a1⟩:=hbd.out _ hmem;have a0':0<=a:=a0;have a1':a<=16383:=a1;have hpe:=hEb pe rfl;have hpb:(pe.add (i*2)).block≠g:=by unfold Addr.add;split<;>exact hpe
     have g0:(0:Int)<=(i:Int):=Zo
     have g1:(i:Int)<(es.length:Int):=Zo
     have hmc:=λU=>hmy.out a a0' a1' U
     obtain⟨x0,x1,x2,xf⟩:V.drew.cell? ⟨bg,0,none⟩=some (.int .i64 s)/\V.drew.cell? ⟨bg,1,none⟩=some (.int .i64 (m:Int))/\V.drew.cell? ⟨bg,2,none⟩=some (.int .i64 r)/\(∀o,V.drew.frozen? ⟨bg,o,none⟩=false):=hg.cells;have x3:V.drew.cell? (pe.add (i*2))=some (.int .i64 a):=e0;clear hd hmem a0 a1 e0 e1;cases him:qbj s (m:Int) r a with
     |false=>
      rw[him] at hmc;have hmc':=waa hmc;have hon:=waa (hno.out (q2k hei him));clear hmc him hei hpt hal;go_wp2_with fail;go_region_held3 (λV=>V.cell? ⟨bg,0,none⟩=some (.int .i64 s)/\V.cell? ⟨bg,1,none⟩=some (.int .i64 (m:Int))/\V.cell? ⟨bg,2,none⟩=some (.int .i64 r)/\V.cell? (pe.add (i*2))=some (.int .i64 a))
       (first|with_reducible exact⟨x0,x1,x2,x3⟩|with_reducible exact⟨y0,y1,y2,y3⟩)
       (
        (go_at_call 76
         refine(hmc'.out _).mono ?_;rintro e w5 ⟨rfl,hC⟩;have hC5:=(wac V.heap.size V).drew.trans (hC.mono (wab _));have hg5:=hg.below hC5 hg.lt;have hr5:=qaf hrow hC5;have hE5:=hE.below hC5;have hB5:=hB.trans (hC5.mono hB.size);obtain⟨y0,y1,y2,yf⟩:=hg5.cells;have y3:=(hC.cell (wak _ _ x3)).trans x3))
      go_wp2_with fail;try rw[wa0]
      go_ret2;exact⟨RRepE.no hon.out _ _,hB5⟩
     |true=>
      rw[him] at hmc;have hmc':=waa hmc;have hal2:=waa (qt3 hal.out hei him);obtain⟨b0,b1⟩:=hin.out a him;obtain⟨a,rfl⟩:=waz a0';have hpt2:=waa (show putE o (es.take (i+1))=o2.set a x by rw[quj hei,hpt.out,wam]);have b2:(0:Int)<=(a:Int):=b0;have b3:(a:Int)<(n:Int):=Zo
      have hei':=waa hei;clear hmc him hei hpt hal b0 b1;go_wp2_with fail;go_region_held3 (λV=>V.cell? ⟨bg,0,none⟩=some (.int .i64 s)/\V.cell? ⟨bg,1,none⟩=some (.int .i64 (m:Int))/\V.cell? ⟨bg,2,none⟩=some (.int .i64 r)/\V.cell? (pe.add (i*2))=some (.int .i64 (a:Int)))
       (first|with_reducible exact⟨x0,x1,x2,x3⟩|with_reducible exact⟨y0,y1,y2,y3⟩)
       (
        (go_at_call 76
         refine(hmc'.out _).mono ?_;rintro e w5 ⟨rfl,hC⟩;have hC5:=(wac V.heap.size V).drew.trans (hC.mono (wab _));have hg5:=hg.below hC5 hg.lt;have hr5:=qaf hrow hC5;have hE5:=hE.below hC5;have hB5:=hB.trans (hC5.mono hB.size);obtain⟨y0,y1,y2,yf⟩:=hg5.cells;have y3:=(hC.cell (wak _ _ x3)).trans x3))
      clear x0 x1 x2 xf x3 y0 y1 y2 yf hg hE hB hC hrow;obtain⟨pe',a',x',q1,q2,q3,e0,e1⟩:=hE5.at_ hil;have hxx:a'=(a:Int)/\x'=x:=by
       have:=wbc hil
       rw[q2] at this;injection this with s1 s2;have h5:=hei'.out;rw[waj hil,<-s1] at h5;injection h5 with h5;injection h5 with h6 h7;exact⟨h6,h7⟩
      injection q1 with q1;subst q1;obtain⟨r1,r2⟩:=hxx;subst r1 r2;have z0:w5.drew.cell? (pe.add (i*2))=some (.int .i64 (a:Int)):=e0;have z1:w5.drew.cell? ⟨(pe.add (i*2)).block,(pe.add (i*2)).off+1,none⟩=some (.int .u64 (x':Int)):=e1;have hcell:=hr5.cellAt a Zo;obtain⟨u,hu⟩:∃u,(u64V o2)[a]? =some u:=⟨_,waj (by rw[qai];omega)⟩
      rw[hu] at hcell;have z2:w5.drew.cell? ⟨g,a,none⟩=some u:=hcell;have z3:w5.drew.frozen? ⟨g,a,none⟩=false:=hr5.frozenAt a;have hso:=(World.ownsRow.stored (w:=w5.drew) hr5 a (.int .u64 (x':Int))).1;rw[qfw] at hso;have hg6:Gi (w5.drew.setCell ⟨g,a,none⟩ (.int .u64 (x':Int))) bg s (m:Int) r:=Gi.other (V:=w5.drew) hg5 hgne;have hE6:=qr5 (w:=w5.drew) (o:=a) (u:= .int .u64 (x':Int)) hE5 hpe;have hgb3:=qd5 hr5;have hB6:=hB5.drew.setCell (p:=⟨g,a,none⟩) hgb3 (.int .u64 (x':Int));clear q2 q3 hu hcell e0 e1 hg5 hr5 hE5 hB5 hei';go_wp2_with fail;go_region_held3 (λV=>V.cell? (pe.add (i*2))=some (.int .i64 (a:Int))/\V.cell? ⟨(pe.add (i*2)).block,(pe.add (i*2)).off+1,none⟩=some (.int .u64 (x':Int)))
       (first|with_reducible exact⟨z0,z1⟩|exact⟨qaq z0 hpb,qaq z1 hpb⟩)
       (fail)
      go_wp2_with fail;go_roundw
      case rel=>exact⟨_,i+1,_,rfl,by go_num,Zo,hpt2,hal2,hso,hg6,hE6,hB6⟩
      case measure=>simp[RowKit.intOf];omega
    ·obtain rfl:i=es.length:=Zo
     rw[wbz] at hpt hal;have hst:=waa (hyes.out hal.out);rw[hpt.out] at hst;have hln':=waa (hln.out t Zo);obtain⟨a,ha⟩:∃a,16+40*t=a:=⟨_,rfl⟩
     rw[ha] at hst hln';have b2:(0:Int)<=(a:Int):=Zo
     have b3:(a:Int)<(n:Int):=Zo
     obtain⟨c0,c1,c2,cf⟩:=hg.cells;clear ha hpt hal;go_wp2_with fail;refine(hln'.out _).mono ?_;rintro e w5 ⟨rfl,hC⟩;have hg5:=hg.below hC hg.lt;have hr5:=qaf hrow hC;have hB5:=hB.trans (hC.mono hB.size);have hcell:=hr5.cellAt a Zo;obtain⟨u,hu⟩:∃u,(u64V o2)[a]? =some u:=⟨_,waj (by rw[qai];omega)⟩
     rw[hu] at hcell;have hfz:=hr5.frozenAt a;have hso:=(hr5.stored a (.int .u64 ((0:Nat):Int))).1;rw[qfw] at hso;have hg6:=Gi.other (o:=a) (y:= .int .u64 ((0:Nat):Int)) hg5 hgne;have hgb3:=qd5 hr5;have hB6:=hB5.setCell (p:=⟨g,a,none⟩) hgb3 (.int .u64 ((0:Nat):Int));clear hu hg hE hB hC hrow c0 c1 c2 cf hg5 hr5 hB5;go_wp2_with fail;go_roundw
     case rel=>exact⟨_,t+1,_,rfl,by go_num,Zo,hst,hso,hg6,hB6⟩
     case measure=>simp[RowKit.intOf];omega
  ·obtain rfl:t=m:=Zo
   have hrow2:W.ownsRow w.heap.size 27 1 (.slice (some ⟨g,0,none⟩) n cap2) o.length (u64V o):=by rw[hol];exact hrow
   go_wp2_with fail;go_ret2;exact⟨RRepE.yes hrep.out hrow2,hB⟩
theorem qof(A:Option Addr)(cap:Nat)(ws:List Nat)(w:World)(hr:Rd w A ws.length (u64V ws))(hcap:ws.length<=cap)(hl:ws.length<=9223372036854775807)(hlt:∀x∈ws,x<18446744073709551616):
  Calls Tryz.prog 41 #[.slice A ws.length cap] w λe w'=>((∃s l r,Hit ws s l r/\RRepE w.heap.size (repF s l r ws l.toNat) e w')\/((∀s l r,¬Hit ws s l r)/\RRepE w.heap.size none e w'))/\Below w.heap.size w w':=by
 by_cases hh:∃s l r,Hit ws s l r
 ·obtain⟨s,l,r,hh⟩:=hh
  exact(qh6 s l r A cap ws w hr hcap hlt hh).mono λe w' ⟨h1,h2⟩=>⟨.inl ⟨s,l,r,hh,h1⟩,h2⟩
 ·have hno:∀s l r,¬Hit ws s l r:=λs l r h=>hh ⟨s,l,r,h⟩
  exact(qqk A cap ws w hr hl hno).mono λe w' ⟨h1,h2⟩=>⟨.inr ⟨hno,h1⟩,h2⟩
end Go.Proofs.YtocncmbeinmiaaaGreat
namespace Go.Proofs.YtocncmbeinmiaaaGreat
open Go Go.RowKit Go.ChangeShapes Go.WideShapes Go.Deep
theorem qjq{ops:Array Oper}{rest:List Oper}{o:Oper}{a:Act}{Q:Exit->Act->World->Prop}{w:World}(hgd:o.guard=none)(s x:Operand)(ho:o.op= .call {callee:= .builtin .append,args:=#[s,x],argTypes:=#[40,40]})(base:Nat)(v:Value)(hs:a.eval s=v)(hown:w.ownsRow base 27 1 v 0 [])(A:Option Addr)(n c:Nat)(ws:List Nat)(hx:a.eval x= .slice A n c)(hn:ws.length=n)(hA:Keep ((A=none/\n=0/\c=0)\/∃q,A=some q))(hr:Rd w A n (u64V ws))(hsm:n<=100000)(hb:base<=w.heap.size)(h:∀v' w',w'.ownsRow base 27 1 v' n (u64V ws)->Below base w w'->wpList Tryz.prog ops Q rest (a.put o.dst v') w'):wpList Tryz.prog ops Q (o::rest) a w:=by
 obtain⟨i0,ii,iz0,iz1,iz2⟩:=info_parts qcg;rcases hA.out with ⟨rfl,rfl,rfl⟩|⟨q,rfl⟩
 ·obtain rfl:ws=[]:=wdu hn
  exact wpList_append_own_none hgd s x 40 ho base 27 i0 1 wbi ii v 0 [] hs hown hx (h v w hown (wac _ _))
 ·have hc:∀j u,(u64V ws)[j]? =some u->w.cell? (q.add j)=some u:=by
   intro j u hu;have hj:=(wan.1 hu).1;rw[qai] at hj;obtain⟨p,e,hp⟩:=hr.2 Zo;obtain rfl:q=p:=by injection e
   exact hp j u hu
  refine wpList_append_own w hgd s x 40 ho base 27 i0 (.int .u64 0) 1 8 wbi ii iz0 iz1 iz2 rfl Zd v 0 [] hs hown q n c (u64V ws) hx (by rw[qai];omega) hc (by simp[u64V,Value.oneCell']) (by simp only[maxLen];omega) Zo hb ?_;intro v' w' h1 h2 _;rw[wa4,wba] at h1;exact h v' w' h1 ((wac base w).grown h2 hb (qa0 hown))
section
variable {H:Type} {enc:TypeId×Value->H} {W:World} {held:Bool}
end
end Go.Proofs.YtocncmbeinmiaaaGreat
