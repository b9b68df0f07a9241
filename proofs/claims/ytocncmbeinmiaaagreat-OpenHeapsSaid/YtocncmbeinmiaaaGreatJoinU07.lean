/- Parts. No condition. -/
import Derived.Test.YtocncmbeinmiaaaGreatJoinU06
set_option linter.unusedVariables false
set_option maxRecDepth 100000
set_option maxHeartbeats 8000000
namespace Go.Proofs.YtocncmbeinmiaaaGreat
open Go Go.RowKit
theorem qzk(k c n s:Nat)(w:World)(hk:k<4)(hc:c<8)(hn:n<8)(hs:s<4294967296):
  Calls Tryz.prog 141 #[.agg #[.int .i64 (k:Int),.int .i64 (c:Int),.int .i64 (n:Int)],.int .u32 (s:Int)] w λe w'=>e= .returned (.int .u64 ((k+4*c+32*n+4294967296*s:Nat):Int))/\Below w.heap.size w w':=by
 have hj:=q05 hk hc hn hs;have hjn:∀(A0 A1:Option Addr) (V:World),Rd V A0 5 (i64V [2,3,3,24,32])->Rd V A1 5 (u64V [k,c,n,0,s])->Calls Tryz.prog 178 #[.slice A0 5 5,.slice A1 5 5] V λe w'=>e= .returned (.tuple #[.int .u64 ((k+4*c+32*n+4294967296*s:Nat):Int),.bool true])/\Below V.heap.size V w':=λA0 A1 V h0 h1=>by
  have h:=qiq A0 A1 5 5 [2,3,3,24,32] [k,c,n,0,s] V h0 h1 Zd Zs Zd (by intro x hx;simp at hx;omega);rw[hj] at h;exact h
 have hjn':=waa hjn;clear hj hjn;have k0:IntKind.u64.wrap (k:Int)=(k:Int):=by rw[wa5];omega
 have k1:IntKind.u64.wrap (c:Int)=(c:Int):=by rw[wa5];omega
 have k2:IntKind.u64.wrap (n:Int)=(n:Int):=by rw[wa5];omega
 have k3:IntKind.u64.wrap (s:Int)=(s:Int):=by rw[wa5];omega
 go_enter Tryz.func141,Tryz.ntmps141;go_wp2_with fail;obtain⟨hx0,hx1,hx2⟩:=qer w k c n;go_region_held3 (λV=>V.cell? ⟨w.heap.size,0,none⟩=some (.int .i64 (k:Int))/\V.cell? ⟨w.heap.size,1,none⟩=some (.int .i64 (c:Int))/\V.cell? ⟨w.heap.size,2,none⟩=some (.int .i64 (n:Int)))
  (first|go_keep|with_reducible exact⟨hy0,hy1,hy2⟩)
  (first
   |(go_at_call 175;refine(qld _).mono ?_;rintro e w' ⟨rfl,rfl⟩)
   |(go_at_call 178
     first
      |refine(hjn'.out _ _ _ (qch (qd0 (qbv Zr Zr Zs) _)) (qch (qbv Zr Zr Zs))).mono ?_
      |refine(hjn'.out _ _ _ (qch (qbv Zr Zr Zs)) (qch (qd0 (qbv Zr Zr Zs) _))).mono ?_
     rintro e w1 ⟨rfl,hB⟩;have hBx:=(((wac (w.heap.size+1) (w.alloc (.cells #[.int .i64 (k:Int),.int .i64 (c:Int),.int .i64 (n:Int)] 82))).alloc Zs _).alloc Zs _).drew.trans (hB.mono Zs);have hy0:=(hBx.cell (p:=⟨w.heap.size,0,none⟩) Zs).trans hx0;have hy1:=(hBx.cell (p:=⟨w.heap.size,1,none⟩) Zs).trans hx1;have hy2:=(hBx.cell (p:=⟨w.heap.size,2,none⟩) Zs).trans hx2;have hB1:=(qat w k c n).trans (hBx.mono Zo)))
 all_goals
  go_wp2_with fail;go_ret;exact⟨rfl,hB1⟩
def Hd(V:World)(b:Nat)(k c n:Int):Prop:=V.heap[b]? =some (.cells #[.int .i64 k,.int .i64 c,.int .i64 n] 82 (0,0))
theorem Hd.below{V V':World}{b B:Nat}{k c n:Int}(h:Hd V b k c n)(hb:Below B V V')(hB:b<B):Hd V' b k c n:=(hb.block b hB).trans h
theorem Hd.lt{V:World}{b:Nat}{k c n:Int}(h:Hd V b k c n):b<V.heap.size:=(wal.1 h).1
theorem Hd.cells{V:World}{b:Nat}{k c n:Int}(h:Hd V b k c n):V.cell? ⟨b,0,none⟩=some (.int .i64 k)/\V.cell? ⟨b,1,none⟩=some (.int .i64 c)/\V.cell? ⟨b,2,none⟩=some (.int .i64 n)/\(∀o,V.frozen? ⟨b,o,none⟩=false):=
 ⟨by rw[qaa h];rfl,by rw[qaa h];rfl,by rw[qaa h];rfl,λo=>qaj h o⟩
theorem Hd.new(W:World)(k c n:Int):Hd (W.alloc (.cells #[.int .i64 k,.int .i64 c,.int .i64 n] 82)) W.heap.size k c n:=World.alloc_heap_new W _
theorem Hd.below_set{W V:World}{b:Nat}{k' c' n':Int}{B:Nat}(h:Below B W V)(hB:B<=b):Below B W (((V.setCell ⟨b,0,none⟩ (.int .i64 k')).setCell ⟨b,1,none⟩ (.int .i64 c')).setCell ⟨b,2,none⟩ (.int .i64 n')):=
 ((h.setCell (p:=⟨b,0,none⟩) hB _).setCell (p:=⟨b,1,none⟩) hB _).setCell (p:=⟨b,2,none⟩) hB _
theorem q96{w:World}{A:Option Addr}{a b c d f:Nat}(h:Rd w A 5 (u64V [a,b,c,d,f])):∃p:Addr,A=some p/\w.cell? p=some (.int .u64 (a:Int))/\w.cell? ⟨p.block,p.off+1,none⟩=some (.int .u64 (b:Int))/\w.cell? ⟨p.block,p.off+2,none⟩=some (.int .u64 (c:Int)):=by
 obtain⟨p,rfl,hc⟩:=h.2 Zo;exact⟨p,rfl,hc 0 _ rfl,hc 1 _ rfl,hc 2 _ rfl⟩
theorem q8y(x:Nat)(w:World)(hx:x<18446744073709551616):Calls Tryz.prog 134 #[.int .u64 (x:Int)] w λe w'=>e= .returned (.agg #[.int .i64 ((x%4:Nat):Int),.int .i64 ((x/4%8:Nat):Int),.int .i64 ((x/32%8:Nat):Int)])/\Below w.heap.size w w':=by
 have hspl:=qxv hx;obtain⟨a,ha⟩:∃a:Nat,a=x%4:=⟨_,rfl⟩
 obtain⟨b,hb⟩:∃b:Nat,b=x/4%8:=⟨_,rfl⟩
 obtain⟨c,hc⟩:∃c:Nat,c=x/32%8:=⟨_,rfl⟩
 rw[<-ha,<-hb,<-hc] at hspl ⊢;have hsp:∀(A:Option Addr) (V:World),Rd V A 5 (i64V [2,3,3,24,32])->Calls Tryz.prog 169 #[.slice A 5 5,.int .u64 (x:Int)] V λe w'=>(∃B d,e= .returned (.tuple #[.slice B 5 d,.bool true])/\Rd w' B 5 (u64V [a,b,c,x/256%16777216,x/4294967296%4294967296]))/\Below V.heap.size V w':=λA V h0=>
  (qhq A 5 [2,3,3,24,32] x V h0 Zd Zd hx).mono λe w' ⟨h1,h2⟩=>by
   obtain⟨B,d,e1,e2⟩:=h1.is hspl;exact⟨⟨B,d,e1,e2⟩,h2⟩
 have ha2:a<4:=Zo
 have hb2:b<8:=Zo
 have hc2:c<8:=Zo
 have ka:IntKind.i64.wrap (a:Int)=(a:Int):=wao _ Zo;have kb:IntKind.i64.wrap (b:Int)=(b:Int):=wao _ Zo;have kc:IntKind.i64.wrap (c:Int)=(c:Int):=wao _ Zo;clear hx ha hb hc hspl;have hg0:=Hd.new w 0 0 0;have hB0:=qat w 0 0 0;go_enter Tryz.func134,Tryz.ntmps134;go_wp2_with fail;refine(qld _).mono ?_;rintro e w' ⟨rfl,rfl⟩;go_wp2_with fail;have hs0:(w.alloc (.cells #[.int .i64 0,.int .i64 0,.int .i64 0] 82)).heap.size=w.heap.size+1:=by simp
 generalize (w.alloc (.cells #[.int .i64 0,.int .i64 0,.int .i64 0] 82))=W0 at hg0 hB0 hs0 ⊢;refine(hsp _ _ (qbv rfl Zr hs0)).mono ?_;rintro e w1 ⟨⟨B,d,rfl,hrd⟩,hB⟩;obtain⟨p,rfl,r0,r1,r2⟩:=q96 hrd;have hb1:=((wac W0.heap.size W0).alloc (wab _) (.cells #[.int .i64 2,.int .i64 3,.int .i64 3,.int .i64 24,.int .i64 32] 3)).trans (hB.mono Zs);have hB1:=hB0.trans (hb1.mono hB0.size);have hg1:=hg0.below hb1 hg0.lt;obtain⟨c0,c1,c2,f⟩:=hg1.cells;clear hB hb1 hB0 hg0 hsp hrd hs0;go_wp2_with fail;go_still_tail 13,Zk
 change wpList _ _ _ _ _ (World.drew _);go_wp2_with fail;exact bodyPost_ret (v:= .agg #[.int .i64 (a:Int),.int .i64 (b:Int),.int .i64 (c:Int)]) (by simp[results,Tryz.results134,go_sem,c0,c1,c2]) rfl ⟨rfl,by refine Below.drew ?_;(iterate 3 refine wa7 ?_ (by exact wab _) _);exact hB1⟩
theorem qog(k c n:Int)(w:World)(h:qav k c n=false):Calls Tryz.prog 99 #[.agg #[.int .i64 k,.int .i64 c,.int .i64 n]] w λe w'=>e= .returned (.tuple #[.int .u64 0,.bool false])/\Below w.heap.size w w':=by
 have hm:=λV=>qg6 k c n V
 rw[h] at hm;have hm':=waa hm;clear h hm;have hB0:=qat w k c n;go_enter Tryz.func99,Tryz.ntmps99;go_wp2_with fail;refine(hm'.out _).mono ?_;rintro e w1 ⟨rfl,hB⟩;go_wp2_with fail;go_ret2;exact⟨rfl,hB0.trans (hB.mono Zs)⟩
theorem q34(w:World):Calls Tryz.prog 99 #[.agg #[.int .i64 0,.int .i64 0,.int .i64 0]] w λe w'=>e= .returned (.tuple #[.int .u64 0,.bool true])/\Below w.heap.size w w':=by
 have hm:=λV=>qg6 0 0 0 V
 rw[show qav 0 0 0=true by decide] at hm;have hm':=waa hm;clear hm;have hg:=Hd.new w 0 0 0;have hB0:=qat w 0 0 0;go_enter Tryz.func99,Tryz.ntmps99;go_wp2_with fail;refine(hm'.out _).mono ?_;rintro e w1 ⟨rfl,hB⟩;obtain⟨c0,c1,c2,f⟩:=(hg.below hB hg.lt).cells;go_wp2_with fail;go_ret2;exact⟨rfl,hB0.trans (hB.mono Zs)⟩
theorem q5q(k c n:Nat)(w:World)(h:qav (k:Int) (c:Int) (n:Int)=true)(hk:k≠0):Calls Tryz.prog 99 #[.agg #[.int .i64 (k:Int),.int .i64 (c:Int),.int .i64 (n:Int)]] w λe w'=>e= .returned (.tuple #[.int .u64 ((qce (k:Int) (c:Int) (n:Int):Nat):Int),.bool true])/\Below w.heap.size w w':=by
 have hm:=λV=>qg6 (k:Int) (c:Int) (n:Int) V
 rw[h] at hm;have hm':=waa hm;clear hm;obtain⟨-,b1,-,b3,-,b5⟩:=qd6 h;obtain⟨lo,hlo⟩:∃lo:Nat,lo=k+4*c+32*n:=⟨_,rfl⟩
 have hlow:qeg (k:Int) (c:Int) (n:Int)=lo:=by unfold qeg;omega
 have hloB:lo<256:=Zo
 obtain⟨s,hs⟩:∃s:Nat,s=crcW [lo]:=⟨_,rfl⟩
 have hsB:s<4294967296:=by rw[hs];exact qf0 _
 have hW:qce (k:Int) (c:Int) (n:Int)=lo+4294967296*s:=by rw[qgq Zo,hlow,hs]
 have hk0:((k:Int)==0)=false:=beq_eq_false_iff_ne.2 Zo;have hof:∀(A:Option Addr) (V:World),Rd V A 1 (u64V [lo])->Calls Tryz.prog 142 #[.slice A 1 1] V λe w'=>e= .returned (.int .u32 (s:Int))/\V=w':=λA V hV=>by
  have:=q5l A 1 [lo] V hV Zs (by intro b hb;simp at hb;omega)
  rw[<-hs] at this;exact this
 obtain⟨jw,hjw⟩:∃jw:Int->Int,∀t:Int,jw t=(lo:Int)+4294967296*t:=⟨_,λ_=>rfl⟩
 have hj:∀(t:Int) (V:World),0<=t->t<4294967296->Calls Tryz.prog 141 #[.agg #[.int .i64 (k:Int),.int .i64 (c:Int),.int .i64 (n:Int)],.int .u32 t] V λe w'=>e= .returned (.int .u64 (jw t))/\Below V.heap.size V w':=λt V h0 h1=>by
  obtain⟨t',rfl⟩:=waz h0;have:=qzk k c n t' V Zo Zo Zo Zo
  rw[show((k+4*c+32*n+4294967296*t':Nat):Int)=jw (t':Int) by rw[hjw];omega] at this;exact this
 have hj0:Keep (jw 0=(lo:Int)):=keep (by rw[hjw];omega);have hjs:Keep (jw (s:Int)=((qce (k:Int) (c:Int) (n:Int):Nat):Int)):=keep (by rw[hjw,hW];omega);have hof':=waa hof;have hj':=waa hj;have hs0:(0:Int)<=(s:Int):=Zo
 have hs1:(s:Int)<4294967296:=Zo
 have hg:=Hd.new w (k:Int) (c:Int) (n:Int);have hB0:=qat w (k:Int) (c:Int) (n:Int);have hkK:=keep hk;clear hof hj hjw hW hs hlow hlo h b1 b3 b5 hloB hsB hk;go_enter Tryz.func99,Tryz.ntmps99;go_wp2_with fail;refine(hm'.out _).mono ?_;rintro e w1 ⟨rfl,hB⟩;have hg1:=hg.below hB hg.lt;have hB1:=(hB0.trans (hB.mono hB0.size)).drew;obtain⟨c0,c1,c2,f⟩:=hg1.cells;obtain⟨d0,d1,d2,d3⟩:=Hd.cells (V:=w1.drew) hg1;have hl1:=hg1.lt;clear hg hB0 hB hm';go_wp2_with fail;go_region_held3 (λV=>V.cell? ⟨w.heap.size,0,none⟩=some (.int .i64 (k:Int))/\V.cell? ⟨w.heap.size,1,none⟩=some (.int .i64 (c:Int))/\V.cell? ⟨w.heap.size,2,none⟩=some (.int .i64 (n:Int)))
  (first|with_reducible exact⟨d0,d1,d2⟩|with_reducible exact⟨x0,x1,x2⟩|with_reducible exact⟨y0,y1,y2⟩|with_reducible exact⟨z0,z1,z2⟩)
  (first
   |(go_at_call 142;refine(hof'.out _ _ (qbv (by rw[hj0.out];rfl) Zr Zr)).mono ?_;rintro e w3 ⟨rfl,rfl⟩)
   |(go_at_call 141;refine(hj'.out _ _ Zo Zo).mono ?_;rintro e wj ⟨rfl,hC⟩
     first
      |(have hg4:=hg3.below hC hg3.lt;have hB4:=hB3.trans (hC.mono hB3.size);obtain⟨z0,z1,z2,z3⟩:=hg4.cells)
      |(have hg2:Hd wj w.heap.size (k:Int) (c:Int) (n:Int):=Hd.below (V:=w1.drew) hg1 hC hl1;have hB2:=hB1.trans (hC.mono hB1.size);have hg3:=hg2.below ((wac _ wj).alloc (wab _) (.cells #[.int .u64 (jw 0)] 27)) hg2.lt;have hB3:=hB2.alloc hB2.size (.cells #[.int .u64 (jw 0)] 27);obtain⟨x0,x1,x2,x3⟩:=hg2.cells;obtain⟨y0,y1,y2,y3⟩:=hg3.cells)))
 all_goals
  go_wp2_with fail;go_ret2;exact⟨by rw[hjs.out];rfl,hB4⟩
theorem qio(k c n:Int)(w:World)(h:qav k c n=true):Calls Tryz.prog 99 #[.agg #[.int .i64 k,.int .i64 c,.int .i64 n]] w λe w'=>e= .returned (.tuple #[.int .u64 ((qce k c n:Nat):Int),.bool true])/\Below w.heap.size w w':=by
 by_cases hk:k=0
 ·have:=hmay_iff.1 h
  obtain⟨rfl,rfl,rfl⟩:k=0/\c=0/\n=0:=Zo
  exact q34 w
 ·have hb:=qd6 h
  obtain⟨k',rfl⟩:=waz hb.1;obtain⟨c',rfl⟩:=waz hb.2.2.1;obtain⟨n',rfl⟩:=waz hb.2.2.2.2.1;exact q5q k' c' n' w h Zo
theorem qqs(x:Nat)(w:World)(hx:x<18446744073709551616):Calls Tryz.prog 91 #[.int .u64 (x:Int)] w λe w'=>HeadE x e/\Below w.heap.size w w':=by
 have ht:=λV=>q8y x V hx
 obtain⟨k,hk⟩:∃k:Int,k=((x%4:Nat):Int):=⟨_,rfl⟩
 obtain⟨c,hc⟩:∃c:Int,c=((x/4%8:Nat):Int):=⟨_,rfl⟩
 obtain⟨n,hn⟩:∃n:Int,n=((x/32%8:Nat):Int):=⟨_,rfl⟩
 rw[<-hk,<-hc,<-hn] at ht;have hg0:=Hd.new w 0 0 0;have hB0:=qat w 0 0 0;have hne:¬HHit x k c n->∀k c n,¬HHit x k c n:=λh=>HHit.no (by rwa [<-hk,<-hc,<-hn])
 have ht':=waa ht;clear ht hk hc hn;have hne':=waa hne;clear hne;cases hm:qav k c n with
 |false=>
  have hE:HeadE x (.returned (.tuple #[.agg #[.int .i64 0,.int .i64 0,.int .i64 0],.int .i64 11])):= .inr ⟨hne'.out (λh=>by rw[h.1] at hm;cases hm),rfl⟩;have hw:=waa (λV=>qog k c n V hm);clear hm hx;go_enter Tryz.func91,Tryz.ntmps91;go_wp2_with fail;refine(ht'.out _).mono ?_;rintro e w1 ⟨rfl,hB⟩;have hg1:=hg0.below hB hg0.lt;have hB1:=hB0.trans (hB.mono hB0.size);have hh:=Hd.new w1 k c n;have hg2:=hg1.below ((wac _ w1).alloc (wab _) (.cells #[.int .i64 k,.int .i64 c,.int .i64 n] 82)) hg1.lt;have hB2:=hB1.alloc hB1.size (.cells #[.int .i64 k,.int .i64 c,.int .i64 n] 82);clear hg0 hB0 hB hg1 hB1 ht';go_wp2_with fail;generalize (w1.alloc (.cells #[.int .i64 k,.int .i64 c,.int .i64 n] 82))=W2 at hh hg2 hB2 ⊢;refine(hw.out _).mono ?_;rintro e w3 ⟨rfl,hC⟩;have hg3:=hg2.below hC hg2.lt;have hB3:=hB2.trans (hC.mono hB2.size);obtain⟨c0,c1,c2,f⟩:=hg3.cells;clear hh hg2 hB2 hC;go_wp2_with fail;exact bodyPost_ret (v:= .tuple #[.agg #[.int .i64 0,.int .i64 0,.int .i64 0],.int .i64 11]) (by simp[results,Tryz.results91,go_sem,c0,c1,c2]) rfl ⟨hE,Hd.below_set hB3 (wab _)⟩
 |true=>
  obtain⟨v,hv⟩:∃v:Nat,v=qce k c n:=⟨_,rfl⟩
  have hw:=λV=>qio k c n V hm
  rw[<-hv] at hw;have hw':=waa hw;clear hw;by_cases hvx:v=x
  ·have hE:HeadE x (.returned (.tuple #[.agg #[.int .i64 k,.int .i64 c,.int .i64 n],.int .i64 0])):= .inl ⟨k,c,n,⟨hm,by rw[<-hv,hvx]⟩,rfl⟩
   have hne2:((v:Int) !=(x:Int))=false:=by rw[hvx];simp
   clear hm hx hvx hv;go_enter Tryz.func91,Tryz.ntmps91;go_wp2_with fail;refine(ht'.out _).mono ?_;rintro e w1 ⟨rfl,hB⟩;have hg1:=hg0.below hB hg0.lt;have hB1:=hB0.trans (hB.mono hB0.size);have hh:=Hd.new w1 k c n;have hg2:=hg1.below ((wac _ w1).alloc (wab _) (.cells #[.int .i64 k,.int .i64 c,.int .i64 n] 82)) hg1.lt;have hB2:=hB1.alloc hB1.size (.cells #[.int .i64 k,.int .i64 c,.int .i64 n] 82);clear hg0 hB0 hB hg1 hB1 ht';go_wp2_with fail;generalize (w1.alloc (.cells #[.int .i64 k,.int .i64 c,.int .i64 n] 82))=W2 at hh hg2 hB2 ⊢;refine(hw'.out _).mono ?_;rintro e w3 ⟨rfl,hC⟩;have hg3:=hg2.below hC hg2.lt;have hh3:=hh.below hC hh.lt;have hB3:=hB2.trans (hC.mono hB2.size);obtain⟨c0,c1,c2,f⟩:=hg3.cells;obtain⟨h0,h1,h2,h3⟩:=hh3.cells;clear hh hg2 hB2 hC;go_wp2_with fail;exact bodyPost_ret (v:= .tuple #[.agg #[.int .i64 k,.int .i64 c,.int .i64 n],.int .i64 0]) (by simp[results,Tryz.results91,go_sem,c0,c1,c2]) rfl ⟨hE,Hd.below_set hB3 (wab _)⟩
  ·have hE:HeadE x (.returned (.tuple #[.agg #[.int .i64 0,.int .i64 0,.int .i64 0],.int .i64 11])):= .inr ⟨hne'.out (λh=>hvx (by rw[hv,h.2])),rfl⟩
   have hne2:((v:Int) !=(x:Int))=true:=bne_iff_ne.2 Zo;clear hm hx hvx hv;go_enter Tryz.func91,Tryz.ntmps91;go_wp2_with fail;refine(ht'.out _).mono ?_;rintro e w1 ⟨rfl,hB⟩;have hg1:=hg0.below hB hg0.lt;have hB1:=hB0.trans (hB.mono hB0.size);have hh:=Hd.new w1 k c n;have hg2:=hg1.below ((wac _ w1).alloc (wab _) (.cells #[.int .i64 k,.int .i64 c,.int .i64 n] 82)) hg1.lt;have hB2:=hB1.alloc hB1.size (.cells #[.int .i64 k,.int .i64 c,.int .i64 n] 82);clear hg0 hB0 hB hg1 hB1 ht';go_wp2_with fail;generalize (w1.alloc (.cells #[.int .i64 k,.int .i64 c,.int .i64 n] 82))=W2 at hh hg2 hB2 ⊢;refine(hw'.out _).mono ?_;rintro e w3 ⟨rfl,hC⟩;have hg3:=hg2.below hC hg2.lt;have hB3:=hB2.trans (hC.mono hB2.size);obtain⟨c0,c1,c2,f⟩:=hg3.cells;clear hh hg2 hB2 hC;go_wp2_with fail;exact bodyPost_ret (v:= .tuple #[.agg #[.int .i64 0,.int .i64 0,.int .i64 0],.int .i64 11]) (by simp[results,Tryz.results91,go_sem,c0,c1,c2]) rfl ⟨hE,Hd.below_set hB3 (wab _)⟩
theorem qp6(k c n:Int)(w:World):Calls Tryz.prog 135 #[.agg #[.int .i64 k,.int .i64 c,.int .i64 n]] w λe w'=>e= .returned (.bool (qav k c n))/\Below w.heap.size w w':=by
 have hB:=qat w k c n;by_cases h0:k=0
 ·subst h0
  by_cases h1:c=0
  ·subst h1
   by_cases h2:n=0
   ·subst h2
    have hm:=waa (show qav 0 0 0=true by decide);go_enter wdm,wdn;go_wp2
    go_ret;exact⟨qab (by rw[hm.out]),hB⟩
   ·have hm:=waa (show qav 0 0 n=false by rw[<-wby,hmay_iff];omega)
    have e2:(n==0)=false:=beq_eq_false_iff_ne.2 h2;clear h2;go_enter wdm,wdn;go_wp2
    go_ret;exact⟨qab (by rw[hm.out]),hB⟩
  ·have hm:=waa (show qav 0 c n=false by rw[<-wby,hmay_iff];omega)
   have e1:(c==0)=false:=beq_eq_false_iff_ne.2 h1;clear h1;go_enter wdm,wdn;go_wp2
   go_ret;exact⟨qab (by rw[hm.out]),hB⟩
 by_cases h1:k=1
 ·subst h1
  clear h0;by_cases c0:0<=c<;>by_cases c1:c<=3<;>by_cases n0:n=0
  all_goals first|(exfalso;omega)|skip
  all_goals
   first
    |(have hm:=waa (show qav 1 c n=true by rw[hmay_iff];omega))
    |(have hm:=waa (show qav 1 c n=false by rw[<-wby,hmay_iff];omega))
   first
    |(have e2:(n==0)=false:=beq_eq_false_iff_ne.2 n0)
    |(have e2:(n==0)=true:=beq_iff_eq.2 n0)
   clear n0;go_enter wdm,wdn;go_wp2
   go_ret;exact⟨qab (by rw[hm.out]),hB⟩
 by_cases h2:k=2
 ·subst h2
  clear h0 h1;by_cases c0:c=4<;>by_cases n0:1<=n<;>by_cases n1:n<=4
  all_goals first|(exfalso;omega)|skip
  all_goals
   first
    |(have hm:=waa (show qav 2 c n=true by rw[hmay_iff];omega))
    |(have hm:=waa (show qav 2 c n=false by rw[<-wby,hmay_iff];omega))
   first
    |(have e2:(c==4)=false:=beq_eq_false_iff_ne.2 c0)
    |(have e2:(c==4)=true:=beq_iff_eq.2 c0)
   clear c0;go_enter wdm,wdn;go_wp2
   go_ret;exact⟨qab (by rw[hm.out]),hB⟩
 by_cases h3:k=3
 ·subst h3
  clear h0 h1 h2;by_cases c0:c=4<;>by_cases n0:1<=n<;>by_cases n1:n<=3
  all_goals first|(exfalso;omega)|skip
  all_goals
   first
    |(have hm:=waa (show qav 3 c n=true by rw[hmay_iff];omega))
    |(have hm:=waa (show qav 3 c n=false by rw[<-wby,hmay_iff];omega))
   first
    |(have e2:(c==4)=false:=beq_eq_false_iff_ne.2 c0)
    |(have e2:(c==4)=true:=beq_iff_eq.2 c0)
   clear c0;go_enter wdm,wdn;go_wp2
   go_ret;exact⟨qab (by rw[hm.out]),hB⟩
 ·have hm:=waa (show qav k c n=false by rw[<-wby,hmay_iff];omega)
  have e0:(k==0)=false:=beq_eq_false_iff_ne.2 h0;have e1:(k==1)=false:=beq_eq_false_iff_ne.2 h1;have e2:(k==2)=false:=beq_eq_false_iff_ne.2 h2;have e3:(k==3)=false:=beq_eq_false_iff_ne.2 h3;clear h0 h1 h2 h3;go_enter wdm,wdn;go_wp2
  go_ret;exact⟨qab (by rw[hm.out]),hB⟩
theorem qm0(k c n:Int)(w:World)(h:qav k c n=true):Calls Tryz.prog 81 #[.agg #[.int .i64 k,.int .i64 c,.int .i64 n]] w λe w'=>e= .returned (.int .u64 ((qce k c n:Nat):Int))/\Below w.heap.size w w':=by
 have hB0:=qat w k c n;obtain⟨b0,b1,b2,b3,b4,b5⟩:=qd6 h;by_cases hk:k=0
 ·subst hk
  have hW:=waa (qjh c n);go_enter Tryz.func81,Tryz.ntmps81;go_wp2
  go_ret;exact⟨qb9 (by rw[hW.out];rfl),hB0⟩
 ·have e0:(k==0)=false:=beq_eq_false_iff_ne.2 hk
  obtain⟨lo,hlo⟩:∃lo:Nat,lo=qeg k c n:=⟨_,rfl⟩
  have hlo2:(lo:Int)=k+4*c+32*n:=by rw[hlo];unfold qeg;omega
  have hloB:lo<256:=Zo
  obtain⟨s,hs⟩:∃s:Nat,s=crcW [lo]:=⟨_,rfl⟩
  have hsB:s<4294967296:=by rw[hs];exact qf0 _
  have hW:Keep ((qce k c n:Int)=k+4*c+32*n+4294967296*s):=keep (by rw[qgq hk,<-hlo,<-hs];omega);have hof:∀(A:Option Addr) (V:World),Rd V A 1 (u64V [lo])->Calls Tryz.prog 117 #[.slice A 1 1] V λe w'=>e= .returned (.int .u32 (s:Int))/\Below V.heap.size V w':=λA V hV=>by
   have:=qwt A 1 [lo] V hV Zs (by intro b hb;simp at hb;omega)
   rw[<-hs] at this;exact this
  have hof':=waa hof;have hloK:=keep hlo2;clear hof hs hlo hlo2 hk h;go_enter Tryz.func81,Tryz.ntmps81;go_wp2_with fail;refine(hof'.out _ _ (qbv (by rw[<-hloK.out];rfl) Zr Zs)).mono ?_;rintro e w1 ⟨rfl,hB⟩;go_wp2_with fail;go_ret;exact⟨qb9 (by rw[hW.out]),(hB0.alloc Zs _).trans (hB.mono Zx)⟩
def HAfter(x:Nat)(k c n:Int):Prop:=∀k' c' n',HHit x k' c' n'->k<k'\/k=k'/\(c<c'\/c=c'/\n<=n')
theorem qua(x:Nat):HAfter x 0 0 0:=λk' c' n' h=>by have:=qd6 h.1;omega
theorem HAfter.next{x:Nat}{k c n:Int}(h:HAfter x k c n)(hn:¬HHit x k c n):HAfter x k c (n+1):=λk' c' n' hh=>by
 have:=h k' c' n' hh
 by_cases e:k=k'/\c=c'/\n=n'
 ·obtain⟨rfl,rfl,rfl⟩:=e;exact absurd hh hn
 ·omega
theorem HAfter.cls{x:Nat}{k c n:Int}(h:HAfter x k c n)(hn:4<n):HAfter x k (c+1) 0:=λk' c' n' hh=>by
 have:=h k' c' n' hh
 have:=qd6 hh.1
 omega
theorem HAfter.kind{x:Nat}{k c:Int}(h:HAfter x k c 0)(hc:4<c):HAfter x (k+1) 0 0:=λk' c' n' hh=>by
 have:=h k' c' n' hh
 have:=qd6 hh.1
 omega
theorem HAfter.none{x:Nat}{k:Int}(h:HAfter x k 0 0)(hk:3<k):∀k c n,¬HHit x k c n:=λk' c' n' hh=>by
 have:=h k' c' n' hh
 have:=qd6 hh.1
 omega
theorem qxj(x:Nat)(w:World)(hx:x<18446744073709551616):
  Calls Tryz.prog 93 #[.int .u64 (x:Int)] w λe w'=>RHeadE x e/\Below w.heap.size w w':=by
 have hg0:=Hd.new w 0 0 0;have hB0:=qat w 0 0 0;have hxK:=keep hx;clear hx;go_enter Tryz.func93,Tryz.ntmps93;go_wp2_with fail;go_loopw [4,5,6,7] (λq _ _ _ wr=>∃(W:World) (k:Nat),W=wr/\k<=4/\q= .int .i64 (k:Int)/\Keep (HAfter x (k:Int) 0 0)/\Hd W w.heap.size 0 0 0/\Below w.heap.size w W) (λq _ _ _ _=>4 - (intOf q).toNat)
 case atStart=>exact⟨_,0,rfl,Zo,rfl,keep (qua x),hg0,hB0⟩
 case round=>
  clear hg0 hB0;obtain⟨W,k,rfl,hk0,rfl,ha,hg,hB⟩:=hrel;by_cases hk:k<4
  ·have hkb:decide ((k:Int)<4)=true:=decide_eq_true Zo
   go_wp2_with fail;go_loopw [5,6,7] (λq _ _ wr=>∃(W:World) (c:Nat),W=wr/\c<=5/\q= .int .i64 (c:Int)/\Keep (HAfter x (k:Int) (c:Int) 0)/\Hd W w.heap.size 0 0 0/\Below w.heap.size w W) (λq _ _ _=>5 - (intOf q).toNat)
   case atStart=>exact⟨_,0,rfl,Zo,rfl,ha,hg,hB⟩
   case round=>
    clear hg hB ha;obtain⟨W,c,rfl,hc0,rfl,ha,hg,hB⟩:=hrel;by_cases hc:c<5
    ·have hcb:decide ((c:Int)<5)=true:=decide_eq_true Zo
     go_wp2_with fail;go_loopw [6,7] (λq _ wr=>∃(W:World) (n:Nat),W=wr/\n<=5/\q= .int .i64 (n:Int)/\Keep (HAfter x (k:Int) (c:Int) (n:Int))/\Hd W w.heap.size 0 0 0/\Below w.heap.size w W) (λq _ _=>5 - (intOf q).toNat)
     case atStart=>exact⟨_,0,rfl,Zo,rfl,ha,hg,hB⟩
     case round=>
      clear hg hB ha;obtain⟨W,n,rfl,hn0,rfl,ha,hg,hB⟩:=hrel;by_cases hn:n<5
      ·have hnb:decide ((n:Int)<5)=true:=decide_eq_true Zo
       have hmc:=λV=>qp6 (k:Int) (c:Int) (n:Int) V
       have hg1:=Hd.new W (k:Int) (c:Int) (n:Int);have hg2:=hg.below ((wac _ W).alloc (wab _) (.cells #[.int .i64 (k:Int),.int .i64 (c:Int),.int .i64 (n:Int)] 82)) hg.lt;have hB1:=hB.alloc hB.size (.cells #[.int .i64 (k:Int),.int .i64 (c:Int),.int .i64 (n:Int)] 82);clear hg hB;cases hm:qav (k:Int) (c:Int) (n:Int) with
       |false=>
        rw[hm] at hmc;have ha2:=keep (ha.out.next (λhh=>by rw[hh.1] at hm;cases hm));have hmc':=waa hmc;clear hm hmc ha;go_wp2_with fail;generalize (W.alloc (.cells #[.int .i64 (k:Int),.int .i64 (c:Int),.int .i64 (n:Int)] 82))=W1 at hg1 hg2 hB1 ⊢;refine(hmc'.out _).mono ?_;rintro e W2 ⟨rfl,hC⟩;have hg3:=hg2.below hC hg2.lt;have hB2:=hB1.trans (hC.mono hB1.size);clear hg1 hg2 hB1 hC;go_wp2_with fail;go_roundw
        case rel=>exact⟨_,n+1,rfl,Zo,by go_num,by rw[wcg];exact ha2,hg3,hB2⟩
        case measure=>simp[intOf];omega
       |true=>
        rw[hm] at hmc;obtain⟨v,hv⟩:∃v:Nat,v=qce (k:Int) (c:Int) (n:Int):=⟨_,rfl⟩
        have hwc:=λV=>qm0 (k:Int) (c:Int) (n:Int) V hm
        rw[<-hv] at hwc;have hmc':=waa hmc;have hwc':=waa hwc;by_cases hvx:v=x
        ·have hh:Keep (HHit x (k:Int) (c:Int) (n:Int)):=keep ⟨hm,by rw[<-hv,hvx]⟩
         have he:((v:Int)==(x:Int))=true:=beq_iff_eq.2 Zo;clear hm hmc ha hwc hv hvx;go_wp2_with fail;generalize (W.alloc (.cells #[.int .i64 (k:Int),.int .i64 (c:Int),.int .i64 (n:Int)] 82))=W1 at hg1 hg2 hB1 ⊢;refine(hmc'.out _).mono ?_;rintro e W2 ⟨rfl,hC⟩;have hg3:=hg2.below hC hg2.lt;have hg4:=hg1.below hC hg1.lt;have hB2:=hB1.trans (hC.mono hB1.size);obtain⟨x0,x1,x2,x3⟩:=hg4.cells;clear hg1 hg2 hB1 hC;go_wp2_with fail;refine(hwc'.out _).mono ?_;rintro e W3 ⟨rfl,hC⟩;have hg5:=hg3.below hC hg3.lt;have hg6:=hg4.below hC hg4.lt;have hB3:=hB2.trans (hC.mono hB2.size);obtain⟨y0,y1,y2,y3⟩:=hg6.cells;obtain⟨d0,d1,d2,d3⟩:=hg5.cells;clear hg3 hg4 hg5 hg6 hB2 hC x0 x1 x2 x3;go_wp2_with fail;exact bodyPost_ret (v:= .tuple #[.agg #[.int .i64 (k:Int),.int .i64 (c:Int),.int .i64 (n:Int)],.bool true]) (by simp[results,Tryz.results93,go_sem,d0,d1,d2]) rfl ⟨.inl ⟨_,_,_,hh.out,rfl⟩,Hd.below_set hB3 (wab _)⟩
        ·have ha2:=keep (ha.out.next (λhh=>hvx (by rw[hv,hh.2])))
         have he:((v:Int)==(x:Int))=false:=beq_eq_false_iff_ne.2 Zo;clear hm hmc ha hwc hv hvx;go_wp2_with fail;generalize (W.alloc (.cells #[.int .i64 (k:Int),.int .i64 (c:Int),.int .i64 (n:Int)] 82))=W1 at hg1 hg2 hB1 ⊢;refine(hmc'.out _).mono ?_;rintro e W2 ⟨rfl,hC⟩;have hg3:=hg2.below hC hg2.lt;have hg4:=hg1.below hC hg1.lt;have hB2:=hB1.trans (hC.mono hB1.size);obtain⟨x0,x1,x2,x3⟩:=hg4.cells;clear hg1 hg2 hB1 hC;go_wp2_with fail;refine(hwc'.out _).mono ?_;rintro e W3 ⟨rfl,hC⟩;have hg5:=hg3.below hC hg3.lt;have hB3:=hB2.trans (hC.mono hB2.size);clear hg3 hg4 hB2 hC x0 x1 x2 x3;go_wp2_with fail;go_roundw
         case rel=>exact⟨_,n+1,rfl,Zo,by go_num,by rw[wcg];exact ha2,hg5,hB3⟩
         case measure=>simp[intOf];omega
      ·have ha2:=keep (ha.out.cls Zo)
       clear ha;go_wp2_with fail;go_roundw
       case rel=>exact⟨_,c+1,rfl,Zo,by go_num,by rw[wcg];exact ha2,hg,hB⟩
       case measure=>simp[intOf];omega
    ·have ha2:=keep (ha.out.kind Zo)
     clear ha;go_wp2_with fail;go_roundw
     case rel=>exact⟨_,k+1,rfl,Zo,by go_num,by rw[wcg];exact ha2,hg,hB⟩
     case measure=>simp[intOf];omega
  ·have hn:=keep (ha.out.none Zo)
   obtain⟨d0,d1,d2,g⟩:=hg.cells;clear ha hg;go_wp2_with fail;exact bodyPost_ret (v:= .tuple #[.agg #[.int .i64 0,.int .i64 0,.int .i64 0],.bool false]) (by simp[results,Tryz.results93,go_sem,d0,d1,d2]) rfl ⟨.inr ⟨hn.out,rfl⟩,Hd.below_set hB (wab _)⟩
def RReadE(B:Nat)(o:Option (List (Int×Nat)))(e:Ending)(w':World):Prop:=match o with
 |none=>e= .returned (.tuple #[.slice none 0 0,.bool false])
 |some L=>∃v,e= .returned (.tuple #[v,.bool true])/\w'.ownsRow B 152 2 v L.length (eV L)
theorem RReadE.no{o:Option (List (Int×Nat))}(h:o=none)(B:Nat)(w':World):RReadE B o (.returned (.tuple #[.slice none 0 0,.bool false])) w':=by rw[h];exact rfl
theorem RReadE.yes{o:Option (List (Int×Nat))}{L:List (Int×Nat)}{B:Nat}{w':World}{v:Value}(h:o=some L)(hr:w'.ownsRow B 152 2 v L.length (eV L)):RReadE B o (.returned (.tuple #[v,.bool true])) w':=by rw[h];exact⟨v,rfl,hr⟩
theorem qa7(w:World)(s l r:Int):Below w.heap.size w (w.alloc (.cells #[.int .i64 s,.int .i64 l,.int .i64 r] 23)):=(wac _ w).alloc (wab _) _
def Gi(V:World)(b:Nat)(s l r:Int):Prop:=V.heap[b]? =some (.cells #[.int .i64 s,.int .i64 l,.int .i64 r] 23 (0,0))
theorem Gi.below{V V':World}{b B:Nat}{s l r:Int}(h:Gi V b s l r)(hb:Below B V V')(hB:b<B):Gi V' b s l r:=(hb.block b hB).trans h
theorem Gi.lt{V:World}{b:Nat}{s l r:Int}(h:Gi V b s l r):b<V.heap.size:=(wal.1 h).1
theorem Gi.cells{V:World}{b:Nat}{s l r:Int}(h:Gi V b s l r):V.cell? ⟨b,0,none⟩=some (.int .i64 s)/\V.cell? ⟨b,1,none⟩=some (.int .i64 l)/\V.cell? ⟨b,2,none⟩=some (.int .i64 r)/\(∀o,V.frozen? ⟨b,o,none⟩=false):=
 ⟨by rw[qaa h];rfl,by rw[qaa h];rfl,by rw[qaa h];rfl,λo=>qaj h o⟩
theorem Gi.new(W:World)(s l r:Int):Gi (W.alloc (.cells #[.int .i64 s,.int .i64 l,.int .i64 r] 23)) W.heap.size s l r:=World.alloc_heap_new W _
theorem Gi.other{V:World}{b q o:Nat}{s l r:Int}{y:Value}(h:Gi V b s l r)(hne:b≠q):Gi (V.setCell ⟨q,o,none⟩ y) b s l r:=(wat _ _ _ _ hne).trans h
theorem q5i(s l r:Int)(A:Option Addr)(n c:Nat)(w:World)(hn:n<=9223372036854775807):Calls Tryz.prog 92 #[.agg #[.int .i64 s,.int .i64 l,.int .i64 r],.slice A n c] w λe w'=>e= .returned (.bool (fitB s l r n))/\Below w.heap.size w w':=by
 have hg0:=Gi.new w s l r;have hB0:=qa7 w s l r;have hm:=λV=>qa1 s l r V
 have ht:=waa (λV=>qfr s l r V);cases hmb:mayB s l r with
 |false=>
  rw[hmb] at hm;have hm':=waa hm;have he:=waa (show fitB s l r n=false by rw[fitB,hmb];rfl);clear hm hmb;go_enter Tryz.func92,Tryz.ntmps92;go_wp2_with fail;generalize (w.alloc (.cells #[.int .i64 s,.int .i64 l,.int .i64 r] 23))=W1 at hg0 hB0 ⊢;obtain⟨c0,c1,c2,f⟩:=hg0.cells;go_wp2_with fail;refine(hm'.out _).mono ?_;rintro e w1 ⟨rfl,hB⟩;have hB1:=hB0.trans (hB.mono hB0.size);go_wp2_with fail;go_ret;exact⟨qab he.out.symm,hB1⟩
 |true=>
  rw[hmb] at hm;have hm':=waa hm;have he:=waa (show((n:Int)==totN s l r)=fitB s l r n by
   rw[fitB,hmb,wcv];by_cases hx:(n:Int)=totN s l r
   ·rw[decide_eq_true hx];exact beq_iff_eq.2 hx
   ·rw[decide_eq_false hx];exact beq_eq_false_iff_ne.2 hx)
  generalize totN s l r=T at ht he;clear hm hmb;go_enter Tryz.func92,Tryz.ntmps92;go_wp2_with fail;generalize (w.alloc (.cells #[.int .i64 s,.int .i64 l,.int .i64 r] 23))=W1 at hg0 hB0 ⊢;obtain⟨c0,c1,c2,f⟩:=hg0.cells;go_wp2_with fail;refine(hm'.out _).mono ?_;rintro e w1 ⟨rfl,hB⟩;have hg1:=hg0.below hB hg0.lt;have hB1:=hB0.trans (hB.mono hB0.size);obtain⟨d0,d1,d2,f1⟩:=hg1.cells;clear hg0 hB0 hB c0 c1 c2 f;go_wp2_with fail;refine(ht.out _).mono ?_;rintro e w2 ⟨rfl,hB⟩;have hB2:=hB1.trans (hB.mono hB1.size);go_wp2_with fail;go_ret;exact⟨qab he.out,hB2⟩
def runB:Int->Int->List (Int×Int×Int)->Bool
 |nx,mn,[]=>decide (mn<=nx)
 |nx,mn,h::t=>if h.1=3 then(if nx<mn/\h.2.2=nx then runB (nx+1) mn t else false) else if nx<mn then false else if h.1=2 then runB 1 h.2.2 t else runB nx mn t
theorem qqi{nx mn:Int}{h:Int×Int×Int}{t:List (Int×Int×Int)}(h1:h.1=3)(h2:nx<mn)(h3:h.2.2=nx):runB nx mn (h::t)=runB (nx+1) mn t:=by rw[runB,if_pos h1,if_pos ⟨h2,h3⟩]
theorem qic{nx mn:Int}{h:Int×Int×Int}{t:List (Int×Int×Int)}(h1:(h.1=3/\¬(nx<mn/\h.2.2=nx))\/(h.1≠3/\nx<mn)):runB nx mn (h::t)=false:=by
 rw[runB];rcases h1 with ⟨a,b⟩|⟨a,b⟩
 ·rw[if_pos a,if_neg b]
 ·rw[if_neg a,if_pos b]
theorem qnr{nx mn:Int}{h:Int×Int×Int}{t:List (Int×Int×Int)}(h1:h.1=2)(h2:¬nx<mn):runB nx mn (h::t)=runB 1 h.2.2 t:=by rw[runB,if_neg Zo,if_neg h2,if_pos h1]
theorem q1r{nx mn:Int}{h:Int×Int×Int}{t:List (Int×Int×Int)}(h1:h.1≠3)(h2:¬nx<mn)(h3:h.1≠2):runB nx mn (h::t)=runB nx mn t:=by rw[runB,if_neg h1,if_neg h2,if_neg h3]
def HdsRd(w:World)(A:Option Addr)(n:Nat)(hs:List (Int×Int×Int)):Prop:=
 hs.length=n/\(0<n->∃p,A=some p/\∀j h,hs[j]? =some h->w.cell? (p.add (j*3))=some (.int .i64 h.1)/\w.cell? ⟨(p.add (j*3)).block,(p.add (j*3)).off+1,none⟩=some (.int .i64 h.2.1)/\w.cell? ⟨(p.add (j*3)).block,(p.add (j*3)).off+2,none⟩=some (.int .i64 h.2.2))
theorem HdsRd.below{w w':World}{A:Option Addr}{n:Nat}{hs:List (Int×Int×Int)}(h:HdsRd w A n hs)(hB:Below w.heap.size w w'):HdsRd w' A n hs:=
 ⟨h.1,λhn=>by
  obtain⟨p,e,hp⟩:=h.2 hn;refine⟨p,e,λj x hx=>?_⟩;obtain⟨h0,h1,h2⟩:=hp j x hx;exact⟨(hB.cell (wak w _ h0)).trans h0,(hB.cell (wak w _ h1)).trans h1,(hB.cell (wak w _ h2)).trans h2⟩⟩
theorem HdsRd.at_{w:World}{A:Option Addr}{n k:Nat}{hs:List (Int×Int×Int)}(h:HdsRd w A n hs)(hk:k<n):∃p a b c,A=some p/\hs.drop k=(a,b,c)::hs.drop (k+1)/\(a,b,c)∈hs/\w.cell? (p.add (k*3))=some (.int .i64 a)/\w.cell? ⟨(p.add (k*3)).block,(p.add (k*3)).off+1,none⟩=some (.int .i64 b)/\w.cell? ⟨(p.add (k*3)).block,(p.add (k*3)).off+2,none⟩=some (.int .i64 c):=by
 obtain⟨p,e,hp⟩:=h.2 Zo;have hl:k<hs.length:=by rw[h.1];exact hk
 obtain⟨h0,h1,h2⟩:=hp k hs[k] (waj hl);exact⟨p,hs[k].1,hs[k].2.1,hs[k].2.2,e,wbc hl,wb6 hl,h0,h1,h2⟩
theorem qaaj(A:Option Addr)(cap:Nat)(hs:List (Int×Int×Int))(w:World)(h:HdsRd w A hs.length hs)(hn:hs.length<=9223372036854775806):
  Calls Tryz.prog 409 #[.slice A hs.length cap] w λe w'=>e= .returned (.bool (runB 0 0 hs))/\Below w.heap.size w w':=by
 go_enter Tryz.func409,Tryz.ntmps409;go_wp2_with fail;go_step3
 go_wp2_with fail;go_step3
 go_wp2_with fail;go_loopw [3,4,5,11] (λt u b q wr=>∃(W:World) (j:Nat) (nx mn:Int),W=wr/\t= .int .i64 nx/\u= .int .i64 mn/\b= .bool true/\q= .int .i64 (j:Int)/\j<=hs.length/\0<=nx/\nx<=(j:Int)/\Hid (runB nx mn (hs.drop j)=runB 0 0 hs)/\Below w.heap.size w W) (λ_ _ _ q _=>hs.length - (intOf q).toNat)
 case atStart=>exact⟨w,0,0,0,rfl,rfl,rfl,rfl,rfl,wau _,Zo,Zo,waa rfl,wac _ _⟩
 case round=>
  obtain⟨W,j,nx,mn,rfl,rfl,rfl,rfl,rfl,hj,hn0,hn1,hr,hB⟩:=hrel;by_cases hlt:j<hs.length
  ·obtain⟨p,k,c,n,rfl,hd,-,h0,h1,h2⟩:=(h.below hB).at_ hlt
   have hB1:=hB.alloc hB.size (.cells #[.int .i64 k,.int .i64 c,.int .i64 n] 82);rw[hd] at hr;clear hd;by_cases h3:k=3
   ·have e3:(k==3)=true:=beq_iff_eq.2 h3
    by_cases hm:nx<mn
    ·have em:decide (nx<mn)=true:=decide_eq_true hm
     by_cases he:n=nx
     ·have ee:(n !=nx)=false:=by rw[he];simp
      have hr2:=waa ((qqi h3 hm he).symm.trans hr.out);clear hr h3 hm he;go_wp2_with fail;go_roundw
      case rel=>exact⟨_,j+1,nx+1,mn,rfl,rfl,rfl,rfl,by go_num,Zo,Zo,Zo,hr2,hB1⟩
      case measure=>simp[intOf];omega
     ·have ee:(n !=nx)=true:=bne_iff_ne.2 he
      have hr2:=waa (hr.out.symm.trans (qic (.inl ⟨h3,λx=>he x.2⟩)));clear hr h3 hm he;go_wp2_with fail;try rw[wa0]
      go_ret;exact⟨qab hr2.out.symm,hB1⟩
    ·have em:decide (nx<mn)=false:=decide_eq_false hm
     have hr2:=waa (hr.out.symm.trans (qic (.inl ⟨h3,λx=>hm x.1⟩)));clear hr h3 hm;go_wp2_with fail;try rw[wa0]
     go_ret;exact⟨qab hr2.out.symm,hB1⟩
   ·have e3:(k==3)=false:=beq_eq_false_iff_ne.2 h3
    by_cases hm:nx<mn
    ·have em:decide (nx<mn)=true:=decide_eq_true hm
     have hr2:=waa (hr.out.symm.trans (qic (.inr ⟨h3,hm⟩)));clear hr h3 hm;go_wp2_with fail;try rw[wa0]
     go_ret;exact⟨qab hr2.out.symm,hB1⟩
    ·have em:decide (nx<mn)=false:=decide_eq_false hm
     by_cases hl:k=2
     ·have el:(k==2)=true:=beq_iff_eq.2 hl
      have hr2:=waa ((qnr hl hm).symm.trans hr.out);clear hr h3 hm hl;go_wp2_with fail;go_quiet (fail)
      go_wp2_with fail;go_roundw
      case rel=>exact⟨_,j+1,1,n,rfl,rfl,rfl,rfl,by go_num,Zo,Zo,Zo,hr2,qad hB1 _⟩
      case measure=>simp[intOf];omega
     ·have el:(k==2)=false:=beq_eq_false_iff_ne.2 hl
      have hr2:=waa ((q1r h3 hm hl).symm.trans hr.out);clear hr h3 hm hl;go_wp2_with fail;go_roundw
      case rel=>exact⟨_,j+1,nx,mn,rfl,rfl,rfl,rfl,by go_num,Zo,Zo,Zo,hr2,hB1⟩
      case measure=>simp[intOf];omega
  ·have e1:hs.drop j=[]:=wbn Zo
   rw[e1] at hr;have hr2:Hid (runB 0 0 hs=decide (mn<=nx)):=waa (hr.out.symm.trans rfl);clear hr e1;by_cases hm:mn<=nx
   ·have em:decide (mn<=nx)=true:=decide_eq_true hm
    go_wp2_with fail;try rw[wa0]
    go_ret;exact⟨qab (hr2.out.trans em).symm,hB⟩
   ·have em:decide (mn<=nx)=false:=decide_eq_false hm
    go_wp2_with fail;try rw[wa0]
    go_ret;exact⟨qab (hr2.out.trans em).symm,hB⟩
theorem q99(p:Addr)(j i:Nat):(p.add j).add i=p.add (j+i):=by
 unfold Addr.add;by_cases h1:j=0
 ·subst h1;simp
 ·by_cases h2:i=0
  ·subst h2;simp
  ·rw[if_neg h1,if_neg h2,if_neg Zo]
   simp only[Addr.mk.injEq,true_and,and_true];omega
theorem q4z{w:World}{p:Addr}{n lo k:Nat}{l:List Nat}(h:Rd w (some p) n (u64V l))(hq:lo+k<=n):Rd w (some (p.add lo)) k (u64V ((l.drop lo).take k)):=by
 have hl:l.length=n:=by have:=h.1;rw[qai] at this;exact this
 refine⟨by rw[qai,war,wbu];omega,λhk=>⟨_,rfl,λj u hu=>?_⟩⟩;obtain⟨p',e,hp⟩:=h.2 Zo;obtain rfl:p=p':=by injection e
 have hj:j<k:=by have:=(wan.1 hu).1;rw[qai,war] at this;omega
 rw[q99];refine hp (lo+j) u ?_;rw[<-hu];simp only[u64V,wa1,wbf hj,wbd]
theorem qa6{w:World}{A:Option Addr}{n k x:Nat}{l:List Nat}(h:Rd w A n (u64V l))(hk:l[k]? =some x):∃p,A=some p/\w.cell? (p.add k)=some (.int .u64 (x:Int)):=by
 have hl:l.length=n:=by have:=h.1;rw[qai] at this;exact this
 obtain⟨p,e,hp⟩:=h.2 (by have:=(wan.1 hk).1;omega);exact⟨p,e,hp k _ (by simp[u64V,hk])⟩
end Go.Proofs.YtocncmbeinmiaaaGreat
