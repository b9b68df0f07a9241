/- Parts. No condition. -/
import Derived.Lib.SlBytesConst
import Derived.Laws.CopyOwn
import Derived.Test.YtgjhkafggagniaaGreatJoinV15
set_option linter.unusedVariables false
set_option maxRecDepth 100000
set_option maxHeartbeats 8000000
namespace Go.Proofs.YtgjhkafggagniaaGreat
open Go Go.RowKit
def q2r(w:World)(l:List Nat)(v:Value)(w':World):Prop:=(∃A cap,v= .slice A l.length cap/\Rd w' A l.length (u64V l))/\Below w.heap.size w w'
theorem qvj(w:World)(s l r:Int):Below w.heap.size w (w.alloc (.cells #[.int .i64 s,.int .i64 l,.int .i64 r] 36)):=(wai _ w).alloc (wah _) _
theorem qp4{w w':World}{base size n:Nat}{e:TypeId}{v:Value}{xs:List Value}(h:w.ownsRow base e size v n xs)(hb:Below w.heap.size w w'):w'.ownsRow base e size v n xs:=
 h.kept (row:=none) ⟨hb.os,hb.tape,hb.output,hb.size,λk hk _=>hb.block k hk⟩ (by cases h':v.ownBlock<;>simp)
theorem qpw{A:Option Addr}{c n s:Nat}{l:List Nat}{w:World}(hr:Rd w A n (u64V l))(hn:Keep (l.length=n))(hm:n<=300)(hl:Keep (∀b∈l,b<18446744073709551616))(hs:Keep (qc7 l=s)):
  Calls Tryz.prog 82 #[.slice A n c] w λe w'=>e= .returned (.int .u64 (s:Nat))/\Below w.heap.size w w':=by
 have e1:=hn.out;have e2:=hs.out;subst e1 e2;exact qn4 A c l w hr Zo hl.out
theorem qwz{s l r:Int}(hm:mayB s l r=true):IntKind.u64.wrap (IntKind.u64.wrap (IntKind.u64.wrap s+IntKind.u64.wrap (65536*IntKind.u64.wrap l))+IntKind.u64.wrap (4294967296*IntKind.u64.wrap r))=((cntN s l r:Nat):Int):=by
 have:=qik hm
 unfold cntN;simp only[wa4];omega
theorem qp0(s l r:Int)(w:World)(hm:mayB s l r=true):Calls Tryz.prog 45 #[.agg #[.int .i64 s,.int .i64 l,.int .i64 r]] w λe w'=>∃v,e= .returned v/\w'.ownsRow w.heap.size 40 1 v (supL s l r).length (u64V (supL s l r))/\Below w.heap.size w w':=by
 have hmay:∀V,Calls Tryz.prog 12 #[.agg #[.int .i64 s,.int .i64 l,.int .i64 r]] V λe w'=>e= .returned (.bool true)/\Below V.heap.size V w':=λV=>by have:=qh8 s l r V;rwa [hm] at this
 obtain⟨s0,s1,l0,l1,r0,r1⟩:=qik hm;have hcw:=qwz hm;obtain⟨n,hn⟩:∃n:Nat,n=cntN s l r:=⟨_,rfl⟩
 obtain⟨t,ht⟩:∃t:Nat,t=(totN s l r).toNat:=⟨_,rfl⟩
 have htot:∀V,Calls Tryz.prog 44 #[.agg #[.int .i64 s,.int .i64 l,.int .i64 r]] V λe w'=>e= .returned (.int .i64 (t:Int))/\Below V.heap.size V w':=λV=>by
  have:=qje s l r V
  have h2:=qfq hm;rw[show totN s l r=(t:Int) by omega] at this;exact this
 have ht0:IntKind.u64.wrap (t:Int)=(t:Int):=by have:=qfq hm;rw[wa4];omega
 rw[<-hn] at hcw;have hsev:Keep (sevL s l r=[8390880580533249394,3,n,t,0,0,0]):=keep (by unfold sevL;rw[<-hn,<-ht]);have hsl:=keep (qvp hm);have hsup:Keep (supL s l r=sevL s l r++[qc7 (sevL s l r)]):=keep rfl;obtain⟨q,hq⟩:∃q:Nat,Keep (qc7 (sevL s l r)=q):=⟨_,keep rfl⟩
 clear hn ht hm;obtain⟨i0,ii,iz0,iz1,iz2⟩:=info_parts qe1;have hBx:=qvj w s l r;obtain⟨x0,x1,x2⟩:(w.alloc (.cells #[.int .i64 s,.int .i64 l,.int .i64 r] 36)).cell? ⟨w.heap.size,0,none⟩=some (.int .i64 s)/\(w.alloc (.cells #[.int .i64 s,.int .i64 l,.int .i64 r] 36)).cell? ⟨w.heap.size,1,none⟩=some (.int .i64 l)/\(w.alloc (.cells #[.int .i64 s,.int .i64 l,.int .i64 r] 36)).cell? ⟨w.heap.size,2,none⟩=some (.int .i64 r):=⟨by simp,by simp,by simp⟩
 go_enter Tryz.func45,Tryz.ntmps45;go_wp2_with fail;refine(hmay _).mono ?_;rintro e w1 ⟨rfl,hB⟩;have hB1:=hBx.trans (hB.mono Zs);have hz1:w.heap.size<w1.heap.size:=by have:=hB.size;simp at this;omega
 have z0:=(hB.cell (p:=⟨w.heap.size,0,none⟩) Zs).trans x0;have z1:=(hB.cell (p:=⟨w.heap.size,1,none⟩) Zs).trans x1;have z2:=(hB.cell (p:=⟨w.heap.size,2,none⟩) Zs).trans x2;clear hB x0 x1 x2;go_wp2_with fail;go_region_held3 (λV=>V.cell? ⟨w.heap.size,0,none⟩=some (.int .i64 s)/\V.cell? ⟨w.heap.size,1,none⟩=some (.int .i64 l)/\V.cell? ⟨w.heap.size,2,none⟩=some (.int .i64 r))
  (first|go_keep|with_reducible exact⟨hy0,hy1,hy2⟩)
  (first
   |(go_at_call 44;refine(htot _).mono ?_;rintro e w2 ⟨rfl,hC⟩;have hk2:=(wai w1.heap.size w1.drew).trans (hC.mono (wah _));have hy0:=(hC.cell (p:=⟨w.heap.size,0,none⟩) (by simpa using hz1)).trans (show _=some (.int .i64 s) from z0);have hy1:=(hC.cell (p:=⟨w.heap.size,1,none⟩) (by simpa using hz1)).trans (show _=some (.int .i64 l) from z1);have hy2:=(hC.cell (p:=⟨w.heap.size,2,none⟩) (by simpa using hz1)).trans (show _=some (.int .i64 r) from z2)))
 have hB2:=(hB1.drew.trans (hC.mono hB1.size)).alloc (wam hB1.size hC.size) (.cells #[.int .u64 8390880580533249394,.int .u64 3,.int .u64 (n:Int),.int .u64 (t:Int),.int .u64 0,.int .u64 0,.int .u64 0] 40);have hown:(w2.alloc (.cells #[.int .u64 8390880580533249394,.int .u64 3,.int .u64 (n:Int),.int .u64 (t:Int),.int .u64 0,.int .u64 0,.int .u64 0] 40)).ownsRow w.heap.size 40 1 (.slice (some ⟨w2.heap.size,0,none⟩) 7 7) 7 (u64V (sevL s l r)):=by
  rw[hsev.out];exact wdd (e:=40) (size:=1) w2 #[.int .u64 8390880580533249394,.int .u64 3,.int .u64 (n:Int),.int .u64 (t:Int),.int .u64 0,.int .u64 0,.int .u64 0] 7 (wam hB1.size hC.size) Zd rfl
 generalize (w2.alloc (.cells #[.int .u64 8390880580533249394,.int .u64 3,.int .u64 (n:Int),.int .u64 (t:Int),.int .u64 0,.int .u64 0,.int .u64 0] 40))=W2 at hB2 hown ⊢;clear hC hk2 hy0 hy1 hy2 z0 z1 z2 hmay htot hcw;obtain⟨A,c,hAc,hrd⟩:=Rd.of_own hown;injection hAc with hA1 _ hc1;subst hA1 hc1;go_wp2_with fail;refine(qpw hrd (keep rfl) Zo hsl hq).mono ?_;rintro e w3 ⟨rfl,hD⟩;have hown3:=qp4 hown hD;have hB3:=hB2.trans (hD.mono hB2.size);have hs3:=hB3.size;clear hrd hown hD hB2;go_wp2_with (at_builtin;go_loud (refine wpList_append_own _ rfl _ _ 22 rfl w.heap.size 40 i0 (.int .u64 0) 1 8 wbq ii iz0 iz1 iz2 rfl Zd _ _ _ rfl (hown3.alloc _) ⟨w3.heap.size,0,none⟩ 1 1 [.int .u64 (q:Int)] rfl rfl (qjv Zs _ _) (by simp[Value.oneCell']) (by simp only[maxLen];omega) Zo Zx ?_);intro v' w4 hown4 hgrow _)
 go_ret;have hB4:=(hB3.alloc hs3 (.cells #[.int .u64 (q:Int)] 40)).grown hgrow Zx (qbv (hown3.alloc (.cells #[.int .u64 (q:Int)] 40)));have hown5:w4.ownsRow w.heap.size 40 1 v' (supL s l r).length (u64V (supL s l r)):=by
  rw[hsup.out,hq.out,qkd];exact hown4
 exact⟨_,rfl,hown5,hB4⟩
def Geo(V:World)(b:Nat)(s l r:Int):Prop:=V.heap[b]? =some (.cells #[.int .i64 s,.int .i64 l,.int .i64 r] 36 (0,0))
def askC(bw bg:Nat):Array Value:=#[.func (.func 88) #[] #[.pointer (some ⟨bw,0,none⟩)],.func (.func 89) #[] #[.pointer (some ⟨bw,0,none⟩),.pointer (some ⟨bg,0,none⟩)],.func (.func 92) #[] #[.pointer (some ⟨bw,0,none⟩),.pointer (some ⟨bg,0,none⟩)],.func (.func 95) #[] #[.pointer (some ⟨bw,0,none⟩),.pointer (some ⟨bg,0,none⟩)]]
def AskL(V:World)(bl bw bg:Nat):Prop:=V.heap[bl]? =some (.cells (askC bw bg) 23 (0,0))/\bl≠bg
def Asks(w0 V:World)(bl bw bg:Nat)(A:Option Addr)(c:Nat)(ws:List Nat)(s l r:Int):Prop:=
 Boxed V bw 22 (.slice A ws.length c)/\Geo V bg s l r/\Below w0.heap.size w0 V/\w0.heap.size<=bg/\Rd w0 A ws.length (u64V ws)/\bw≠bg/\AskL V bl bw bg
section
variable {w0 V:World} {bl bw bg:Nat} {A:Option Addr} {c:Nat} {ws:List Nat} {s l r:Int}
end
theorem qhn(w:World)(s l r:Int):Below w.heap.size w (w.alloc (.cells #[.int .i64 s,.int .i64 l,.int .i64 r] 36)):=(wai _ w).alloc (wah _) _
def Gi(V:World)(b:Nat)(s l r:Int):Prop:=V.heap[b]? =some (.cells #[.int .i64 s,.int .i64 l,.int .i64 r] 36 (0,0))
theorem Gi.below{V V':World}{b B:Nat}{s l r:Int}(h:Gi V b s l r)(hb:Below B V V')(hB:b<B):Gi V' b s l r:=(hb.block b hB).trans h
theorem Gi.lt{V:World}{b:Nat}{s l r:Int}(h:Gi V b s l r):b<V.heap.size:=(waj.1 h).1
theorem Gi.cells{V:World}{b:Nat}{s l r:Int}(h:Gi V b s l r):V.cell? ⟨b,0,none⟩=some (.int .i64 s)/\V.cell? ⟨b,1,none⟩=some (.int .i64 l)/\V.cell? ⟨b,2,none⟩=some (.int .i64 r)/\(∀o,V.frozen? ⟨b,o,none⟩=false):=
 ⟨by rw[qab h];rfl,by rw[qab h];rfl,by rw[qab h];rfl,λo=>qah h o⟩
theorem Gi.new(W:World)(s l r:Int):Gi (W.alloc (.cells #[.int .i64 s,.int .i64 l,.int .i64 r] 36)) W.heap.size s l r:=World.alloc_heap_new W _
theorem qvz{w:World}{A:Option Addr}{n k x:Nat}{l:List Nat}(h:Rd w A n (u64V l))(hk:l[k]? =some x):∃p,A=some p/\w.cell? (p.add k)=some (.int .u64 (x:Int)):=by
 have hl:l.length=n:=by have:=h.1;rw[qat] at this;exact this
 obtain⟨p,e,hp⟩:=h.2 (by have:=(was.1 hk).1;omega);exact⟨p,e,hp k _ (by simp[u64V,hk])⟩
theorem qw4(l:List Nat)(i x:Nat):(u64V l).set i (.int .u64 (x:Int))=u64V (l.set i x):=by simp[u64V,List.map_set]
theorem qrm{w:World}{b o:Nat}{u v:Value}{q:Addr}(h:w.cell? q=some v)(hne:q.block≠b):(w.setCell ⟨b,o,none⟩ u).cell? q=some v:=(wee (wa5 _ _ _ _ hne)).trans h
theorem qwf{w:World}{p:Addr}{n b o:Nat}{u:Value}{xs:List Value}(h:Rd w (some p) n xs)(hne:p.block≠b):Rd (w.setCell ⟨b,o,none⟩ u) (some p) n xs:=
 ⟨h.1,λhn=>by
  obtain⟨q,e,hq⟩:=h.2 hn;obtain rfl:p=q:=by injection e
  refine⟨p,rfl,λj v hj=>qrm (hq j v hj) ?_⟩;unfold Addr.add;split<;>exact hne⟩
theorem qt8{W:World}{base n:Nat}{e:TypeId}{size:Nat}{p:Addr}{c:Nat}{xs:List Value}(h:W.ownsRow base e size (.slice (some p) n c) n xs):base<=p.block:=(h.lt p.block rfl).1
def frL(s l r:Int)(T i:Nat):List Nat:=(supL s l r).take i++List.replicate (T - i) 0
theorem q1f(s l r:Int)(T:Nat):frL s l r T 0=List.replicate T 0:=by simp[frL]
theorem q19{s l r:Int}{T:Nat}(hT:totN s l r=(T:Int)):frL s l r T 8=qbn s l r:=by
 rw[frL,qbn,hT,wao,wax (by rw[qet];omega)]
theorem qt3{s l r:Int}{T i:Nat}(hi:i<=8)(hT:8<=T):(frL s l r T i).length=T:=by
 rw[frL,wbh,war,qet,wa0];omega
theorem q1o{s l r:Int}{T i x:Nat}(hi:i<8)(hT:8<=T)(hx:(supL s l r)[i]? =some x):(frL s l r T i).set i x=frL s l r T (i+1):=by
 apply wa2
 intro j;have hl:((supL s l r).take i).length=i:=by rw[war,qet];omega
 have hl2:((supL s l r).take (i+1)).length=i+1:=by rw[war,qet];omega
 by_cases hj:j=i
 ·subst hj
  rw[List.getElem?_set_self (by rw[qt3 Zo hT];omega),frL,wbj Zo,wde Zo,hx]
 ·rw[List.getElem?_set_ne (λe=>hj e.symm)]
  by_cases hlt:j<i
  ·rw[frL,frL,wbj Zo,wbj Zo,wde hlt,wde Zo]
  ·rw[frL,frL,wbv Zo,wbv Zo,hl,hl2,wb8,wb8]
   by_cases hjT:j<T
   ·rw[if_pos Zo,if_pos Zo]
   ·rw[if_neg Zo,if_neg Zo]
theorem qn2(s l r:Int)(w:World)(hm:mayB s l r=true):Calls Tryz.prog 24 #[.agg #[.int .i64 s,.int .i64 l,.int .i64 r]] w λe w'=>∃v,e= .returned v/\w'.ownsRow w.heap.size 40 1 v (qbn s l r).length (u64V (qbn s l r))/\Below w.heap.size w w':=by
 obtain⟨T,hT,hT2⟩:∃T:Nat,totN s l r=(T:Int)/\128<=T/\T<=1328:=⟨(totN s l r).toNat,by have:=qfq hm;omega⟩
 have htot:=λV=>qje s l r V
 rw[hT] at htot;have htot':=waa htot;have hwr:=waa (λV=>qp0 s l r V hm);have hmk:=qjh T Zo;have hend:=waa (q19 hT);have hlenT:=waa (show(qbn s l r).length=T by have:=qky hm;omega);have hsl:=waa (qet s l r);have hg0:=Gi.new w s l r;have hB0:=qhn w s l r;clear htot hT hm;go_enter Tryz.func24,Tryz.ntmps24;go_wp2_with fail;generalize (w.alloc (.cells #[.int .i64 s,.int .i64 l,.int .i64 r] 36))=W1 at hg0 hB0 ⊢;obtain⟨c0,c1,c2,f⟩:=hg0.cells;go_wp2_with fail;refine(htot'.out _).mono ?_;rintro e w1 ⟨rfl,hB⟩;have hg1:=hg0.below hB hg0.lt;have hB1:=hB0.trans (hB.mono hB0.size);have hrow:(w1.alloc (.cells (u64V (List.replicate T 0)).toArray 40)).ownsRow w.heap.size 40 1 (.slice (some ⟨w1.heap.size,0,none⟩) T T) T (u64V (frL s l r T 0)):=by
  rw[q1f];exact wdd w1 (u64V (List.replicate T 0)).toArray T hB1.size (by simp only[maxLen];omega) (by simp[u64V])
 have hBa:=(wai w1.heap.size w1).alloc (wah _) (.cells (u64V (List.replicate T 0)).toArray 40);have hg2:=hg1.below hBa hg1.lt;have hB2:=hB1.trans (hBa.mono hB1.size);have hgl:w1.heap.size<(w1.alloc (.cells (u64V (List.replicate T 0)).toArray 40)).heap.size:=by simp
 obtain⟨d0,d1,d2,f2⟩:=hg2.cells;clear hg0 hB0 hB c0 c1 c2 f hBa hg1 hB1;go_wp2_with fail;generalize (w1.alloc (.cells (u64V (List.replicate T 0)).toArray 40))=W2 at hrow hg2 hB2 hgl d0 d1 d2 f2 ⊢;generalize w1.heap.size=g at hrow hgl ⊢;refine(hwr.out _).mono ?_;rintro e w3 ⟨v,rfl,hown,hC⟩;have hr3:=qa1 hrow hC;have hB3:=hB2.trans (hC.mono hB2.size);rw[hsl.out] at hown;obtain⟨A,cap,rfl,hR⟩:=Rd.of_own hown;obtain⟨p,rfl,-⟩:=qvz hR (show(supL s l r)[0]? =some _ from wan (by rw[hsl.out];omega));have hpb:p.block≠g:=by have:=qt8 hown;omega
 clear hown hrow hg2 hB2 hC d0 d1 d2 f2;go_wp2_with fail;go_loopw [5] (λq wr=>∃(W:World) (i:Nat),W=wr/\q= .int .i64 (i:Int)/\i<=8/\W.ownsRow w.heap.size 40 1 (.slice (some ⟨g,0,none⟩) T T) T (u64V (frL s l r T i))/\Rd W (some p) 8 (u64V (supL s l r))/\Below w.heap.size w W) (λq _=>8 - (intOf q).toNat)
 case atStart=>exact⟨_,0,rfl,rfl,wat _,hr3,hR,hB3⟩
 case round=>
  clear hr3 hR hB3;obtain⟨W,i,rfl,rfl,hi,hrow,hR,hB⟩:=hrel;by_cases hlt:i<8
  ·have hx:(supL s l r)[i]? =some (supL s l r)[i]:=wan (by rw[hsl.out];exact hlt)
   obtain⟨p',ep,x0⟩:=qvz hR hx;injection ep with ep;subst ep;generalize (supL s l r)[i]=x at hx x0;have hst:=waa (q1o (T:=T) hlt Zo hx);have hcell:=hrow.cellAt i Zo;have hex:∃u,(u64V (frL s l r T i))[i]? =some u:=⟨_,wan (by rw[qat,qt3 Zo Zo];omega)⟩
   obtain⟨u,hu⟩:=hex;rw[hu] at hcell;have hfz:=hrow.frozenAt i;have hso:=(hrow.stored i (.int .u64 (x:Int))).1;rw[qw4,hst.out] at hso;have hR2:=qwf (o:=i) (u:= .int .u64 (x:Int)) hR hpb;have hgb:=qt8 hrow;have hB2:=hB.setCell (p:=⟨g,i,none⟩) hgb (.int .u64 (x:Int));have k0:(i:Int)<(T:Int):=Zo
   clear hx hu;go_wp2_with fail;go_roundw
   case rel=>exact⟨_,i+1,rfl,by go_num,Zo,hso,hR2,hB2⟩
   case measure=>simp[intOf];omega
  ·obtain rfl:i=8:=Zo
   rw[hend.out] at hrow;go_wp2_with fail;go_ret;exact⟨_,rfl,by rw[hlenT.out];exact hrow,hB⟩
structure Lim (ws:List Nat) (lim:Nat):Prop where
 le:lim<=4
 a1:decide (8<=ws.length)=decide (0<lim)
 a2:0<lim->mayB (cntS (ws.getD 2 0)) (cntL (ws.getD 2 0)) (cntR (ws.getD 2 0))=decide (1<lim)
 a3:1<lim->decide (ws.take 8=supL (cntS (ws.getD 2 0)) (cntL (ws.getD 2 0)) (cntR (ws.getD 2 0)))=decide (2<lim)
 a4:2<lim->decide ((ws.length:Int)=totN (cntS (ws.getD 2 0)) (cntL (ws.getD 2 0)) (cntR (ws.getD 2 0)))=decide (3<lim)
section
variable {w0 V:World} {bl bw bg:Nat} {A:Option Addr} {c:Nat} {ws:List Nat}
end
theorem qxp(s l r a:Int)(w:World)(a0:-9223372036854775808<=a)(a1:a<=9223372036854775807):Calls Tryz.prog 361 #[.agg #[.int .i64 s,.int .i64 l,.int .i64 r],.int .i64 a] w λe w'=>e= .returned (.bool (qf8 s l r a))/\Below w.heap.size w w':=by
 have hg0:=Gi.new w s l r;have hB0:=qhn w s l r;have hw:=λV=>qj3 s l r a V a0 a1
 unfold plV at hw;obtain⟨x,y,z,hp⟩:∃x y z,plc s l r a=(x,y,z):=⟨_,_,_,rfl⟩
 have he:=waa (show qf8 s l r a=(decide (x=1/\0<=y)||(decide (x=3/\z<2)||decide (x=4))) by rw[qf8,hp]);rw[hp] at hw;have hw':=waa hw;clear hw hp a0 a1;go_enter Tryz.func361,Tryz.ntmps361;go_wp2_with fail;generalize (w.alloc (.cells #[.int .i64 s,.int .i64 l,.int .i64 r] 36))=W1 at hg0 hB0 ⊢;obtain⟨c0,c1,c2,f⟩:=hg0.cells;go_wp2_with fail;refine(hw'.out _).mono ?_;rintro e w1 ⟨rfl,hB⟩;have hB1:=(hB0.trans (hB.mono hB0.size)).alloc (hB0.trans (hB.mono hB0.size)).size (.cells #[.int .i64 x,.int .i64 y,.int .i64 z] 227);by_cases h1:x=1
 ·subst h1
  by_cases h2:0<=y
  ·have hd:decide ((0:Int)<=y)=true:=decide_eq_true h2
   have he2:=waa (he.out.trans (show _=true by rw[decide_eq_true ⟨rfl,h2⟩];rfl));clear he h2;go_wp2_with fail;go_ret;exact⟨qae he2.out.symm,hB1⟩
  ·have hd:decide ((0:Int)<=y)=false:=decide_eq_false h2
   have he2:=waa (he.out.trans (show _=false by rw[decide_eq_false (λh=>h2 h.2),decide_eq_false Zo,decide_eq_false Zo];rfl));clear he h2;go_wp2_with fail;go_ret;exact⟨qae he2.out.symm,hB1⟩
 ·have hx1:(x==1)=false:=beq_eq_false_iff_ne.2 h1
  by_cases h3:x=3
  ·subst h3
   by_cases h2:z<2
   ·have hd:decide (z<2)=true:=decide_eq_true h2
    have he2:=waa (he.out.trans (show _=true by rw[decide_eq_false Zo,decide_eq_true ⟨rfl,h2⟩];rfl));clear he h2 h1;go_wp2_with fail;go_ret;exact⟨qae he2.out.symm,hB1⟩
   ·have hd:decide (z<2)=false:=decide_eq_false h2
    have he2:=waa (he.out.trans (show _=false by rw[decide_eq_false Zo,decide_eq_false (λh=>h2 h.2),decide_eq_false Zo];rfl));clear he h2 h1;go_wp2_with fail;go_ret;exact⟨qae he2.out.symm,hB1⟩
  ·have hx3:(x==3)=false:=beq_eq_false_iff_ne.2 h3
   by_cases h4:x=4
   ·have hx4:(x==4)=true:=beq_iff_eq.2 h4
    have he2:=waa (he.out.trans (show _=true by rw[decide_eq_false Zo,decide_eq_false Zo,decide_eq_true h4];rfl));clear he h1 h3 h4;go_wp2_with fail;go_ret;exact⟨qae he2.out.symm,hB1⟩
   ·have hx4:(x==4)=false:=beq_eq_false_iff_ne.2 h4
    have he2:=waa (he.out.trans (show _=false by rw[decide_eq_false Zo,decide_eq_false Zo,decide_eq_false h4];rfl));clear he h1 h3 h4;go_wp2_with fail;go_ret;exact⟨qae he2.out.symm,hB1⟩
theorem qt2(b:Int)(n:Nat)(w:World)(hn:n<=2000)(hb:-100000<=b/\b<=100000):
  Calls Tryz.prog 384 #[.int .i64 b,.int .i64 (n:Int)] w λe w'=>∃g,e= .returned (.slice (some ⟨g,0,none⟩) n n)/\w'.ownsRow w.heap.size 3 1 (.slice (some ⟨g,0,none⟩) n n) n (i64V (qd9 b n))/\Below w.heap.size w w':=by
 have hmk:=qkf n hn;have hB0:=(wai w.heap.size w).alloc (wah _) (.cells (i64V (List.replicate n 0)).toArray 3);have hr0:(w.alloc (.cells (i64V (List.replicate n 0)).toArray 3)).ownsRow w.heap.size 3 1 (.slice (some ⟨w.heap.size,0,none⟩) n n) n (i64V (qc9 b n 0)):=
  ⟨by simp[i64V,qc9],.inr ⟨w.heap.size,n,_,rfl,wah _,World.alloc_heap_new w _,wah _,by unfold maxLen;omega,by simp[i64V],by rw[qqv];simp[i64V]⟩⟩
 replace hB0:=waa hB0;replace hr0:=waa hr0;go_enter Tryz.func384,Tryz.ntmps384;go_wp2_with fail;go_loopg [11] n (λk s11 wr=>∃j:Nat,s11= .int .i64 (j:Int)/\n - j<=k/\j<=n/\Hid (wr.ownsRow w.heap.size 3 1 (.slice (some ⟨w.heap.size,0,none⟩) n n) n (i64V (qc9 b n j)))/\Hid (Below w.heap.size w wr))
 case atStart=>exact⟨0,rfl,Zo,Zo,hr0,hB0⟩
 case round=>
  obtain⟨j,rfl,hkj,hj,hrow,hB⟩:=hrel;by_cases hlt:j<n
  ·obtain⟨A',c',he,hR⟩:=Rd.of_own hrow.out
   obtain⟨p,u,hp,hu,hcu⟩:=hR.at_ hlt;subst hp;injection he with e1 e2 e3;injection e1 with e1;subst e1 e3;have hf:=hrow.out.frozenAt j;have e0:(⟨w.heap.size,0,none⟩:Addr).add j=⟨w.heap.size,j,none⟩:=by cases j<;>simp[Addr.add]
   rw[e0] at hcu;have hst:=waa (show(wr.setCell ⟨w.heap.size,j,none⟩ (.int .i64 (b+(j:Int)))).ownsRow w.heap.size 3 1 (.slice (some ⟨w.heap.size,0,none⟩) n n) n (i64V (qc9 b n (j+1))) from by
    have:=(hrow.out.stored j (.int .i64 (b+(j:Int)))).1
    rwa [show(i64V (qc9 b n j)).set j (.int .i64 (b+(j:Int)))=i64V ((qc9 b n j).set j (b+(j:Int))) by simp[i64V,List.map_set],qtx b hlt] at this)
   have hB1:=waa (hB.out.setCell (p:=⟨w.heap.size,j,none⟩) (wah _) (.int .i64 (b+(j:Int))));have hw:IntKind.i64.wrap (b+(j:Int))=b+(j:Int):=wap _ Zo;have z0:(0:Int)<=(j:Int):=Zo
   have z1:(j:Int)<(n:Int):=Zo
   clear hu e0;go_wp2_with fail;go_roundg (n - (j+1))
   case measure=>omega
   case rel=>exact⟨j+1,by go_num,Zo,Zo,hst,hB1⟩
  ·obtain rfl:j=n:=Zo
   rw[qtc] at hrow;go_wp2_with fail;go_ret;exact⟨_,rfl,hrow.out,hB.out⟩
theorem qr9{A:Option Addr}{cap N:Nat}{l:List (Int×Nat)}{w:World}(h:EsRd w A N l)(hm:N<=60000):
  Calls Tryz.prog 284 #[.slice A N cap] w λe w'=>∃v L,e= .returned v/\(L.Pairwise (·< ·)/\(∀x,x∈L↔∃a∈l.map (·.1),qdu a=x)/\L.length<=N)/\w'.ownsRow w.heap.size 3 1 v L.length (i64V L)/\Below w.heap.size w w':=by
 have hof:=waa (qo1 A cap N l w h hm);clear h;go_enter Tryz.func284,Tryz.ntmps284;go_wp2_with fail;refine hof.out.mono ?_;rintro e w1 ⟨v,rfl,hrow,hB⟩;obtain⟨AV,cV,rfl,hR⟩:=Rd.of_own hrow;have hli:=waa (qig (cap:=cV) hR hm);replace hB:=waa hB;clear hrow hR hof;go_wp2_with fail;refine hli.out.mono ?_;rintro e w2 ⟨v',L,rfl,hL,hrow,hB2⟩;have hB3:=waa (hB.out.trans (hB2.mono hB.out.size));replace hrow:=waa (qbb hrow hB.out.size);replace hL:=waa hL;obtain⟨AW,cW,rfl,-⟩:=Rd.of_own hrow.out;generalize hLn:L.length=NL at hrow ⊢;replace hLn:=waa hLn;clear hli hB2 hB;go_wp2_with fail;go_ret;exact⟨_,L,rfl,by have:=hL.out;rwa [hLn.out] at this,by rw[hLn.out];exact hrow.out,hB3.out⟩
theorem qyp{l:List (Int×Nat)}:(logB l=true↔0<(logW l).length):=by
 unfold logW;cases h:logB l with
 |true=>
  have h1:1<=l.length:=by unfold logB at h;simp at h;exact h.1.1
  obtain⟨e,r,rfl⟩:∃e r,l=e::r:=by cases l with
   |nil=>simp at h1
   |cons e r=>exact⟨e,r,rfl⟩
  simp[qa2]
 |false=>simp
theorem qqt{A:Option Addr}{cap N:Nat}{l:List (Int×Nat)}{w:World}(h:EsRd w A N l)(hm:N<=9223372036854775807)(hx:∀e∈l,e.2<18446744073709551616):
  Calls Tryz.prog 360 #[.slice A N cap] w λe w'=>e= .returned (.bool (logB l))/\Below w.heap.size w w':=by
 obtain rfl:=h.1;have hw:=waa (qin A cap l w h hm hx);have hlw:=waa (qyp (l:=l));clear h;generalize l.length=N at hw ⊢;go_enter Tryz.func360,Tryz.ntmps360;go_wp2_with fail;refine hw.out.mono ?_;rintro e w1 ⟨v,rfl,hrow,hB⟩;obtain⟨AV,cV,rfl,-⟩:=Rd.of_own hrow;replace hB:=waa hB;generalize (logW l).length=K at hlw ⊢;clear hrow hw;go_wp2_with fail;go_ret;exact⟨qae (by
  have:=hlw.out
  cases hb:logB l with
  |true=>simp[this.1 hb]
  |false=>
   have:¬0<K:=λe=>by rw[this.2 e] at hb;cases hb
   simp;omega),hB.out⟩
def qjf(s l r:Int)(es:List (Int×Nat)):Bool:=logB es&&es.all (λe=>qf8 s l r e.1)
theorem qyd{A:Option Addr}{cap N:Nat}{es:List (Int×Nat)}{w:World}(s l r:Int)(h:EsRd w A N es)(hm:N<=9223372036854775807)(hx:∀e∈es,e.2<18446744073709551616)(ha:∀e∈es,-9223372036854775808<=e.1/\e.1<=9223372036854775807):
  Calls Tryz.prog 321 #[.agg #[.int .i64 s,.int .i64 l,.int .i64 r],.slice A N cap] w λe w'=>e= .returned (.bool (qjf s l r es))/\Below w.heap.size w w':=by
 have hN:=waa h.1;have hg0:=Gi.new w s l r;have hB0:=(wai w.heap.size w).alloc (wah _) (.cells #[.int .i64 s,.int .i64 l,.int .i64 r] 36);have hisl:=waa (qqt (cap:=cap) (h.below hB0) hm hx);replace h:=waa h;replace hg0:=waa hg0;replace hB0:=waa hB0;replace ha:=waa ha;clear hx;unfold qjf;cases hb:logB es with
 |false=>
  rw[hb] at hisl;go_enter Tryz.func321,Tryz.ntmps321;go_wp2_with fail;refine hisl.out.mono ?_;rintro e w1 ⟨rfl,hB⟩;have hB2:=waa (hB0.out.trans (hB.mono hB0.out.size));go_wp2_with fail;go_ret;exact⟨rfl,hB2.out⟩
 |true=>
  rw[hb] at hisl;rw[wcp];go_enter Tryz.func321,Tryz.ntmps321;go_wp2_with fail;refine hisl.out.mono ?_;rintro e w1 ⟨rfl,hB⟩;have hB2:=waa (hB0.out.trans (hB.mono hB0.out.size));have hg1:=waa (hg0.out.below hB hg0.out.lt);clear hB hisl;go_wp2_with fail;go_loopg [12] N (λk s12 wr=>∃j:Nat,s12= .int .i64 (j:Int)/\N - j<=k/\j<=N/\Hid (Gi wr w.heap.size s l r)/\Hid (Below w.heap.size w wr)/\Hid ((es.drop j).all (λe=>qf8 s l r e.1)=es.all (λe=>qf8 s l r e.1)))
  case atStart=>exact⟨0,rfl,Zo,Zo,hg1,hB2,waa rfl⟩
  case round=>
   obtain⟨j,rfl,hkj,hj,hg,hB,hall⟩:=hrel;by_cases hlt:j<N
   ·obtain⟨p,a,x,rfl,hd,hmem,c0,c1⟩:=(h.out.below hB.out).at_ hlt
    have hBa:=(wai wr.heap.size wr).alloc (wah _) (.cells #[.int .i64 a,.int .u64 (x:Int)] 169);obtain⟨d0,d1,d2⟩:=(En.new wr a x).cells;have hg3:=hg.out.below hBa hg.out.lt;obtain⟨g0,g1,g2,gf⟩:=hg3.cells;have hmy:=waa (qxp s l r a (wr.alloc (.cells #[.int .i64 a,.int .u64 (x:Int)] 169)) (ha.out _ hmem).1 (ha.out _ hmem).2);have hB3:=waa (hB.out.trans (hBa.mono hB.out.size));replace hg3:=waa hg3;have hcs:=hall.out;rw[hd,wda] at hcs;simp only at hcs;have z0:(0:Int)<=(j:Int):=Zo
    have z1:(j:Int)<(N:Int):=Zo
    have hgs:=hg.out.lt;clear hd hmem hBa;cases hq:qf8 s l r a with
    |true=>
     rw[hq] at hmy;rw[hq,wcp] at hcs;replace hcs:=waa hcs;clear hq;go_wp2_with fail;refine hmy.out.mono ?_;rintro e w2 ⟨rfl,hB4⟩;have hB5:=waa (hB3.out.trans (hB4.mono hB3.out.size));have hg4:=waa (hg3.out.below hB4 hg3.out.lt);clear hB4 hmy;go_wp2_with fail;go_roundg (N - (j+1))
     case measure=>omega
     case rel=>exact⟨j+1,by go_num,Zo,Zo,hg4,hB5,hcs⟩
    |false=>
     rw[hq] at hmy;rw[hq,wcq] at hcs;replace hcs:=waa hcs;clear hq;go_wp2_with fail;refine hmy.out.mono ?_;rintro e w2 ⟨rfl,hB4⟩;have hB5:=waa (hB3.out.trans (hB4.mono hB3.out.size));clear hB4 hmy;go_wp2_with fail;go_ret;exact⟨by rw[<-hcs.out];rfl,hB5.out⟩
   ·obtain rfl:j=N:=Zo
    have hcs:=hall.out;rw[wa6 (by rw[hN.out];exact wah _),List.all_nil] at hcs;replace hcs:=waa hcs;go_wp2_with fail;go_ret;exact⟨by rw[<-hcs.out];rfl,hB.out⟩
theorem qzr{W:World}{H base:Nat}(hH:W.heap.size=H)(hb:base<=H)(a:Int)(x:Nat):(W.alloc (.cells #[.int .i64 a,.int .u64 (x:Int)] 169)).ownsRow base 169 2 (.slice (some ⟨H,0,none⟩) 1 1) 1 (eV [(a,x)]):=by
 subst hH;exact⟨rfl,.inr ⟨_,1,_,rfl,hb,World.alloc_heap_new W _,wah _,by unfold maxLen;omega,rfl,rfl⟩⟩
theorem qka(s l r t:Int)(x:Nat)(w:World):
  Calls Tryz.prog 363 #[.agg #[.int .i64 s,.int .i64 l,.int .i64 r],.int .i64 t,.int .u64 (x:Int)] w λe w'=>∃g,e= .returned (.slice (some ⟨g,0,none⟩) 1 1)/\w'.ownsRow w.heap.size 169 2 (.slice (some ⟨g,0,none⟩) 1 1) 1 (eV [(qa3 s l r t,x)])/\Below w.heap.size w w':=by
 obtain⟨g0,g1,g2,gf⟩:=(Gi.new w s l r).cells;have hB0:=(wai w.heap.size w).alloc (wah _) (.cells #[.int .i64 s,.int .i64 l,.int .i64 r] 36);have hln:=waa (qez s l r t (w.alloc (.cells #[.int .i64 s,.int .i64 l,.int .i64 r] 36)));replace hB0:=waa hB0;go_enter Tryz.func363,Tryz.ntmps363;go_wp2_with fail;refine hln.out.mono ?_;rintro e w1 ⟨rfl,hB⟩;have hB1:=waa (hB0.out.trans (hB.mono hB0.out.size));have hB2:=waa (hB1.out.alloc hB1.out.size (.cells #[.int .i64 (qa3 s l r t),.int .u64 (x:Int)] 169));have hrow:=waa (qzr (W:=w1) rfl hB1.out.size (qa3 s l r t) x);clear hB hln;go_wp2_with fail;go_ret;exact⟨_,rfl,hrow.out,hB2.out⟩
theorem AP.each_append{σ β:Type}(f:β->AP σ Unit)(a b:List β):AP.each f (a++b)=(AP.each f a).bind λ_=>AP.each f b:=by
 induction a with
 |nil=>rfl
 |cons x r ih=>
  show(f x).bind (λ_=>AP.each f (r++b))=((f x).bind λ_=>AP.each f r).bind λ_=>AP.each f b
  rw[AP.bind_bind,ih]
theorem AP.each_one{σ β:Type}(f:β->AP σ Unit)(b:β):AP.each f [b]=f b:=by
 show(f b).bind (λ_=>AP.ret ())=f b
 exact AP.bind_ret (f b)
theorem AP.each_split{σ β:Type}(f:β->AP σ Unit){bs:List β}{j:Nat}{b:β}(h:bs[j]? =some b):AP.each f bs=((AP.each f (bs.take j)).bind λ_=>f b).bind λ_=>AP.each f (bs.drop (j+1)):=by
 have hj:j<bs.length:=(was.1 h).1;have hd:bs.drop j=b::bs.drop (j+1):=by
  rw[wbl hj];rw[wan hj] at h;injection h with h;rw[h]
 conv=>lhs;rw[<-List.take_append_drop j bs,hd]
 rw[AP.each_append];show(AP.each f (bs.take j)).bind (λ_=>(f b).bind λ_=>AP.each f (bs.drop (j+1)))=_
 rw[AP.bind_bind]
theorem AP.each_next{σ β:Type}(f:β->AP σ Unit){bs:List β}{j:Nat}{b:β}(h:bs[j]? =some b):AP.each f (bs.take (j+1))=(AP.each f (bs.take j)).bind λ_=>f b:=by
 rw[wbs,h,Option.toList_some,AP.each_append,AP.each_one]
section
variable {τ:Type} {E:DP τ} {i:Nat} {l:List Nat} {s:DM×τ} {F:Nat->Prop} {w w':World}
theorem DP.Post.more{α:Type}{o:Out (DM×τ) α}{R:α->Value->World->Prop}{w0:World}{e:Ending}(h:E.Post o R F w e w')(hu:Upd (λ_=>False) w0 w):E.Post o R F w0 e w':=
 h.after (hu.mono (λ_ e=>e.elim)) (Grows.refl _ _)
theorem qiz{β:Type}{A:Option Addr}{cap n Fn:Nat}{caps:Array Value}{zs:List Int}(bs:List β)(f:β->AP (DM×τ) Unit)(hen:∀(args:Array Value) (w:World),(callFunc Fn args).run Tryz.prog w= .ok (.enter Fn args) w)(hl:zs.length=n)(hbl:bs.length=n)(hn:n<=60000)(h:E.In i l s F w)(hrow:Rd w A n (i64V zs))(hA:∀p,A=some p->0<n->p.block<w.heap.size/\¬F p.block)(hw:AP.each f bs E.sp i l s≠ .wild)(hstep:∀(j:Nat) (b:β) (a:Int) V i' l' s' F',bs[j]? =some b->zs[j]? =some a->E.In i' l' s' F' V->Upd F w V->Grows F F' w->f b E.sp i' l' s'≠ .wild->Calls Tryz.prog Fn (#[.int .i64 (j:Int),.int .i64 a]++caps) V λe V'=>E.Post (f b E.sp i' l' s') qbc F' V e V'):
  Calls Tryz.prog 365 #[.slice A n cap,.func (.func Fn) #[] caps] w λe w'=>E.Post (AP.each f bs E.sp i l s) qbc F w e w':=by
 refine(qkk (cap:=cap) (zs:=zs) hen hl hn
  (λj V=>∃i' l' s' F',AP.each f (bs.take j) E.sp i l s= .done () i' l' s'/\E.In i' l' s' F' V/\Grows F F' w/\Upd F w V)
  (λe V=>∃bl l' s' F',AP.each f bs E.sp i l s= .stop bl l' s'/\e= .panicked (qbs E.eb)/\E.Off bl l' s' F' V/\Grows F F' w/\Upd F w V)
  ⟨i,l,s,F,rfl,h,Grows.refl _ _,Upd.refl _ _⟩ ?_ ?_).mono ?_
 ·rintro j V ⟨i',l',s',F',-,-,-,hu⟩
  refine⟨hrow.1,λhn0=>?_⟩;obtain⟨p,rfl,hc⟩:=hrow.2 hn0;refine⟨p,rfl,λk u hk=>?_⟩;have hpb:(p.add k).block=p.block:=by cases k<;>rfl
  rw[hu.cell (by rw[hpb];exact(hA p rfl hn0).1) (by rw[hpb];exact(hA p rfl hn0).2)];exact hc k u hk
 ·rintro j a V hj ha ⟨i',l',s',F',he,hI,hg,hu⟩
  obtain⟨b,hb⟩:∃b,bs[j]? =some b:=⟨_,wan (show j<bs.length by omega)⟩
  have hwf:f b E.sp i' l' s'≠ .wild:=by
   rw[AP.each_split f hb] at hw;exact AP.tame_next (f:=λ_=>f b) (AP.tame hw) he
  refine(hstep j b a V i' l' s' F' hb ha hI hu hg hwf).mono ?_;intro e V' hpost;rcases hpost.done hwf with ⟨u,i2,l2,s2,v,F2,ho,rfl,hv,hI2,hg2,hu2⟩|⟨bl,l2,s2,F2,ho,rfl,hO,hg2,hu2⟩
  ·refine .inl ⟨by rw[hv],i2,l2,s2,F2,?_,hI2,hg.trans hg2 hu.size,hu.after hu2 hg⟩
   rw[AP.each_next f hb,AP.bind_done he];exact ho
  ·refine .inr ⟨_,rfl,bl,l2,s2,F2,?_,rfl,hO,hg.trans hg2 hu.size,hu.after hu2 hg⟩
   rw[AP.each_split f hb];exact AP.bind_stop (by rw[AP.bind_done he];exact ho)
 ·rintro e w' (⟨rfl,i',l',s',F',he,hI,hg,hu⟩|⟨ch,he',bl,l',s',F',ho,he,hO,hg,hu⟩)
  ·rw[wax Zo] at he
   exact DP.Post.ended (t:=AP.each f bs) he rfl rfl hI hg hu
  ·exact DP.Post.stopped (t:=AP.each f bs) ho he hO hg hu
end
end Go.Proofs.YtgjhkafggagniaaGreat
