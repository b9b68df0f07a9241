/- Parts. No condition. -/
import Derived.Laws.CopyOwn
import Derived.Deep.RegionLaw
import Derived.Test.YtocncmbeinmiaaaGreatJoinU08
set_option linter.unusedVariables false
set_option maxRecDepth 100000
set_option maxHeartbeats 8000000
namespace Go.Proofs.YtocncmbeinmiaaaGreat
open Go Go.RowKit
theorem qo9(s l r:Int)(A:Option Addr)(n c:Nat)(w:World)(hn:n<=9223372036854775807):Calls Tryz.prog 89 #[.agg #[.int .i64 s,.int .i64 l,.int .i64 r],.slice A n c] w λe w'=>e= .returned (.bool (fitB s l r n))/\Below w.heap.size w w':=by
 have hg0:=Gi.new w s l r;have hB0:=qa7 w s l r;have hm:=λV=>qd7 s l r V
 have ht:=waa (λV=>qje s l r V);cases hmb:mayB s l r with
 |false=>
  rw[hmb] at hm;have hm':=waa hm;have he:=waa (show fitB s l r n=false by rw[fitB,hmb];rfl);clear hm hmb;go_enter Tryz.func89,Tryz.ntmps89;go_wp2_with fail;generalize (w.alloc (.cells #[.int .i64 s,.int .i64 l,.int .i64 r] 23))=W1 at hg0 hB0 ⊢;obtain⟨c0,c1,c2,f⟩:=hg0.cells;go_wp2_with fail;refine(hm'.out _).mono ?_;rintro e w1 ⟨rfl,hB⟩;have hB1:=hB0.trans (hB.mono hB0.size);go_wp2_with fail;go_ret;exact⟨qab he.out.symm,hB1⟩
 |true=>
  rw[hmb] at hm;have hm':=waa hm;have he:=waa (show((n:Int)==totN s l r)=fitB s l r n by
   rw[fitB,hmb,wcv];by_cases hx:(n:Int)=totN s l r
   ·rw[decide_eq_true hx];exact beq_iff_eq.2 hx
   ·rw[decide_eq_false hx];exact beq_eq_false_iff_ne.2 hx)
  generalize totN s l r=T at ht he;clear hm hmb;go_enter Tryz.func89,Tryz.ntmps89;go_wp2_with fail;generalize (w.alloc (.cells #[.int .i64 s,.int .i64 l,.int .i64 r] 23))=W1 at hg0 hB0 ⊢;obtain⟨c0,c1,c2,f⟩:=hg0.cells;go_wp2_with fail;refine(hm'.out _).mono ?_;rintro e w1 ⟨rfl,hB⟩;have hg1:=hg0.below hB hg0.lt;have hB1:=hB0.trans (hB.mono hB0.size);obtain⟨d0,d1,d2,f1⟩:=hg1.cells;clear hg0 hB0 hB c0 c1 c2 f;go_wp2_with fail;refine(ht.out _).mono ?_;rintro e w2 ⟨rfl,hB⟩;have hB2:=hB1.trans (hB.mono hB1.size);go_wp2_with fail;go_ret;exact⟨qab he.out,hB2⟩
theorem qrw(k:Int)(s l r:Int)(A:Option Addr)(c n:Nat)(w:World)(h:∀V,Below w.heap.size w V->Calls Tryz.prog 88 #[.slice A n c] V λe w'=>e= .returned (.tuple #[.agg #[.int .i64 s,.int .i64 l,.int .i64 r],.int .i64 k])/\Below V.heap.size V w'):
  Calls Tryz.prog 53 #[.slice A n c] w λe w'=>e= .returned (.tuple #[.agg #[.int .i64 s,.int .i64 l,.int .i64 r],.int .i64 k])/\Below w.heap.size w w':=by
 have h':=waa h;have hg0:=Gi.new w 0 0 0;have hB0:=qa7 w 0 0 0;clear h;go_enter Tryz.func53,Tryz.ntmps53;go_wp2_with fail;refine(h'.out _ hB0).mono ?_;rintro e w1 ⟨rfl,hB⟩;have hg1:=hg0.below hB hg0.lt;have hB1:=hB0.trans (hB.mono hB0.size);obtain⟨d0,d1,d2,f1⟩:=hg1.cells;go_wp2_with fail;exact bodyPost_ret (v:= .tuple #[.agg #[.int .i64 s,.int .i64 l,.int .i64 r],.int .i64 k]) (by simp[results,Tryz.results53,go_sem,d0,d1,d2]) rfl ⟨rfl,by(iterate 3 refine wa7 ?_ Zs _);exact hB1⟩
theorem qec(A:Option Addr)(c:Nat)(ws:List Nat)(w:World)(hr:Rd w A ws.length (u64V ws))(hcap:ws.length<=c)(hl:ws.length<=9223372036854775807)(hw:∀x∈ws,x<18446744073709551616):
  Calls Tryz.prog 53 #[.slice A ws.length c] w λe w'=>SupE ws e/\Below w.heap.size w w':=by
 by_cases hh:∃s l r,Hit ws s l r
 ·obtain⟨s,l,r,hh⟩:=hh
  exact(qrw 0 s l r A c ws.length w (λV hV=>(qt4 A c ws V (hr.below hV) hcap hl hw).mono λe w' ⟨h1,h2⟩=>⟨h1.is hh,h2⟩)).mono λe w' ⟨h1,h2⟩=>⟨.inl ⟨s,l,r,hh,h1⟩,h2⟩
 ·have hno:∀s l r,¬Hit ws s l r:=λs l r h=>hh ⟨s,l,r,h⟩
  exact(qrw 11 0 0 0 A c ws.length w (λV hV=>(qt4 A c ws V (hr.below hV) hcap hl hw).mono λe w' ⟨h1,h2⟩=>⟨h1.no hno,h2⟩)).mono λe w' ⟨h1,h2⟩=>⟨.inr ⟨hno,h1⟩,h2⟩
theorem qty(s l r a:Int)(w:World)(a0:-9223372036854775808<=a)(a1:a<=9223372036854775807):Calls Tryz.prog 211 #[.agg #[.int .i64 s,.int .i64 l,.int .i64 r],.int .i64 a] w λe w'=>e= .returned (.bool (qbj s l r a))/\Below w.heap.size w w':=by
 have hg0:=Gi.new w s l r;have hB0:=qa7 w s l r;have hw:=λV=>q3p s l r a V a0 a1
 unfold plV at hw;obtain⟨x,y,z,hp⟩:∃x y z,plc s l r a=(x,y,z):=⟨_,_,_,rfl⟩
 have he:=waa (show qbj s l r a=(decide (x=1/\0<=y)||(decide (x=3/\z<2)||decide (x=4))) by rw[qbj,hp]);rw[hp] at hw;have hw':=waa hw;clear hw hp a0 a1;go_enter Tryz.func211,Tryz.ntmps211;go_wp2_with fail;generalize (w.alloc (.cells #[.int .i64 s,.int .i64 l,.int .i64 r] 23))=W1 at hg0 hB0 ⊢;obtain⟨c0,c1,c2,f⟩:=hg0.cells;go_wp2_with fail;refine(hw'.out _).mono ?_;rintro e w1 ⟨rfl,hB⟩;have hB1:=(hB0.trans (hB.mono hB0.size)).alloc (hB0.trans (hB.mono hB0.size)).size (.cells #[.int .i64 x,.int .i64 y,.int .i64 z] 193);by_cases h1:x=1
 ·subst h1
  by_cases h2:0<=y
  ·have hd:decide ((0:Int)<=y)=true:=decide_eq_true h2
   have he2:=waa (he.out.trans (show _=true by rw[decide_eq_true ⟨rfl,h2⟩];rfl));clear he h2;go_wp2_with fail;go_ret;exact⟨qab he2.out.symm,hB1⟩
  ·have hd:decide ((0:Int)<=y)=false:=decide_eq_false h2
   have he2:=waa (he.out.trans (show _=false by rw[decide_eq_false (λh=>h2 h.2),decide_eq_false Zo,decide_eq_false Zo];rfl));clear he h2;go_wp2_with fail;go_ret;exact⟨qab he2.out.symm,hB1⟩
 ·have hx1:(x==1)=false:=beq_eq_false_iff_ne.2 h1
  by_cases h3:x=3
  ·subst h3
   by_cases h2:z<2
   ·have hd:decide (z<2)=true:=decide_eq_true h2
    have he2:=waa (he.out.trans (show _=true by rw[decide_eq_false Zo,decide_eq_true ⟨rfl,h2⟩];rfl));clear he h2 h1;go_wp2_with fail;go_ret;exact⟨qab he2.out.symm,hB1⟩
   ·have hd:decide (z<2)=false:=decide_eq_false h2
    have he2:=waa (he.out.trans (show _=false by rw[decide_eq_false Zo,decide_eq_false (λh=>h2 h.2),decide_eq_false Zo];rfl));clear he h2 h1;go_wp2_with fail;go_ret;exact⟨qab he2.out.symm,hB1⟩
  ·have hx3:(x==3)=false:=beq_eq_false_iff_ne.2 h3
   by_cases h4:x=4
   ·have hx4:(x==4)=true:=beq_iff_eq.2 h4
    have he2:=waa (he.out.trans (show _=true by rw[decide_eq_false Zo,decide_eq_false Zo,decide_eq_true h4];rfl));clear he h1 h3 h4;go_wp2_with fail;go_ret;exact⟨qab he2.out.symm,hB1⟩
   ·have hx4:(x==4)=false:=beq_eq_false_iff_ne.2 h4
    have he2:=waa (he.out.trans (show _=false by rw[decide_eq_false Zo,decide_eq_false Zo,decide_eq_false h4];rfl));clear he h1 h3 h4;go_wp2_with fail;go_ret;exact⟨qab he2.out.symm,hB1⟩
def OhB(W:World)(bw bg bp:Nat)(s l r:Int)(v:Value)(p:Int):Prop:=Boxed W bw 40 v/\Gi W bg s l r/\Boxed W bp 3 (.int .i64 p)
theorem OhB.below{W W':World}{bw bg bp:Nat}{s l r:Int}{v:Value}{p:Int}(h:OhB W bw bg bp s l r v p)(hB:Below W.heap.size W W'):OhB W' bw bg bp s l r v p:=
 ⟨(hB.block _ h.1.lt).trans h.1,(hB.block _ h.2.1.lt).trans h.2.1,(hB.block _ h.2.2.lt).trans h.2.2⟩
theorem qlq(s l r p:Int)(A:Option Addr)(n c:Nat)(w:World):Calls Tryz.prog 90 #[.agg #[.int .i64 s,.int .i64 l,.int .i64 r],.slice A n c,.int .i64 p] w λe w'=>
  e= .returned (.func (.func 132) #[] #[.pointer (some ⟨w.heap.size+1,0,none⟩),.pointer (some ⟨w.heap.size,0,none⟩),.pointer (some ⟨w.heap.size+1+1,0,none⟩)])/\
   OhB w' (w.heap.size+1) w.heap.size (w.heap.size+1+1) s l r (.slice A n c) p/\Below w.heap.size w w':=by
 have hmf:∀(fn:Fn) (first cap:Array Value) (w:World),(Instr.makeFunc fn first cap).run Tryz.prog w= .ok (.func fn first cap) w:=λ_ _ _ _=>rfl
 have hB1:=((qa7 w s l r).alloc Zs (.cells #[.slice A n c] 40)).alloc Zx (.cells #[.int .i64 p] 3);have hg1:Gi (((w.alloc (.cells #[.int .i64 s,.int .i64 l,.int .i64 r] 23)).alloc (.cells #[.slice A n c] 40)).alloc (.cells #[.int .i64 p] 3)) w.heap.size s l r:=qag (qag (Gi.new w s l r) _) _;have hx1:Boxed (((w.alloc (.cells #[.int .i64 s,.int .i64 l,.int .i64 r] 23)).alloc (.cells #[.slice A n c] 40)).alloc (.cells #[.int .i64 p] 3)) (w.heap.size+1) 40 (.slice A n c):=qag (qan Zs _ _) _;have hp1:Boxed (((w.alloc (.cells #[.int .i64 s,.int .i64 l,.int .i64 r] 23)).alloc (.cells #[.slice A n c] 40)).alloc (.cells #[.int .i64 p] 3)) (w.heap.size+1+1) 3 (.int .i64 p):=qan Zs _ _;go_enter Tryz.func90,Tryz.ntmps90;go_wp2_with fail;go_ret;exact⟨rfl,⟨hx1,hg1,hp1⟩,hB1⟩
theorem qke(s l r:Int)(j pl:Nat)(A:Option Addr)(cap:Nat)(ws:List Nat)(bw bg bp:Nat)(w:World)(hc:OhB w bw bg bp s l r (.slice A ws.length cap) (pl:Int))(hr:Rd w A ws.length (u64V ws))(hf:fitB s l r ws.length=true)(hj:(j:Int)<s)(hpl:pl<=1):
  Calls Tryz.prog 132 #[.int .i64 (j:Int),.pointer (some ⟨bw,0,none⟩),.pointer (some ⟨bg,0,none⟩),.pointer (some ⟨bp,0,none⟩)] w λe w'=>e= .returned (.int .u64 ((ws.getD (hdAt l j+pl) 0:Nat):Int))/\Below w.heap.size w w':=by
 have hb:=qaw hf;have hm:=(fitB_iff.1 hf).1;obtain⟨h,hh⟩:∃h:Nat,hdAt l j=h:=⟨_,rfl⟩
 have hhd:=λV=>qse s l r (j:Int) V
 rw[show headN s l r (j:Int)=((hdAt l j:Nat):Int) from(if_pos ⟨hm,Zo,hj⟩).trans (by unfold hdAt;omega),hh] at hhd;have hhd':=waa hhd;have hal:h+pl<ws.length:=by rw[<-hh];unfold hdAt;omega
 have hx:ws[h+pl]? =some ws[h+pl]:=waj hal;rw[hh,wax,hx,wa8];obtain⟨p,rfl,-⟩:=qa6 hr hx;have hcell:=waa (λ(V:World) (hV:Below w.heap.size w V)=>show V.cell? (p.add (h+pl))=some (.int .u64 (ws[h+pl]:Int)) from by
  obtain⟨q,e,hq⟩:=qa6 (hr.below hV) hx;injection e with e;subst e;exact hq)
 generalize ws[h+pl]=x at hcell hx ⊢;have k0:IntKind.i64.wrap ((h:Int)+(pl:Int))=((h+pl:Nat):Int):=by rw[wao _ Zo];omega
 have y0:(0:Int)<=((h+pl:Nat):Int):=Zo
 have y1:((h+pl:Nat):Int)<(ws.length:Int):=Zo
 obtain⟨q,hq⟩:∃q:Nat,h+pl=q:=⟨_,rfl⟩
 rw[hq] at hcell k0 y0 y1;obtain⟨x0,x1,x2,x3,x4,x5⟩:w.drew.cell? ⟨bw,0,none⟩=some (.slice (some p) ws.length cap)/\w.drew.cell? ⟨bg,0,none⟩=some (.int .i64 s)/\w.drew.cell? ⟨bg,1,none⟩=some (.int .i64 l)/\w.drew.cell? ⟨bg,2,none⟩=some (.int .i64 r)/\w.drew.cell? ⟨bp,0,none⟩=some (.int .i64 (pl:Int))/\w.drew.cell? (p.add q)=some (.int .u64 (x:Int)):=
  ⟨hc.1.cell,hc.2.1.cells.1,hc.2.1.cells.2.1,hc.2.1.cells.2.2.1,hc.2.2.cell,hcell.out _ (wac _ w).drew⟩
 clear hx hal hh hhd hf hb hm hj hr;go_enter Tryz.func132,Tryz.ntmps132;go_wp2_with fail;go_region_held3 (λV=>V.cell? ⟨bw,0,none⟩=some (.slice (some p) ws.length cap)/\V.cell? ⟨bg,0,none⟩=some (.int .i64 s)/\V.cell? ⟨bg,1,none⟩=some (.int .i64 l)/\V.cell? ⟨bg,2,none⟩=some (.int .i64 r)/\V.cell? ⟨bp,0,none⟩=some (.int .i64 (pl:Int))/\V.cell? (p.add q)=some (.int .u64 (x:Int)))
  (first|with_reducible exact⟨x0,x1,x2,x3,x4,x5⟩|with_reducible exact⟨z0,z1,z2,z3,z4,z5⟩)
  (
   (go_at_call 133
    refine(hhd'.out _).mono ?_;rintro e w2 ⟨rfl,hC⟩;have hD:=(wac w.heap.size w).drew.trans (hC.mono (wab _));have hc2:=hc.below hD;obtain⟨z0,z1,z2,z3,z4,z5⟩:w2.cell? ⟨bw,0,none⟩=some (.slice (some p) ws.length cap)/\w2.cell? ⟨bg,0,none⟩=some (.int .i64 s)/\w2.cell? ⟨bg,1,none⟩=some (.int .i64 l)/\w2.cell? ⟨bg,2,none⟩=some (.int .i64 r)/\w2.cell? ⟨bp,0,none⟩=some (.int .i64 (pl:Int))/\w2.cell? (p.add q)=some (.int .u64 (x:Int)):=
     ⟨hc2.1.cell,hc2.2.1.cells.1,hc2.2.1.cells.2.1,hc2.2.1.cells.2.2.1,hc2.2.2.cell,hcell.out _ hD⟩))
 go_wp2_with fail;go_ret;exact⟨rfl,hD⟩
theorem q1e:(Tryz.prog.info? 268).map (λi=>(i.zero,i.size,i.bytes))=some (some (.agg #[.int .u64 0,.nilIface]),2,24):=by kernel_rfl
def qfj(l:List Nat):List Value:=l.flatMap λ(x:Nat)=>[.int .u64 (x:Int),.nilIface]
theorem qz2(l:List Nat)(x:Nat):qfj (l++[x])=qfj l++[.int .u64 (x:Int),.nilIface]:=by simp[qfj]
theorem q7d{l:List Nat}{j x:Nat}(h:l[j]? =some x):(qfj l)[j*2]? =some (.int .u64 (x:Int))/\(qfj l)[j*2+1]? =some .nilIface:=by
 induction l generalizing j with
 |nil=>simp at h
 |cons e r ih=>
  have e1:qfj (e::r)= .int .u64 (e:Int):: .nilIface::qfj r:=rfl;rw[e1];cases j with
  |zero=>
   simp at h
   subst h;exact⟨rfl,rfl⟩
  |succ j=>
   rw[List.getElem?_cons_succ] at h;have h':=ih h;rw[show(j+1)*2=j*2+1+1 by omega];simpa using h'
def RnP(w:World)(X rp tp:Nat)(who:Int)(df lv:Value)(l:List Nat)(ov:Bool)(an:Value):Prop:=
 w.heap[X]? =some (.cells #[.pointer (some ⟨rp,0,none⟩),.pointer (some ⟨tp,0,none⟩),.int .i64 who,df,lv,.bool ov,an] 91 (0,0))/\w.ownsRow (X+1) 268 2 lv l.length (qfj l)
def runV(o:Option Nat):Value:= .pointer (o.map λX=>⟨X,0,none⟩)
def EvR(w:World)(eb:Nat)(o:Option Nat)(who:Int)(i:Nat)(fs:Value)(st bl:Bool):Prop:=
 w.heap[eb]? =some (.cells #[runV o,.int .i64 who,.int .i64 (i:Int),fs,.bool st,.bool bl] 144 (0,0))
def FsR(w:World)(fs:Value)(X:Nat)(fuse:Int)(bef:Nat)(a b c:Nat):Prop:=
 fs= .func (.func 110) #[] #[.pointer (some ⟨a,0,none⟩),.pointer (some ⟨b,0,none⟩),.pointer (some ⟨c,0,none⟩)]/\
  Boxed w a 3 (.int .i64 fuse)/\Boxed w b 37 (.pointer (some ⟨X,0,none⟩))/\Boxed w c 3 (.int .i64 (bef:Int))
def qbi(fuse:Int)(bef n:Nat):Bool:=decide (0<=fuse)&&decide (fuse<=(n:Int) - (bef:Int))
def qc8(eb:Nat):List PanicEntry:=[{v:= .iface 146 (.agg #[.pointer (some ⟨eb,0,none⟩)]),recovered:=false}]
def qq5(G:Nat->Prop)(Q:World->Prop):Prop:=∀V V',Q V->Upd G V V'->Q V'
section
variable {w w':World} {X rp tp:Nat} {who:Int} {df lv an:Value} {l:List Nat} {ov:Bool} {G:Nat->Prop}
theorem RnP.lt(h:RnP w X rp tp who df lv l ov an):X<w.heap.size:=(wal.1 h.1).1
theorem RnP.row_lt(h:RnP w X rp tp who df lv l ov an){g:Nat}(hg:lv.ownBlock=some g):X<g/\g<w.heap.size:=by
 have:=h.2.lt g hg
 omega
theorem qde{base size n:Nat}{e:TypeId}{v:Value}{xs:List Value}(h:w.ownsRow base e size v n xs)(hu:Upd G w w')(hG:∀k,v.ownBlock=some k->¬G k):w'.ownsRow base e size v n xs:=by
 rcases h with ⟨e1,e2⟩
 refine⟨e1,?_⟩;rcases e2 with e2|⟨g,c,cur,rfl,hb,hg,r⟩
 ·exact .inl e2
 ·exact .inr ⟨g,c,cur,rfl,hb,(hu.block g (wal.1 hg).1 (hG g rfl)).trans hg,r⟩
theorem RnP.upd(h:RnP w X rp tp who df lv l ov an)(hu:Upd G w w')(h1:¬G X)(h2:∀k,lv.ownBlock=some k->¬G k):RnP w' X rp tp who df lv l ov an:=
 ⟨(hu.block X h.lt h1).trans h.1,qde h.2 hu h2⟩
theorem RnP.cells(h:RnP w X rp tp who df lv l ov an):w.cell? ⟨X,0,none⟩=some (.pointer (some ⟨rp,0,none⟩))/\w.cell? ⟨X,1,none⟩=some (.pointer (some ⟨tp,0,none⟩))/\w.cell? ⟨X,2,none⟩=some (.int .i64 who)/\
  w.cell? ⟨X,3,none⟩=some df/\w.cell? ⟨X,4,none⟩=some lv/\w.cell? ⟨X,5,none⟩=some (.bool ov)/\w.cell? ⟨X,6,none⟩=some an/\∀j,w.frozen? ⟨X,j,none⟩=false:=
 ⟨by rw[qaa h.1];rfl,by rw[qaa h.1];rfl,by rw[qaa h.1];rfl,by rw[qaa h.1];rfl,by rw[qaa h.1];rfl,by rw[qaa h.1];rfl,by rw[qaa h.1];rfl,λj=>qaj h.1 j⟩
theorem RnP.log(h:RnP w X rp tp who df lv l ov an){j x:Nat}(hj:l[j]? =some x):∃g c,lv= .slice (some ⟨g,0,none⟩) l.length c/\w.cell? ⟨g,j*2,none⟩=some (.int .u64 (x:Int))/\w.cell? ⟨g,j*2+1,none⟩=some .nilIface:=by
 have hjl:j<l.length:=(wan.1 hj).1;obtain⟨h1,h2⟩:=q7d hj;obtain⟨e1,e2⟩:=h.2;rcases e2 with ⟨_,e2⟩|⟨g,c,cur,rfl,hb,hg,hn,hc,hs,ht⟩
 ·omega
 ·refine⟨g,c,rfl,?_,?_⟩
  ·rw[qaa hg,<-wb9,<-h1,<-ht,wbh,if_pos Zo]
  ·rw[qaa hg,<-wb9,<-h2,<-ht,wbh,if_pos Zo]
theorem RnP.logv(h:RnP w X rp tp who df lv l ov an):∃A c,lv= .slice A l.length c:=by
 obtain⟨e1,e2⟩:=h.2;rcases e2 with ⟨rfl,e2⟩|⟨g,c,cur,rfl,_⟩
 ·exact⟨none,0,by rw[e2]⟩
 ·exact⟨_,c,rfl⟩
variable {eb i:Nat} {o:Option Nat} {fs:Value} {st bl:Bool}
theorem EvR.lt(h:EvR w eb o who i fs st bl):eb<w.heap.size:=(wal.1 h).1
theorem EvR.upd(h:EvR w eb o who i fs st bl)(hu:Upd G w w')(h1:¬G eb):EvR w' eb o who i fs st bl:=(hu.block eb h.lt h1).trans h
theorem EvR.cells(h:EvR w eb o who i fs st bl):w.cell? ⟨eb,0,none⟩=some (runV o)/\w.cell? ⟨eb,1,none⟩=some (.int .i64 who)/\w.cell? ⟨eb,2,none⟩=some (.int .i64 (i:Int))/\
  w.cell? ⟨eb,3,none⟩=some fs/\w.cell? ⟨eb,4,none⟩=some (.bool st)/\w.cell? ⟨eb,5,none⟩=some (.bool bl)/\∀j,w.frozen? ⟨eb,j,none⟩=false:=
 ⟨by rw[qaa h];rfl,by rw[qaa h];rfl,by rw[qaa h];rfl,by rw[qaa h];rfl,by rw[qaa h];rfl,by rw[qaa h];rfl,λj=>qaj h j⟩
theorem EvR.run(h:EvR w eb o who i fs st bl)(o':Option Nat):EvR (w.setCell ⟨eb,0,none⟩ (runV o')) eb o' who i fs st bl:=qah h 0 _
theorem EvR.at(h:EvR w eb o who i fs st bl)(i':Nat):EvR (w.setCell ⟨eb,2,none⟩ (.int .i64 (i':Int))) eb o who i' fs st bl:=qah h 2 _
theorem EvR.stop(h:EvR w eb o who i fs st bl)(b:Bool):EvR (w.setCell ⟨eb,4,none⟩ (.bool b)) eb o who i fs b bl:=qah h 4 _
theorem EvR.block(h:EvR w eb o who i fs st bl)(b:Bool):EvR (w.setCell ⟨eb,5,none⟩ (.bool b)) eb o who i fs st b:=qah h 5 _
theorem qiw{G:Nat->Prop}{p:Addr}(hp:G p.block)(v:Value):Upd G w (w.setCell p v):=(Upd.refl G w).setCell (.inl hp) v
theorem qal{b:Nat}{t:TypeId}{v:Value}(h:Boxed w b t v)(hu:Upd G w w')(h1:¬G b):Boxed w' b t v:=(hu.block b h.lt h1).trans h
variable {fuse:Int} {bef a b c:Nat}
theorem FsR.upd(h:FsR w fs X fuse bef a b c)(hu:Upd G w w')(h1:¬G a)(h2:¬G b)(h3:¬G c):FsR w' fs X fuse bef a b c:=
 ⟨h.1,qal h.2.1 hu h1,qal h.2.2.1 hu h2,qal h.2.2.2 hu h3⟩
theorem RnP.told{w4:World}{g c y:Nat}(h:RnP w X rp tp who df lv l ov an){O:Obj}(hown:w4.ownsRow (X+1) 268 2 (.slice (some ⟨g,0,none⟩) (l.length+1) c) (l.length+1) (qfj l++[.int .u64 (y:Int),.nilIface]))(hgrow:(w.alloc O).grownBy w4 lv.ownBlock):
  w4.heap[X]? =w.heap[X]?/\RnP (w4.setCell ⟨X,4,none⟩ (.slice (some ⟨g,0,none⟩) (l.length+1) c)) X rp tp who df (.slice (some ⟨g,0,none⟩) (l.length+1) c) (l++[y]) ov an/\
  Upd (λk=>k=X\/lv.ownBlock=some k) w (w4.setCell ⟨X,4,none⟩ (.slice (some ⟨g,0,none⟩) (l.length+1) c)):=by
 have hX:=h.lt;have hx4:w4.heap[X]? =w.heap[X]?:=
  (hgrow.block X Zx (λe=>by have:=h.row_lt e.symm;omega)).trans (wbv _ _ _ hX)
 have hx5:=hx4.trans h.1;refine⟨hx4,⟨by rw[qah hx5];rfl,?_⟩,(((Upd.refl _ w).alloc O).grown hgrow (λk hk=> .inl (.inr hk))).setCell (p:=⟨X,4,none⟩) (.inl (.inl rfl)) _⟩;rw[was,wca,qz2];exact hown.kept (qbb w4 ⟨X,4,none⟩ _) (.inr (λe=>by injection e with e;have:=(hown.lt g rfl).1;simp at e;omega))
end
section
variable {w:World} {X rp tp eb i:Nat} {who who':Int} {df lv an fs:Value} {l:List Nat} {ov st bl:Bool} {fuse:Int} {bef a b c:Nat}
theorem qqj(h:RnP w X rp tp who df lv l ov an)(fuse:Int):
  Calls Tryz.prog 72 #[.pointer (some ⟨X,0,none⟩),.int .i64 fuse] w λe w'=>∃fs a b c,e= .returned fs/\FsR w' fs X fuse l.length a b c/\(w.heap.size<=a/\w.heap.size<=b/\w.heap.size<=c)/\Below w.heap.size w w':=by
 have hmf:∀(fn:Fn) (first cap:Array Value) (w:World),(Instr.makeFunc fn first cap).run Tryz.prog w= .ok (.func fn first cap) w:=λ_ _ _ _=>rfl
 obtain⟨x0,x1,x2,x3,x4,x5,x6,xf⟩:=h.cells;have hXl:=h.lt;obtain⟨A,cc,rfl⟩:=h.logv;have hB0:=waa (wac w.heap.size w);clear h x0 x1 x2 x3 x5 x6 xf;obtain⟨N,hN⟩:∃N,l.length=N:=⟨_,rfl⟩
 rw[hN] at x4 ⊢;clear hN;have hne1:¬X=w.heap.size:=Zo
 have hne2:¬X=w.heap.size+1:=Zo
 go_enter Tryz.func72,Tryz.ntmps72;have hF:FsR (((w.alloc (.cells #[.pointer (some ⟨X,0,none⟩)] 37)).alloc (.cells #[.int .i64 fuse] 3)).alloc (.cells #[.int .i64 (N:Int)] 3)) (.func (.func 110) #[] #[.pointer (some ⟨w.heap.size+1,0,none⟩),.pointer (some ⟨w.heap.size,0,none⟩),.pointer (some ⟨w.heap.size+1+1,0,none⟩)]) X fuse N (w.heap.size+1) w.heap.size (w.heap.size+1+1):=
  ⟨rfl,qag (qan Zs _ _) _,qag (qag (qan rfl _ _) _) _,qan Zs _ _⟩
 have hF:=waa hF;go_wp2_with fail;go_ret;exact⟨_,_,_,_,rfl,hF.out,⟨Zo,Zo,Zo⟩,((hB0.out.alloc (wab _) _).alloc Zs _).alloc Zx _⟩
theorem qkq(hF:FsR w fs X fuse bef a b c)(h:RnP w X rp tp who df lv l ov an)(hl:l.length<=100000)(hbef:bef<=l.length):
  Calls Tryz.prog 110 #[.pointer (some ⟨a,0,none⟩),.pointer (some ⟨b,0,none⟩),.pointer (some ⟨c,0,none⟩)] w λe w'=>e= .returned (.bool (qbi fuse bef l.length))/\∃m,w'=w.drewN m:=by
 obtain⟨-,-,-,-,x4,-,-,-⟩:=h.cells;obtain⟨A,cc,rfl⟩:=h.logv;obtain⟨rfl,ha,hb,hc⟩:=hF;have y0:=ha.cell;have y1:=hb.cell;have y2:=hc.cell;clear h ha hb hc;obtain⟨N,hN⟩:∃N,l.length=N:=⟨_,rfl⟩
 rw[hN] at x4 hl hbef ⊢;clear hN;by_cases h1:0<=fuse
 ·have d1:decide (0<=fuse)=true:=decide_eq_true h1
  have hw:IntKind.i64.wrap ((N:Int) - (bef:Int))=(N:Int) - (bef:Int):=wao _ Zo;unfold qbi;rw[d1];go_enter Tryz.func110,Tryz.ntmps110;go_wp2_with fail;go_quiet (fail)
  go_wp2_with fail;go_ret;exact⟨by simp,_,rfl⟩
 ·have d1:decide (0<=fuse)=false:=decide_eq_false h1
  unfold qbi;rw[d1];go_enter Tryz.func110,Tryz.ntmps110;go_wp2_with fail;go_quiet (fail)
  go_wp2_with fail;go_ret;exact⟨by simp,_,rfl⟩
theorem qtx{o:Option Nat}(h:EvR w eb o who i fs st bl):
  Calls Tryz.prog 350 #[.pointer (some ⟨eb,0,none⟩)] w λe w'=>e= .panicked (qc8 eb)/\EvR w' eb o who i fs true bl/\Upd (λk=>k=eb) w w':=by
 obtain⟨-,-,-,-,c4,-,cf⟩:=h.cells;have hs:=waa (h.stop true);have hu:=waa (qiw (w:=w) (G:=λk=>k=eb) (p:=⟨eb,4,none⟩) rfl (.bool true));clear h;go_enter Tryz.func350,Tryz.ntmps350;go_wp2_with fail;exact⟨rfl,rfl,hs.out,hu.out⟩
theorem qz8(hE:EvR w eb (some X) who' i fs false bl)(hF:FsR w fs X fuse bef a b c)(h:RnP w X rp tp who df lv l ov an)(hl:l.length<=100000)(hbef:bef<=l.length)(hsp:qbi fuse bef l.length=true)(dv:Value):
  Calls Tryz.prog 286 #[.pointer (some ⟨eb,0,none⟩),dv] w λe w'=>e= .panicked (qc8 eb)/\EvR w' eb (some X) who' i fs true bl/\Upd (λk=>k=eb) w w':=by
 obtain⟨c0,c1,c2,c3,c4,c5,cf⟩:=hE.cells;have hsp':=qkq hF h hl hbef;rw[hsp] at hsp';have hsp':=waa hsp';have hst:=waa (λm=>qtx (w:=w.drewN m) (show EvR (w.drewN m) eb (some X) who' i fs false bl from hE));obtain⟨rfl,-,-,-⟩:=hF;clear hE h hsp hl hbef;go_enter Tryz.func286,Tryz.ntmps286;go_wp2_with (first|(go_at_call 110;go_loud (refine hsp'.out.mono ?_;rintro e w1 ⟨rfl,m,rfl⟩))|(go_at_call 350;go_loud (refine(hst.out _).mono ?_;rintro e w1 ⟨rfl,hE2,hu2⟩;have hE2:=waa hE2;have hu2:=waa hu2)))
 exact⟨rfl,rfl,hE2.out,((Upd.refl _ w).drewN m).trans hu2.out⟩
theorem q8g{F:Nat}{caps:Array Value}{x:Nat}{Q:World->Prop}{H:Nat->Prop}(hen:∀(args:Array Value) (w:World),(callFunc F args).run Tryz.prog w= .ok (.enter F args) w)(hE:EvR w eb (some X) who' i fs false bl)(hF:FsR w fs X fuse bef a b c)(h:RnP w X rp tp who df lv l ov an)(hl:l.length<=100000)(hbef:bef<=l.length)(hsp:qbi fuse bef l.length=false)(hdo:∀V,Upd (λk=>k=eb) w V->Calls Tryz.prog F (#[.pointer (some ⟨X,0,none⟩)]++caps) V λe V'=>e= .returned (.tuple #[.agg #[.int .u64 (x:Int),.nilIface],.bool true])/\Q V'/\Upd H V V')(hQ:qq5 (λk=>k=eb\/k=X\/lv.ownBlock=some k) Q)(hH:∀k,H k->k≠eb/\k≠X/\lv.ownBlock≠some k):
  Calls Tryz.prog 286 #[.pointer (some ⟨eb,0,none⟩),.func (.func F) #[] caps] w λe w'=>e= .returned (.tuple #[])/\EvR w' eb (some X) who' i fs false bl/\Q w'/\
   (∃lv',RnP w' X rp tp who df lv' (l++[x]) ov an/\(lv'.ownBlock=lv.ownBlock\/∃g,lv'.ownBlock=some g/\w.heap.size<=g))/\Upd (λk=>H k\/k=eb\/k=X\/lv.ownBlock=some k) w w':=by
 obtain⟨i0,ii,iz0,iz1,iz2⟩:=info_parts q1e;obtain⟨c0',c1,c2,c3,c4,c5,cf⟩:=hE.cells;have c0:w.cell? ⟨eb,0,none⟩=some (.pointer (some ⟨X,0,none⟩)):=c0';have hsp':=qkq hF h hl hbef;rw[hsp] at hsp';have hsp':=waa hsp';obtain⟨rfl,-,-,-⟩:=hF;have hXe:X≠eb:=qbn h.1 hE Zd;have hle:lv.ownBlock≠some eb:=λe=>qaz hE Zd h.2 e.symm
 have hE:=waa hE;have h:=waa h;have hdo:=waa hdo;have hQ:=waa hQ;have hH:=waa hH;clear hsp hbef c0' c1 c2 c5;go_enter Tryz.func286,Tryz.ntmps286;go_wp2_with (go_at_call 110;go_loud (refine hsp'.out.mono ?_;rintro e w1 ⟨rfl,m,rfl⟩))
 have hU0:Upd (λk=>k=eb) w ((w.drewN m).setCell ⟨eb,0,none⟩ (.pointer none)):=((Upd.refl (λk=>k=eb) w).drewN m).setCell (p:=⟨eb,0,none⟩) (.inl rfl) _;have hE0:EvR ((w.drewN m).setCell ⟨eb,0,none⟩ (.pointer none)) eb none who' i _ false bl:=EvR.run (w:=w.drewN m) hE.out none;have h0:=h.out.upd hU0 hXe (λk hk e=>hle (by rw[<-e];exact hk));have hdo0:=hdo.out _ hU0;generalize (w.drewN m).setCell ⟨eb,0,none⟩ (.pointer none)=W0 at hU0 hE0 h0 hdo0 ⊢;refine hdo0.mono ?_;rintro e V ⟨rfl,hQV,hUV⟩;have hE1:=hE0.upd hUV (λk=>(hH.out _ k).1 rfl);have h1:=h0.upd hUV (λk=>(hH.out _ k).2.1 rfl) (λk hk e=>(hH.out _ e).2.2 hk);have hU1:=waa ((hU0.mono (G:=λk=>H k\/k=eb\/k=X\/lv.ownBlock=some k) (λk e=> .inr (.inl e))).trans (hUV.mono (λk e=> .inl e)));obtain⟨d0,d1,d2,d3,d4,d5,df'⟩:=hE1.cells;have d0:V.cell? ⟨eb,0,none⟩=some (.pointer none):=d0;have hE1:=waa hE1;have h1:=waa h1;have hQV:=waa hQV;have hel:=hE1.out.lt;clear hsp' hdo hdo0 hE0 h0 hU0 hUV d1 d2 d3 d4 d5;have hu2:Upd (λk=>k=eb) V ((V.setCell ⟨eb,0,none⟩ (.pointer (some ⟨X,0,none⟩))).alloc (.cells #[.int .u64 (x:Int),.nilIface] 268)):=((Upd.refl (λk=>k=eb) V).setCell (p:=⟨eb,0,none⟩) (.inl rfl) _).alloc _;have hE2:EvR ((V.setCell ⟨eb,0,none⟩ (.pointer (some ⟨X,0,none⟩))).alloc (.cells #[.int .u64 (x:Int),.nilIface] 268)) eb (some X) who' i _ false bl:=qag (hE1.out.run (some X)) _;have h2:=h1.out.upd hu2 hXe (λk hk e=>hle (by rw[<-e];exact hk));have hQ2:=hQ.out _ _ hQV.out (hu2.mono (λk e=> .inl e));have hU2:=waa (hU1.out.trans (hu2.mono (λk e=> .inr (.inl e))));have hbx:=qan (V:=V.setCell ⟨eb,0,none⟩ (.pointer (some ⟨X,0,none⟩))) (H:=V.heap.size) (by simp[World.setCell]) #[.int .u64 (x:Int),.nilIface] 268;have hsz:=waa hu2.size;go_wp2_with fail;generalize (V.setCell ⟨eb,0,none⟩ (.pointer (some ⟨X,0,none⟩))).alloc (.cells #[.int .u64 (x:Int),.nilIface] 268)=W at hu2 hE2 h2 hQ2 hU2 hbx hsz ⊢;have hb0:=qaa hbx 0;have hb1:=qaa hbx 1;simp at hb0 hb1
 obtain⟨x0,x1,x2,x3,x4,x5,x6,xf⟩:=h2.cells;obtain⟨A,cc,rfl⟩:=h2.logv;have hnX:=waa (λ(k:Nat) (e:some V.heap.size=some k)=>e);have hXs:=h2.lt;have ho:=waa h2.2;have h2:=waa h2;have hE2:=waa hE2;have hQ2:=waa hQ2;clear x0 x1 x2 x3 x5 x6 hu2 hE1 h1 hQV hU1 hbx hE h;go_region_law ((refine step_append_lies _ Zr _ _ 89 Zr (X+1) 268 i0 (.agg #[.int .u64 0,.nilIface]) 2 24 Tryz.underlying89 ii iz0 iz1 iz2 Zr Zd _ _ _ Zr (qfa (ho.out.alloc _) 1) ⟨W.heap.size,0,none⟩ 1 1 [.int .u64 (x:Int),.nilIface] Zr Zr (qb3 Zr _ Zr _) (by simp[Value.oneCell']) Zd (by simp only[maxLen];omega) Zo Zx _ Zr ?_;intro g c w4 hown hgrow hat hlg;obtain⟨hX4,hR4,hU4⟩:=RnP.told (y:=x) (w:=W) (O:= .cells #[.int .u64 (x:Int),.nilIface] 268) h2.out hown ⟨hgrow.os,hgrow.tape,hgrow.output,hgrow.size,hgrow.block⟩;have hXb:=hX4.trans h2.out.1;have z4:w4.cell? ⟨X,4,none⟩=some (.slice A l.length cc):=(qaa hXb 4).trans rfl;have zf:=qaj hXb 4;have hgq:(Value.slice (some ⟨g,0,none⟩) (l.length+1) c).ownBlock=(Value.slice A l.length cc).ownBlock\/∃g',(Value.slice (some ⟨g,0,none⟩) (l.length+1) c).ownBlock=some g'/\w.heap.size<=g':=hat.imp (λe=>e.symm) (λe=>⟨g,rfl,by have h1:=hU2.out.size;rw[e];simp;omega⟩);have hR4:=waa hR4;have hE4:=waa (hE2.out.upd hU4 (λe=>by rcases e with e|e;exact hXe e.symm;exact hle e));have hQ4:=waa (hQ.out _ _ hQ2.out (hU4.mono (λk e=> .inr e)));have hU5:=waa (hU2.out.trans (hU4.mono (λk e=> .inr (.inr e))));clear hown hgrow hat hX4 hU4 hXb;have hgq:=waa hgq))
 all_goals
  go_wp2_with fail;go_end0
  exact⟨rfl,hE4.out,hQ4.out,⟨_,hR4.out,hgq.out⟩,hU5.out⟩
theorem qtj{F:Nat}{caps:Array Value}{x:Nat}{Q:World->Prop}{H:Nat->Prop}(hen:∀(args:Array Value) (w:World),(callFunc F args).run Tryz.prog w= .ok (.enter F args) w)(hE:EvR w eb (some X) who' i fs false bl)(hF:FsR w fs X fuse bef a b c)(h:RnP w X rp tp who df lv l ov an)(hl:l.length<=100000)(hbef:bef<=l.length)(hsp:qbi fuse bef l.length=false)(hdo:∀V,Upd (λk=>k=eb) w V->Calls Tryz.prog F (#[.pointer (some ⟨X,0,none⟩)]++caps) V λe V'=>e= .returned (.tuple #[.agg #[.int .u64 (x:Int),.nilIface],.bool false])/\Q V'/\Upd H V V')(hQ:qq5 (λk=>k=eb) Q)(hH:∀k,H k->k≠eb/\k≠X/\lv.ownBlock≠some k):
  Calls Tryz.prog 286 #[.pointer (some ⟨eb,0,none⟩),.func (.func F) #[] caps] w λe w'=>e= .panicked (qc8 eb)/\EvR w' eb (some X) who' i fs true true/\Q w'/\
   RnP w' X rp tp who df lv l ov an/\Upd (λk=>H k\/k=eb) w w':=by
 obtain⟨c0',c1,c2,c3,c4,c5,cf⟩:=hE.cells;have c0:w.cell? ⟨eb,0,none⟩=some (.pointer (some ⟨X,0,none⟩)):=c0';have hsp':=qkq hF h hl hbef;rw[hsp] at hsp';have hsp':=waa hsp';obtain⟨rfl,-,-,-⟩:=hF;have hXe:X≠eb:=qbn h.1 hE Zd;have hle:lv.ownBlock≠some eb:=λe=>qaz hE Zd h.2 e.symm
 have hE:=waa hE;have h:=waa h;have hdo:=waa hdo;have hQ:=waa hQ;have hH:=waa hH;clear hsp hbef c0' c1 c2 c5;go_enter Tryz.func286,Tryz.ntmps286;go_wp2_with (go_at_call 110;go_loud (refine hsp'.out.mono ?_;rintro e w1 ⟨rfl,m,rfl⟩))
 have hU0:Upd (λk=>k=eb) w ((w.drewN m).setCell ⟨eb,0,none⟩ (.pointer none)):=((Upd.refl (λk=>k=eb) w).drewN m).setCell (p:=⟨eb,0,none⟩) (.inl rfl) _;have hE0:EvR ((w.drewN m).setCell ⟨eb,0,none⟩ (.pointer none)) eb none who' i _ false bl:=EvR.run (w:=w.drewN m) hE.out none;have h0:=h.out.upd hU0 hXe (λk hk e=>hle (by rw[<-e];exact hk));have hdo0:=hdo.out _ hU0;generalize (w.drewN m).setCell ⟨eb,0,none⟩ (.pointer none)=W0 at hU0 hE0 h0 hdo0 ⊢;refine hdo0.mono ?_;rintro e V ⟨rfl,hQV,hUV⟩;have hE1:=hE0.upd hUV (λk=>(hH.out _ k).1 rfl);have h1:=h0.upd hUV (λk=>(hH.out _ k).2.1 rfl) (λk hk e=>(hH.out _ e).2.2 hk);have hU1:=waa ((hU0.mono (G:=λk=>H k\/k=eb) (λk e=> .inr e)).trans (hUV.mono (λk e=> .inl e)));obtain⟨d0,d1,d2,d3,d4,d5,df'⟩:=hE1.cells;have d0:V.cell? ⟨eb,0,none⟩=some (.pointer none):=d0;have hE1:=waa hE1;have h1:=waa h1;have hQV:=waa hQV;have hel:=hE1.out.lt;clear hsp' hdo hdo0 hE0 h0 hU0 hUV d1 d2 d3 d4;have hu2:Upd (λk=>k=eb) V (((V.setCell ⟨eb,0,none⟩ (.pointer (some ⟨X,0,none⟩))).setCell ⟨eb,5,none⟩ (.bool true)).alloc (.cells #[.int .u64 (x:Int),.nilIface] 268)):=(((Upd.refl (λk=>k=eb) V).setCell (p:=⟨eb,0,none⟩) (.inl rfl) _).setCell (p:=⟨eb,5,none⟩) (.inl rfl) _).alloc _;have hE2:EvR (((V.setCell ⟨eb,0,none⟩ (.pointer (some ⟨X,0,none⟩))).setCell ⟨eb,5,none⟩ (.bool true)).alloc (.cells #[.int .u64 (x:Int),.nilIface] 268)) eb (some X) who' i _ false true:=qag ((hE1.out.run (some X)).block true) _;have h2:=h1.out.upd hu2 hXe (λk hk e=>hle (by rw[<-e];exact hk));have hQ2:=hQ.out _ _ hQV.out hu2;have hU2:=waa (hU1.out.trans (hu2.mono (λk e=> .inr e)));have hst:=waa (qtx hE2);have h2:=waa h2;have hQ2:=waa hQ2;clear hu2 hE1 h1 hQV hU1 hE h hE2;go_wp2_with (go_at_call 350;go_loud (refine hst.out.mono ?_;rintro e w1 ⟨rfl,hE3,hu3⟩;have hE3:=waa hE3;have hu3:=waa hu3))
 exact⟨rfl,rfl,hE3.out,hQ.out _ _ hQ2.out hu3.out,h2.out.upd hu3.out hXe (λk hk e=>hle (by rw[<-e];exact hk)),hU2.out.trans (hu3.out.mono (λk e=> .inr e))⟩
end
section
variable {w:World} {X rp tp eb i:Nat} {who who':Int} {df lv an fs:Value} {l:List Nat} {ov st bl:Bool} {fuse:Int} {bef a b c:Nat}
theorem q14(hE:EvR w eb (some X) who' l.length fs false bl)(hF:FsR w fs X fuse bef a b c)(h:RnP w X rp tp who df lv l ov an)(hl:l.length<=100000)(hbef:bef<=l.length)(hsp:qbi fuse bef l.length=true)(dv:Value):
  Calls Tryz.prog 214 #[.pointer (some ⟨eb,0,none⟩),dv] w λe w'=>e= .panicked (qc8 eb)/\EvR w' eb (some X) who' l.length fs true bl/\Upd (λk=>k=eb) w w':=by
 obtain⟨c0',c1,c2,c3,c4,c5,cf⟩:=hE.cells;have c0:w.cell? ⟨eb,0,none⟩=some (.pointer (some ⟨X,0,none⟩)):=c0';obtain⟨x0,x1,x2,x3,x4,x5,x6,xf⟩:=h.cells;have hn:=waa (λn=>qz8 (w:=w.drewN n) (show EvR (w.drewN n) eb (some X) who' l.length fs false bl from hE) (show FsR (w.drewN n) fs X fuse bef a b c from hF) (show RnP (w.drewN n) X rp tp who df lv l ov an from h) hl hbef hsp dv);obtain⟨A,cc,rfl⟩:=h.logv;clear hE hF h hsp c0' c1 c3 c4 c5 x0 x1 x2 x3 x5 x6 xf;generalize l.length=N at*;go_enter wfv,wfw;go_wp2_with fail;go_quiet (fail)
 go_wp2_with (go_at_call 286;go_loud (refine(hn.out _).mono ?_;rintro e w1 ⟨rfl,hE2,hu2⟩;have hE2:=waa hE2;have hu2:=waa hu2))
 exact⟨rfl,rfl,hE2.out,((Upd.refl _ w).drewN _).trans hu2.out⟩
theorem ask_told(hE:EvR w eb (some X) who' i fs st bl)(h:RnP w X rp tp who df lv l ov an)(hl:l.length<=100000){x:Nat}(hx:l[i]? =some x)(dv:Value):
  Calls Tryz.prog 214 #[.pointer (some ⟨eb,0,none⟩),dv] w λe w'=>e= .returned (.int .u64 (x:Int))/\EvR w' eb (some X) who' (i+1) fs st bl/\Upd (λk=>k=eb) w w':=by
 obtain⟨c0',c1,c2,c3,c4,c5,cf⟩:=hE.cells;have c0:w.cell? ⟨eb,0,none⟩=some (.pointer (some ⟨X,0,none⟩)):=c0';obtain⟨x0,x1,x2,x3,x4,x5,x6,xf⟩:=h.cells;have hil:i<l.length:=(wan.1 hx).1;obtain⟨g,cc,rfl,y0,y1⟩:=h.log hx;have hE:=waa hE;have hU:=waa (Upd.refl (λk=>k=eb) w);have hne:((i:Int)==(l.length:Int))=false:=by simp;omega
 have z0:(0:Int)<=(i:Int):=Zo
 have z1:(i:Int)<(l.length:Int):=Zo
 have hw1:IntKind.i64.wrap ((i:Int)+1)=((i+1:Nat):Int):=(wao _ Zo).trans Zo;clear h c0' c1 c3 c4 c5 x0 x1 x2 x3 x5 x6 xf hx;generalize l.length=N at*;go_enter wfv,wfw;go_wp2_with fail;go_quiet (fail)
 go_wp2_with fail;have hE:=waa (show EvR (w.drewN nq) eb (some X) who' i fs st bl from hE.out);have hU:=waa (hU.out.drewN nq);have c0:=show(w.drewN nq).cell? ⟨eb,0,none⟩=_ from c0
 have c2:=show(w.drewN nq).cell? ⟨eb,2,none⟩=_ from c2
 have x4:=show(w.drewN nq).cell? ⟨X,4,none⟩=_ from x4
 have y0:=show(w.drewN nq).cell? ⟨g,i*2,none⟩=_ from y0
 have y1:=show(w.drewN nq).cell? ⟨g,i*2+1,none⟩=_ from y1
 clear cf;generalize w.drewN nq=W at hE hU c0 c2 x4 y0 y1 ⊢;go_region_held3 (λV=>V.cell? ⟨eb,0,none⟩=some (.pointer (some ⟨X,0,none⟩))/\V.cell? ⟨eb,2,none⟩=some (.int .i64 (i:Int))/\V.cell? ⟨X,4,none⟩=some (.slice (some ⟨g,0,none⟩) N cc)/\V.cell? ⟨g,i*2,none⟩=some (.int .u64 (x:Int))/\V.cell? ⟨g,i*2+1,none⟩=some .nilIface)
  (first|with_reducible exact⟨c0,c2,x4,y0,y1⟩|go_keep)
  (fail)
 have hUa:Upd (λ_=>False) W (W.alloc (.cells #[.int .u64 (x:Int),.nilIface] 268)).drew:=((Upd.refl _ W).alloc _).drew;have hEa:=hE.out.upd hUa (λe=>e);have hUb:=waa (hU.out.trans (hUa.mono (λ_ e=>e.elim)));have hbx:(W.alloc (.cells #[.int .u64 (x:Int),.nilIface] 268)).drew.heap[W.heap.size]? =_:=qan rfl #[.int .u64 (x:Int),.nilIface] 268;have hel:=hE.out.lt;have hB1:¬W.heap.size=eb:=Zo
 have hB2:¬eb=W.heap.size:=Zo
 clear hUa c0 c2 x4 y0 y1 hE hU hel;generalize W.heap.size=B at hbx hB1 hB2 ⊢;generalize (W.alloc (.cells #[.int .u64 (x:Int),.nilIface] 268)).drew=W2 at hEa hUb hbx ⊢;have b0:=qaa hbx 0;have b1:=qaa hbx 1;simp at b0 b1
 obtain⟨-,-,c2,-,-,-,cf⟩:=hEa.cells;have hfin:=waa (hEa.at (i+1));have hUf:=waa (hUb.out.setCell (p:=⟨eb,2,none⟩) (.inl rfl) (.int .i64 ((i+1:Nat):Int)));clear hEa hUb hbx;go_wp2_with fail;go_ret;exact⟨rfl,hfin.out,hUf.out⟩
theorem qaal{F:Nat}{caps:Array Value}{x:Nat}{Q:World->Prop}{H:Nat->Prop}(hen:∀(args:Array Value) (w:World),(callFunc F args).run Tryz.prog w= .ok (.enter F args) w)(hE:EvR w eb (some X) who' l.length fs false bl)(hF:FsR w fs X fuse bef a b c)(h:RnP w X rp tp who df lv l ov an)(hl:l.length<100000)(hbef:bef<=l.length)(hsp:qbi fuse bef l.length=false)(hdo:∀V,Upd (λk=>k=eb) w V->Calls Tryz.prog F (#[.pointer (some ⟨X,0,none⟩)]++caps) V λe V'=>e= .returned (.tuple #[.agg #[.int .u64 (x:Int),.nilIface],.bool true])/\Q V'/\Upd H V V')(hQ:qq5 (λk=>k=eb\/k=X\/lv.ownBlock=some k) Q)(hH:∀k,H k->k≠eb/\k≠X/\lv.ownBlock≠some k):
  Calls Tryz.prog 214 #[.pointer (some ⟨eb,0,none⟩),.func (.func F) #[] caps] w λe w'=>e= .returned (.int .u64 (x:Int))/\EvR w' eb (some X) who' (l.length+1) fs false bl/\Q w'/\
   (∃lv',RnP w' X rp tp who df lv' (l++[x]) ov an/\(lv'.ownBlock=lv.ownBlock\/∃g,lv'.ownBlock=some g/\w.heap.size<=g))/\Upd (λk=>H k\/k=eb\/k=X\/lv.ownBlock=some k) w w':=by
 obtain⟨c0',c1,c2,c3,c4,c5,cf⟩:=hE.cells;have c0:w.cell? ⟨eb,0,none⟩=some (.pointer (some ⟨X,0,none⟩)):=c0';obtain⟨x0,x1,x2,x3,x4,x5,x6,xf⟩:=h.cells;have hn:=waa (λn=>q8g (w:=w.drewN n) hen (show EvR (w.drewN n) eb (some X) who' l.length fs false bl from hE) (show FsR (w.drewN n) fs X fuse bef a b c from hF) (show RnP (w.drewN n) X rp tp who df lv l ov an from h) Zo hbef hsp (λV hV=>hdo V (((Upd.refl _ w).drewN n).trans hV)) hQ hH);have hXe:X≠eb:=qbn h.1 hE Zd;have hle:lv.ownBlock≠some eb:=λe=>qaz hE Zd h.2 e.symm
 have hQ:=waa hQ;obtain⟨A,cc,hlv⟩:=h.logv;have hll:(l++[x]).length=l.length+1:=by simp
 have hxl:(l++[x])[l.length]? =some x:=by simp
 rw[hlv] at x4;have hlv:=waa hlv;have hh:=waa h;clear hE hF hsp hdo hH h c0' c1 c3 c4 c5 x0 x1 x2 x3 x5 x6 xf cf;generalize hi:l.length=i at*;have hi:=waa hi;go_enter wfv,wfw;go_wp2_with fail;go_quiet (fail)
 go_wp2_with (go_at_call 286;go_loud (refine(hn.out _).mono ?_;rintro e W ⟨rfl,hE2,hQ2,⟨lv',hR2,hg2⟩,hu2⟩;have hE2:=waa hE2;have hQ2:=waa hQ2;have hR2:=waa hR2;have hg2:=waa hg2;have hu2:=waa hu2))
 obtain⟨N,hN⟩:∃N,i+1=N:=⟨_,rfl⟩
 have hi':(l++[x]).length=N:=hll.trans hN;obtain⟨g,cc,hlv',y0,y1⟩:=hR2.out.log hxl;rw[hi'] at hlv';subst hlv';obtain⟨c0',-,c2,-,-,-,-⟩:=hE2.out.cells;have c0:W.cell? ⟨eb,0,none⟩=some (.pointer (some ⟨X,0,none⟩)):=c0';obtain⟨-,-,-,-,x4,-,-,-⟩:=hR2.out.cells;have z0:(0:Int)<=(i:Int):=Zo
 have z1:(i:Int)<(N:Int):=Zo
 have hw1:IntKind.i64.wrap ((i:Int)+1)=((i+1:Nat):Int):=(wao _ Zo).trans Zo;have hrow:=waa (λk (hk:(Value.slice (some ⟨g,0,none⟩) N cc).ownBlock=some k)=>(λe=>qaz hE2.out Zd hR2.out.2 (by rw[hk,e]):¬k=eb));have hXe:=waa hXe;clear c0' hll hxl hi' hn hen hle hN;go_region_held3 (λV=>V.cell? ⟨eb,0,none⟩=some (.pointer (some ⟨X,0,none⟩))/\V.cell? ⟨eb,2,none⟩=some (.int .i64 (i:Int))/\V.cell? ⟨X,4,none⟩=some (.slice (some ⟨g,0,none⟩) N cc)/\V.cell? ⟨g,i*2,none⟩=some (.int .u64 (x:Int))/\V.cell? ⟨g,i*2+1,none⟩=some .nilIface)
  (first|with_reducible exact⟨c0,c2,x4,y0,y1⟩|go_keep)
  (fail)
 have hUa:Upd (λk=>k=eb) W (W.alloc (.cells #[.int .u64 (x:Int),.nilIface] 268)).drew:=((Upd.refl _ W).alloc _).drew;have hEa:EvR (W.alloc (.cells #[.int .u64 (x:Int),.nilIface] 268)).drew eb (some X) who' i fs false bl:=qag hE2.out _;have hbx:(W.alloc (.cells #[.int .u64 (x:Int),.nilIface] 268)).drew.heap[W.heap.size]? =_:=qan rfl #[.int .u64 (x:Int),.nilIface] 268;have hel:=hE2.out.lt;have hB1:¬W.heap.size=eb:=Zo
 have hB2:¬eb=W.heap.size:=Zo
 clear c0 c2 x4 y0 y1 hel;generalize W.heap.size=B at hbx hB1 hB2 ⊢;generalize (W.alloc (.cells #[.int .u64 (x:Int),.nilIface] 268)).drew=W2 at hEa hUa hbx ⊢;have b0:=qaa hbx 0;have b1:=qaa hbx 1;simp at b0 b1
 obtain⟨-,-,c2,-,-,-,cf⟩:=hEa.cells;have hfin:=waa (hEa.at (i+1));have hUf:=waa (hUa.setCell (p:=⟨eb,2,none⟩) (.inl rfl) (.int .i64 ((i+1:Nat):Int)));clear hEa hUa hbx;go_wp2_with fail;go_ret;exact⟨rfl,hfin.out,hQ.out _ _ hQ2.out (hUf.out.mono (λk e=> .inl e)),⟨_,hR2.out.upd hUf.out hXe.out hrow.out,hg2.out.imp id (λ⟨g',e1,e2⟩=>⟨g',e1,e2⟩)⟩,(((Upd.refl _ w).drewN nq).trans hu2.out).trans (hUf.out.mono (λk e=> .inr (.inl e)))⟩
theorem qvq{F:Nat}{caps:Array Value}{x:Nat}{Q:World->Prop}{H:Nat->Prop}(hen:∀(args:Array Value) (w:World),(callFunc F args).run Tryz.prog w= .ok (.enter F args) w)(hE:EvR w eb (some X) who' l.length fs false bl)(hF:FsR w fs X fuse bef a b c)(h:RnP w X rp tp who df lv l ov an)(hl:l.length<100000)(hbef:bef<=l.length)(hsp:qbi fuse bef l.length=false)(hdo:∀V,Upd (λk=>k=eb) w V->Calls Tryz.prog F (#[.pointer (some ⟨X,0,none⟩)]++caps) V λe V'=>e= .returned (.tuple #[.agg #[.int .u64 (x:Int),.nilIface],.bool false])/\Q V'/\Upd H V V')(hQ:qq5 (λk=>k=eb) Q)(hH:∀k,H k->k≠eb/\k≠X/\lv.ownBlock≠some k):
  Calls Tryz.prog 214 #[.pointer (some ⟨eb,0,none⟩),.func (.func F) #[] caps] w λe w'=>e= .panicked (qc8 eb)/\EvR w' eb (some X) who' l.length fs true true/\Q w'/\
   RnP w' X rp tp who df lv l ov an/\Upd (λk=>H k\/k=eb) w w':=by
 obtain⟨c0',c1,c2,c3,c4,c5,cf⟩:=hE.cells;have c0:w.cell? ⟨eb,0,none⟩=some (.pointer (some ⟨X,0,none⟩)):=c0';obtain⟨x0,x1,x2,x3,x4,x5,x6,xf⟩:=h.cells;have hn:=waa (λn=>qtj (w:=w.drewN n) hen (show EvR (w.drewN n) eb (some X) who' l.length fs false bl from hE) (show FsR (w.drewN n) fs X fuse bef a b c from hF) (show RnP (w.drewN n) X rp tp who df lv l ov an from h) Zo hbef hsp (λV hV=>hdo V (((Upd.refl _ w).drewN n).trans hV)) hQ hH);obtain⟨A,cc,hlv⟩:=h.logv;rw[hlv] at x4;have hlv:=waa hlv;clear hE hF hsp hdo hH h c0' c1 c3 c4 c5 x0 x1 x2 x3 x5 x6 xf cf hQ;generalize hi:l.length=i at*;have hi:=waa hi;go_enter wfv,wfw;go_wp2_with fail;go_quiet (fail)
 go_wp2_with (go_at_call 286;go_loud (refine(hn.out _).mono ?_;rintro e W ⟨rfl,hE2,hQ2,hR2,hu2⟩;have hE2:=waa hE2;have hQ2:=waa hQ2;have hR2:=waa hR2;have hu2:=waa hu2))
 exact⟨rfl,rfl,hE2.out,hQ2.out,hR2.out,((Upd.refl _ w).drewN _).trans hu2.out⟩
end
end Go.Proofs.YtocncmbeinmiaaaGreat
