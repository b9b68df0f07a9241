/- Parts. No condition. -/
import Derived.Orders
import Derived.Deep.RegionLawGrows
import Derived.Recover
import Derived.Deep.RegionWith
import Derived.Test.YtocncmbeinmiaaaGreatJoinU12
set_option linter.unusedVariables false
set_option maxRecDepth 100000
set_option maxHeartbeats 8000000
namespace Go.Proofs.YtocncmbeinmiaaaGreat
open Go Go.RowKit
def qkv:Value->Option Nat
 | .slice (some p) _ _=>some p.block
 | .pointer (some p)=>some p.block
 |_=>none
section
variable {P:Program} {ops:Array Oper} {Q:Exit->Act->World->Prop} {N:Nat}
structure Each (ops:Array Oper) (R:Nat->Value->World->Prop) (mk:Nat->Bool) (a0:Act) (w0:World) (listed:Array Bool) (a:Act) (w:World):Prop where
 size:a.tmps.size=a0.tmps.size
 defers:a.defers=a0.defers
 keep:∀s,(∀i,listed.getD i false=true->(ops[i]?).bind (·.dst)≠some s)->a.tmps.getD s undef=a0.tmps.getD s undef
 below:Below w0.heap.size w0 w
 rel:∀i d,listed.getD i false=true->(ops[i]?).bind (·.dst)=some d->R i (a.tmps.getD d undef) w
 new:∀i d,listed.getD i false=true->mk i=true->(ops[i]?).bind (·.dst)=some d->∃b,qkv (a.tmps.getD d undef)=some b/\w0.heap.size<=b/\b<w.heap.size
 apart:∀i j d e,i≠j->listed.getD i false=true->listed.getD j false=true->mk i=true->mk j=true->(ops[i]?).bind (·.dst)=some d->(ops[j]?).bind (·.dst)=some e->qkv (a.tmps.getD d undef)≠qkv (a.tmps.getD e undef)
variable {R:Nat->Value->World->Prop} {mk:Nat->Bool} {a0 a:Act} {w0 w w':World} {listed:Array Bool}
end
theorem qu8(v:Value)(w:World):(Instr.typeAssert (.iface 146 v) 20 146 true).run Tryz.prog w= .ok (.tuple #[v,.bool true]) w:=by
 simp[Instr.typeAssert,Sem.run_bind,run_underlying Tryz.underlying146,Result.andThen]
theorem q8p(a:Addr)(w:World):(Go.binOp .neq 136 (.pointer (some a)) (.pointer (some a))).run Tryz.prog w= .ok (.bool false) w:=by
 have h:∀d:Nat,(Op.equalIn (d+1) 136 (.pointer (some a)) (.pointer (some a))).run Tryz.prog w= .ok true w:=λd=>by
  simp[Op.equalIn,run_underlying Tryz.underlying136,sameAddr]
 simp[Go.binOp,Op.equal,Op.maxDepth,h 9999]
section
variable {w w':World} {i:Nat}
theorem qj9{o:Option Nat}{who:Int}{fs:Value}{st bl b0:Bool}{eb be bb:Nat}(hE:EvR w eb o who i fs st bl)(he:Boxed w be 136 (.pointer (some ⟨eb,0,none⟩)))(hb:Boxed w bb 4 (.bool b0)):
  CallsD Tryz.prog 73 #[.pointer (some ⟨be,0,none⟩),.pointer (some ⟨bb,0,none⟩)] .returning w λe u' w'=>e= .returned (.tuple #[])/\u'= .returning/\Boxed w' bb 4 (.bool bl)/\Upd (λk=>k=eb\/k=bb) w w':=by
 obtain⟨c0,-,-,-,-,c5,cf⟩:=hE.cells;have e0:=he.cell;have b0':=hb.cell;have bf:=hb.frozen;have hne:¬be=eb:=qbn he hE Zd;have hne2:¬bb=eb:=qbn hb hE Zd;have hne3:¬be=bb:=qbn he hb Zd;refine callsD_of_wpS Tryz.func73 rfl λc₀ cs hu=>?_
 simp only[Tryz.ntmps73,wbj,way,wbq,Nat.reduceAdd,Nat.reduceSub,wci,wcj,wck,wcl,wba,wcb];apply wpS_seq
 apply wpS_region
 simp[wpOpsS,go_sem,Exit.thenS, *]
 apply wpS_seq
 apply wpS_region
 simp[wpOpsS,go_sem,Exit.thenS, *]
 apply wpS_seq
 apply wpS_region
 simp[wpOpsS,go_sem,recoverD,Exit.thenS, *]
 apply wpS_seq
 apply wpS_region
 simp[wpOpsS,go_sem,Exit.thenS]
 refine wpS_cond (t:=false) (by simp[Act.eval]) ?_;simp only[Bool.false_eq_true,if_false];refine wpS_of_wp (wp_skip ?_);have hu2:Upd (λk=>k=eb\/k=bb) w ((w.setCell ⟨eb,0,none⟩ (.pointer none)).setCell ⟨bb,0,none⟩ (.bool bl)):=((Upd.refl (λk=>k=eb\/k=bb) w).setCell (p:=⟨eb,0,none⟩) (.inl (.inl rfl)) _).setCell (p:=⟨bb,0,none⟩) (.inl (.inr rfl)) _;have hb1:Boxed (w.setCell ⟨eb,0,none⟩ (.pointer none)) bb 4 (.bool b0):=qal hb ((Upd.refl (λk=>k=eb) w).setCell (p:=⟨eb,0,none⟩) (.inl rfl) _) hne2;cases c₀
 simp at hu
 subst hu;simp[bodyPostS,results,Tryz.results73]
 exact⟨hb1.set _,hu2⟩
theorem qkf{o:Option Nat}{who:Int}{fs:Value}{st bl b0:Bool}{eb be bb:Nat}(hE:EvR w eb o who i fs st bl)(he:Boxed w be 136 (.pointer (some ⟨eb,0,none⟩)))(hb:Boxed w bb 4 (.bool b0)):
  CallsD Tryz.prog 73 #[.pointer (some ⟨be,0,none⟩),.pointer (some ⟨bb,0,none⟩)] (.panicking (qc8 eb)) w λe u' w'=>e= .returned (.tuple #[])/\settle u'= .returning/\Boxed w' bb 4 (.bool bl)/\Upd (λk=>k=eb\/k=bb) w w':=by
 obtain⟨c0,-,-,-,-,c5,cf⟩:=hE.cells;have e0:=he.cell;have b0':=hb.cell;have bf:=hb.frozen;have hne:¬be=eb:=qbn he hE Zd;have hne2:¬bb=eb:=qbn hb hE Zd;have hne3:¬be=bb:=qbn he hb Zd;refine callsD_of_wpS Tryz.func73 rfl λc₀ cs hu=>?_
 simp only[Tryz.ntmps73,wbj,way,wbq,Nat.reduceAdd,Nat.reduceSub,wci,wcj,wck,wcl,wba,wcb];unfold qc8 at hu;apply wpS_seq
 apply wpS_region
 simp[wpOpsS,go_sem,Exit.thenS, *]
 apply wpS_seq
 apply wpS_region
 simp[wpOpsS,go_sem,Exit.thenS, *]
 apply wpS_seq
 apply wpS_region
 simp[wpOpsS,go_sem,recoverD,Exit.thenS, *]
 have hta:=λV=>qu8 (.agg #[.pointer (some ⟨eb,0,none⟩)]) V
 have hu1:Upd (λk=>k=eb) w (w.setCell ⟨eb,0,none⟩ (.pointer none)):=(Upd.refl (λk=>k=eb) w).setCell (p:=⟨eb,0,none⟩) (.inl rfl) _;have hb1:Boxed (w.setCell ⟨eb,0,none⟩ (.pointer none)) bb 4 (.bool b0):=qal hb hu1 hne2;have hu2:Upd (λk=>k=eb\/k=bb) w ((w.setCell ⟨eb,0,none⟩ (.pointer none)).setCell ⟨bb,0,none⟩ (.bool bl)):=((Upd.refl (λk=>k=eb\/k=bb) w).setCell (p:=⟨eb,0,none⟩) (.inl (.inl rfl)) _).setCell (p:=⟨bb,0,none⟩) (.inl (.inr rfl)) _;have hb3:Boxed ((w.setCell ⟨eb,0,none⟩ (.pointer none)).setCell ⟨bb,0,none⟩ (.bool bl)) bb 4 (.bool bl):=hb1.set _;have he3:=qal he hu2 (λe=>e.elim hne hne3);generalize (w.setCell ⟨eb,0,none⟩ (.pointer none)).setCell ⟨bb,0,none⟩ (.bool bl)=W3 at hu2 hb3 he3 ⊢;have he4:=qal he3 ((Upd.refl (λ_=>False) W3).alloc (.cells #[.pointer (some ⟨eb,0,none⟩)] 146)) (λe=>e);have z1:=he4.cell;have hb4:=waa (qal hb3 ((Upd.refl (λ_=>False) W3).alloc (.cells #[.pointer (some ⟨eb,0,none⟩)] 146)) (λe=>e));have hu4:=waa (hu2.alloc (.cells #[.pointer (some ⟨eb,0,none⟩)] 146));clear hu1 hb1 c0 c5 cf e0 b0' bf hne hne2 hne3 hE he hb he4 hb3 hu2 he3;have hpq:=λV=>q8p ⟨eb,0,none⟩ V
 refine wpS_of_wp ?_;go_wp2_with fail;simp[bodyPostS,results,Tryz.results73]
 exact⟨rfl,hb4.out,hu4.out⟩
end
theorem qrj(k:FuncId)(cs:Array Value)(w:World):(Go.binOp .neq 87 (.func (.func k) #[] cs) .nilFunc).run Tryz.prog w= .ok (.bool true) w:=by
 have h:∀d:Nat,(Op.equalIn (d+1) 87 (.func (.func k) #[] cs) .nilFunc).run Tryz.prog w= .ok false w:=λd=>by
  simp[Op.equalIn,run_underlying Tryz.underlying87]
 simp[Go.binOp,Op.equal,Op.maxDepth,h 9999]
theorem qjf{w:World}{v:Value}{base:Nat}{T:List Nat}(h:w.ownsRow base 27 1 v T.length (u64V T))(hz:T.length=0->v= .slice none 0 0)(hT:T.length<=2000):
  Calls Tryz.prog 44 #[v] w λe w'=>∃v',e= .returned v'/\w'.ownsRow w.heap.size 27 1 v' T.length (u64V T)/\(T.length=0->v'= .slice none 0 0)/\Below w.heap.size w w':=by
 by_cases h0:T.length=0
 ·rw[hz h0]
  refine(q0b w).mono ?_;rintro e w' ⟨he,rfl⟩;exact⟨_,he,⟨by rw[qai,wb7],.inl ⟨rfl,h0⟩⟩,λ_=>rfl,wac _ _⟩
 ·obtain⟨A,cap,rfl,hcap,hR⟩:=qcz h
  obtain⟨p,rfl,-⟩:=hR.2 Zo;refine(qhu p T.length cap T w hR rfl Zo hT hcap).mono ?_;rintro e w' ⟨g,c,he,ho,hB⟩;exact⟨_,he,ho,λe=>absurd e h0,hB⟩
theorem RnP.ended{w:World}{lv:Value}{l:List Nat}{X rp tp:Nat}{who:Int}{df an0 an:Value}(h:RnP w X rp tp who df lv l false an0):RnP ((w.setCell ⟨X,5,none⟩ (.bool true)).setCell ⟨X,6,none⟩ an) X rp tp who df lv l true an:=by
 obtain⟨h1,h2⟩:=h;refine⟨by rw[qah (qah h1 _ _)];rfl,?_⟩;have hX:∀{W:World} {j:Nat} {u:Value},W.ownsRow (X+1) 268 2 lv l.length (qfj l)->(W.setCell ⟨X,j,none⟩ u).ownsRow (X+1) 268 2 lv l.length (qfj l):=λ{W j u} h=>h.kept (qbb W ⟨X,j,none⟩ u) (by
  cases hb:lv.ownBlock with
  |none=>exact .inl rfl
  |some g=>exact .inr (λe=>by injection e with e;have:=(h.lt g hb).1;simp at e;omega))
 exact hX (hX h2)
section
variable {τ:Type} {E:DP τ} {i:Nat} {l:List Nat} {s:DM×τ} {F:Nat->Prop} {w w':World}
def ansR(T:List Nat)(v:Value)(w:World):Prop:=(∃base,w.ownsRow base 27 1 v T.length (u64V T))/\(T.length=0->v= .slice none 0 0)/\T.length<=2000
def DP.Done(E:DP τ)(l:List Nat)(s:DM×τ)(T:List Nat)(F:Nat->Prop)(w:World):Prop:=
 ∃lv G an,(∃i,EvR w E.eb (some E.X) E.who i E.fs false false)/\RnP w E.X E.p E.tp E.who E.df lv l true an/\E.Mem (E.c0+l.length) s G w/\E.Cov lv G F w/\(∀k,an.ownBlock=some k->F k)/\
  w.ownsRow (E.X+1) 27 1 an T.length (u64V T)/\(T.length=0->an= .slice none 0 0)/\∀y∈l,y<18446744073709551616
def DP.EndO(E:DP τ)(F:Nat->Prop)(w:World)(e:Ending)(w':World):Out (DM×τ) (List Nat)->Prop
 | .done T i l s=>e= .returned (.tuple #[])/\∃F',E.Done l s T F' w'/\Grows F F' w
 | .stop bl l s=>∃F',e= .panicked (qc8 E.eb)/\E.Off bl l s F' w'/\Grows F F' w
 | .wild=>True
def DP.End(E:DP τ)(o:Out (DM×τ) (List Nat))(F:Nat->Prop)(w:World)(e:Ending)(w':World):Prop:=Upd F w w'/\E.EndO F w e w' o
theorem ql0{DF:Nat}{caps:Array Value}{t:AP (DM×τ) (List Nat)}(hen:∀(args:Array Value) (w:World),(callFunc DF args).run Tryz.prog w= .ok (.enter DF args) w)(h:E.In i l s F w)(hdf:E.df= .func (.func DF) #[] caps)(hw:t E.sp i l s≠ .wild)(hdeed:Calls Tryz.prog DF (#[.pointer (some ⟨E.eb,0,none⟩)]++caps) w λe w'=>E.Post (t E.sp i l s) ansR F w e w'):
  Calls Tryz.prog 74 #[.pointer (some ⟨E.X,0,none⟩),.pointer (some ⟨E.eb,0,none⟩)] w λe w'=>E.End (t E.sp i l s) F w e w':=by
 have hnil:=λV=>qrj DF caps V
 have hdeed:=waa hdeed;have hw:=waa hw;obtain⟨lv0,G0,-,-,hR0,-⟩:=h;obtain⟨-,-,-,x3,-,-,-,-⟩:=hR0.cells;rw[hdf] at x3;clear hR0 hdf;go_enter Tryz.func74,Tryz.ntmps74;go_wp2_with fail;refine hdeed.out.mono ?_;rintro e V hpost;rcases hpost.done hw.out with ⟨T,i',l',s',v,F',ho,rfl,hA,hI,hg,hu⟩|⟨bl,l',s',F',ho,rfl,hO,hg,hu⟩
 ·obtain⟨⟨base,hrow⟩,hz,hT⟩:=hA
  have hcl:=waa (qjf hrow hz hT);have hEv:=hI;obtain⟨lv,G,hEv,-⟩:=hEv;obtain⟨-,-,-,-,e4,-,-⟩:=hEv.cells;have hI:=waa hI;have ho:=waa ho;have hg:=waa hg;have hu:=waa hu;clear hrow hz hT hEv hpost;go_wp2_with fail;refine hcl.out.mono ?_;rintro e V2 ⟨v',rfl,hrow2,hz2,hB⟩;obtain⟨AV,cV,hv',-⟩:=Rd.of_own hrow2;generalize hNT:T.length=NT at hv';subst hv';have hu2:Upd (λ_=>False) V V2:=Upd.of_below hB (wab _);have hI2:=hI.out.new hu2;obtain⟨lv,G,k1,k2,k3,k4,k5,k6⟩:=hI2;obtain⟨-,-,-,-,-,x5,x6,xf⟩:=k3.cells;have hpX:¬E.ps E.X:=k4.1.not k3.1 Zd Zd Zd (.inl Zd);have hGX:¬G E.X:=λe=>(E.exNot _ _ _ _ _ _ _ k4.2 e k3.1).2.1 rfl
  have hXe:E.X≠E.eb:=qbn k3.1 k1 Zd;have hu3:Upd (λk=>k=E.X) V2 ((V2.setCell ⟨E.X,5,none⟩ (.bool true)).setCell ⟨E.X,6,none⟩ (.slice AV NT cV)):=((Upd.refl (λk=>k=E.X) V2).setCell (p:=⟨E.X,5,none⟩) (.inl rfl) _).setCell (p:=⟨E.X,6,none⟩) (.inl rfl) _;have hXV:E.X<V.heap.size:=hI.out.lt (k5.1 _ (.inr (.inr (.inr (.inl rfl)))));have hrow3:=qde hrow2 hu3 (λk hk e=>by have:=(hrow2.lt k hk).1;omega);have hfin:E.Done l' s' T (λk=>F' k\/(Value.slice AV NT cV).ownBlock=some k) ((V2.setCell ⟨E.X,5,none⟩ (.bool true)).setCell ⟨E.X,6,none⟩ (.slice AV NT cV)):=
   ⟨lv,G,_,⟨_,k1.upd hu3 (λe=>hXe e.symm)⟩,k3.ended,k4.upd hu3 (λk hk e=>hpX (e▸hk)) (λk hk e=>hGX (e▸hk)),
    ⟨λk hk=> .inl (k5.1 k hk),λk hk=>hk.elim (λhk=>waw (k5.2.1 k hk) hu3.size) (λhk=>waw (hrow2.lt k hk).2 hu3.size),k5.2.2⟩,λk hk=> .inr hk,qax hrow3 Zo,hz2,k6.2.2.2.2.2⟩
  have hfin:=waa hfin;have hgr:Grows F (λk=>F' k\/(Value.slice AV NT cV).ownBlock=some k) w:=λk hk=>hk.elim (hg.out k) (λhk=> .inr (wap hu.out.size (hrow2.lt k hk).1))
  have hgr:=waa hgr;have hXF:F E.X\/w.heap.size<=E.X:=hg.out _ (k5.1 _ (.inr (.inr (.inr (.inl rfl)))));have hU:=waa ((hu.out.trans (hu2.mono (λ_ e=>e.elim))).after hu3 (λk e=>e▸hXF));clear hu2 k1 k2 k3 k4 k5 k6 hpX hGX hXe hu3 hXV hrow3 hrow2 hz2 hB hNT hXF hg hI;go_wp2_with fail;go_end0
  refine⟨hU.out,?_⟩;rw[ho.out];exact⟨rfl,_,hfin.out,hgr.out⟩
 ·refine⟨rfl,hu,?_⟩
  rw[ho];exact⟨F',rfl,hO,hg⟩
end
def ReadE(B:Nat)(o:Option (List (Int×Nat)))(e:Ending)(w':World):Prop:=match o with
 |none=>e= .returned (.tuple #[.slice none 0 0,.int .i64 11])
 |some L=>∃v,e= .returned (.tuple #[v,.int .i64 0])/\w'.ownsRow B 152 2 v L.length (eV L)
theorem ReadE.no{o:Option (List (Int×Nat))}(h:o=none)(B:Nat)(w':World):ReadE B o (.returned (.tuple #[.slice none 0 0,.int .i64 11])) w':=by rw[h];exact rfl
theorem ReadE.yes{o:Option (List (Int×Nat))}{L:List (Int×Nat)}{B:Nat}{w':World}{v:Value}(h:o=some L)(hr:w'.ownsRow B 152 2 v L.length (eV L)):ReadE B o (.returned (.tuple #[v,.int .i64 0])) w':=by rw[h];exact⟨v,rfl,hr⟩
theorem q08{s:Nat}{ws:List Nat}(h0:s≠0)(h1:qa9 s<=ws.length)(h2:qa9 s<=32):
  qbh s ws=if logW (qa2 (ws.take (qa9 s)))=ws.take (qa9 s)/\qiz (qa2 (ws.take (qa9 s)))=s then some (qa2 (ws.take (qa9 s))) else none:=by
 generalize hm:ws.take (qa9 s)=m;by_cases hb:logB (qa2 m)=true
 ·rw[qmf hb,qph hb]
  by_cases hw:qbe 0 (qa2 m)=m/\qbo (qbe 0 (qa2 m))=s
  ·rw[if_pos hw,<-hm]
   have hg:qe2 (ws.take (qa9 s))=true:=by rw[hm];unfold qe2;rw[hb,decide_eq_true hw.1];rfl
   exact q4r h0 h1 h2 hg (by rw[hm];have:=hw.2;rwa [hw.1] at this)
  ·rw[if_neg hw]
   refine qsn h0 λc=>hw ?_
   rw[hm] at c;unfold qe2 at c;rw[hb,wcv,decide_eq_true_eq] at c;exact⟨c.1,by rw[c.1];exact c.2⟩
 ·have hb':logB (qa2 m)=false:=by simpa using hb
  rw[qr8 hb',if_neg (λc=>h0 c.2.symm)];refine qsn h0 λc=>hb ?_
  rw[hm] at c;unfold qe2 at c;rw[wce] at c;exact c.1.1
theorem qaam{w:World}{A:Option Addr}{n:Nat}{l:List Nat}(h:Rd w A n (u64V l)){k:Nat}(hk:k<=n):Rd w A k (u64V (l.take k)):=by
 have hl:l.length=n:=by rw[<-qai];exact h.1
 refine⟨by rw[qai,war];omega,λh0=>?_⟩;obtain⟨p,e,hp⟩:=h.2 Zo;refine⟨p,e,λj u hu=>hp j u ?_⟩;rw[<-hu];have hj:j<k:=by have:=(wan.1 hu).1;rw[qai,war] at this;omega
 simp[u64V,hj]
theorem q89(A:Option Addr)(c s:Nat)(n:Nat)(m:List Nat)(L:List (Int×Nat))(o:Option (List (Int×Nat)))(w:World)(hr:Rd w A m.length (u64V m))(hmn:m.length<=n)(hcap:n<=c)(hn:n<=9223372036854775807)(hm:m.length<=32)(hs:s<18446744073709551616)(h0:s≠0)(hl:∀b∈m,b<18446744073709551616)(hmany:qa9 s=m.length)(hL:qa2 m=L)(ho:o=if logW L=m/\qiz L=s then some L else none):
  Calls Tryz.prog 278 #[.int .u64 (s:Int),.slice A n c] w λe w'=>ReadE w.heap.size o e w'/\Below w.heap.size w w':=by
 have hma:=qtv s w hs;rw[hmany] at hma;have hma':=waa hma;have hx:∀e∈L,e.2<18446744073709551616:=by
  rw[<-hL];exact qlv hl
 have hLl:m.length/2=L.length:=by rw[<-hL,qlu]
 have hto:=waa (λ(V:World) (hV:Below w.heap.size w V)=>q3m A c m V (hr.below hV) Zo hl);rw[hL,hLl] at hto;have hne0:((s:Int)==0)=false:=beq_eq_false_iff_ne.2 Zo;have hw:=waa (λ(V:World) (B:Option Addr) (d:Nat) (hE:EsRd V B L.length L)=>qm7 B d L V hE Zo hx);have hsl:=waa (λ(V:World) (B:Option Addr) (d:Nat) (hE:EsRd V B L.length L)=>q4a B d L V hE Zo hx);have hlw:(logW L).length<=9223372036854775807:=by
  cases hb:logB L with
  |true=>rw[qmf hb,qgu];omega
  |false=>rw[qww hb];exact wau _
 have heq:=waa (λ(V:World) (B:Option Addr) (d:Nat) (hE:Rd V B (logW L).length (u64V (logW L))) (hV:Below w.heap.size w V)=>qp8 B A d c (logW L) m V hE (hr.below hV) hlw Zo);clear hma hx hL hl hmany h0 hLl;have hz:(0:Int)<=(m.length:Int):=Zo
 have hz1:(m.length:Int)<=(n:Int):=Zo
 have hz2:(m.length:Int)<=(c:Int):=Zo
 generalize logW L=ww at hw heq ho hlw;generalize qiz L=q at hsl ho;cases hE1:decide (ww=m) with
 |false=>
  have hon:=waa (show o=none by rw[ho,if_neg (λh=>by exact absurd h.1 (of_decide_eq_false hE1))]);unfold Same at heq;rw[hE1] at heq;clear ho hE1;go_enter wd9,wea;go_wp2_with fail;refine hma'.out.mono ?_;rintro e w1 ⟨rfl,t,rfl⟩;have hB1:=qad (wac w.heap.size w) t;go_wp2_with fail;refine(hto.out _ hB1).mono ?_;rintro e w2 ⟨v,rfl,hrow,hC⟩;have hB2:=hB1.trans (hC.mono hB1.size);have hrow2:=qax hrow hB1.size;obtain⟨B,d,rfl,hes⟩:=EsRd.of_own hrow2;clear hC hrow hB1;go_wp2_with fail
  first|go_region_with (first
    |(go_at_call 339
      refine(hw.out _ _ _ (hes.below (wac _ _).drew)).mono ?_;rintro e w3 ⟨v3,rfl,hrow3,hC⟩;have hB3:=hB2.drew.trans (hC.mono hB2.size);obtain⟨B3,d3,rfl,hR3⟩:=Rd.of_own hrow3)
    |(go_at_call 128
      refine(heq.out _ _ _ hR3 hB3).mono ?_;rintro e w4 ⟨rfl,t4,rfl⟩))|fail
  all_goals
   go_wp2_with fail;go_ret2;exact⟨ReadE.no hon.out _ _,qad hB3 t4⟩
 |true=>
  have hww:=of_decide_eq_true hE1;unfold Same at heq;rw[hE1] at heq;by_cases hq:q=s
  ·have hon:=waa (show o=some L by rw[ho,if_pos ⟨hww,hq⟩])
   have hqs:((q:Int) !=(s:Int))=false:=by rw[hq];simp
   clear ho hE1 hq hww;go_enter wd9,wea;go_wp2_with fail;refine hma'.out.mono ?_;rintro e w1 ⟨rfl,t,rfl⟩;have hB1:=qad (wac w.heap.size w) t;go_wp2_with fail;refine(hto.out _ hB1).mono ?_;rintro e w2 ⟨v,rfl,hrow,hC⟩;have hB2:=hB1.trans (hC.mono hB1.size);have hrow2:=qax hrow hB1.size;obtain⟨B,d,rfl,hes⟩:=EsRd.of_own hrow2;clear hC hrow hB1;go_wp2_with fail
   first|go_region_with (first
    |(go_at_call 339
      refine(hw.out _ _ _ (hes.below (wac _ _).drew)).mono ?_;rintro e w3 ⟨v3,rfl,hrow3,hC⟩;have hC3:=(wac w2.heap.size w2).drew.trans (hC.mono (wab _));have hB3:=hB2.trans (hC3.mono hB2.size);obtain⟨B3,d3,rfl,hR3⟩:=Rd.of_own hrow3)
    |(go_at_call 128
      refine(heq.out _ _ _ hR3 hB3).mono ?_;rintro e w4 ⟨rfl,t4,rfl⟩)
    |(go_at_call 340
      refine(hsl.out _ _ _ (hes.below (qad hC3 t4))).mono ?_;rintro e w5 ⟨rfl,hD⟩;have hC5:=(qad hC3 t4).trans (hD.mono (qad hC3 t4).size);have hB5:=hB2.trans (hC5.mono hB2.size);have hrow5:=qaf hrow2 hC5))|fail
   all_goals
    go_wp2_with fail;go_ret2;exact⟨ReadE.yes hon.out hrow5,hB5⟩
  ·have hon:=waa (show o=none by rw[ho,if_neg (λh=>hq h.2)])
   have hqs:((q:Int) !=(s:Int))=true:=bne_iff_ne.2 Zo;clear ho hE1 hq hww;go_enter wd9,wea;go_wp2_with fail;refine hma'.out.mono ?_;rintro e w1 ⟨rfl,t,rfl⟩;have hB1:=qad (wac w.heap.size w) t;go_wp2_with fail;refine(hto.out _ hB1).mono ?_;rintro e w2 ⟨v,rfl,hrow,hC⟩;have hB2:=hB1.trans (hC.mono hB1.size);have hrow2:=qax hrow hB1.size;obtain⟨B,d,rfl,hes⟩:=EsRd.of_own hrow2;clear hC hrow hB1;go_wp2_with fail
   first|go_region_with (first
    |(go_at_call 339
      refine(hw.out _ _ _ (hes.below (wac _ _).drew)).mono ?_;rintro e w3 ⟨v3,rfl,hrow3,hC⟩;have hC3:=(wac w2.heap.size w2).drew.trans (hC.mono (wab _));have hB3:=hB2.trans (hC3.mono hB2.size);obtain⟨B3,d3,rfl,hR3⟩:=Rd.of_own hrow3)
    |(go_at_call 128
      refine(heq.out _ _ _ hR3 hB3).mono ?_;rintro e w4 ⟨rfl,t4,rfl⟩)
    |(go_at_call 340
      refine(hsl.out _ _ _ (hes.below (qad hC3 t4))).mono ?_;rintro e w5 ⟨rfl,hD⟩;have hC5:=(qad hC3 t4).trans (hD.mono (qad hC3 t4).size);have hB5:=hB2.trans (hC5.mono hB2.size)))|fail
   all_goals
    go_wp2_with fail;go_ret2;exact⟨ReadE.no hon.out _ _,hB5⟩
theorem qyg(A:Option Addr)(c n:Nat)(ws:List Nat)(w:World):Calls Tryz.prog 278 #[.int .u64 0,.slice A n c] w λe w'=>ReadE w.heap.size (qbh 0 ws) e w'/\w=w':=by
 have hon:=waa (qgf ws);go_enter wd9,wea;go_wp2_with fail;go_ret2;exact⟨ReadE.yes hon.out (wa9 _ _ _ _),rfl⟩
theorem q3g(A:Option Addr)(c s n k:Nat)(o:Option (List (Int×Nat)))(w:World)(hs:s<18446744073709551616)(h0:s≠0)(hk:qa9 s=k)(hkl:k<2147483648)(hn:n<=9223372036854775807)(hfar:n<k\/32<k)(ho:o=none):
  Calls Tryz.prog 278 #[.int .u64 (s:Int),.slice A n c] w λe w'=>ReadE w.heap.size o e w'/\Below w.heap.size w w':=by
 have hon:=waa ho;have hma:=qtv s w hs;rw[hk] at hma;have hma':=waa hma;have hne0:((s:Int)==0)=false:=beq_eq_false_iff_ne.2 Zo;clear hma ho hk h0;by_cases h1:n<k
 ·clear hfar
  go_enter wd9,wea;go_wp2_with fail;refine hma'.out.mono ?_;rintro e w1 ⟨rfl,t,rfl⟩;have hB1:=qad (wac w.heap.size w) t;go_wp2_with fail;go_ret2;exact⟨ReadE.no hon.out _ _,hB1⟩
 ·have h2:32<k:=Zo
  clear hfar;go_enter wd9,wea;go_wp2_with fail;refine hma'.out.mono ?_;rintro e w1 ⟨rfl,t,rfl⟩;have hB1:=qad (wac w.heap.size w) t;go_wp2_with fail;go_ret2;exact⟨ReadE.no hon.out _ _,hB1⟩
theorem qqb(A:Option Addr)(c s:Nat)(ws:List Nat)(w:World)(hr:Rd w A ws.length (u64V ws))(hcap:ws.length<=c)(hm:ws.length<=9223372036854775807)(hs:s<18446744073709551616)(hl:∀b∈ws,b<18446744073709551616):
  Calls Tryz.prog 278 #[.int .u64 (s:Int),.slice A ws.length c] w λe w'=>ReadE w.heap.size (qbh s ws) e w'/\Below w.heap.size w w':=by
 by_cases h0:s=0
 ·subst h0
  exact(qyg A c ws.length ws w).mono λe w' ⟨h1,h2⟩=>⟨h1,h2▸wac _ _⟩
 by_cases hn:ws.length<qa9 s\/32<qa9 s
 ·exact q3g A c s ws.length (qa9 s) _ w hs h0 rfl (wcn _ Zo) hm hn (q6o h0 hn)
 ·have h1:qa9 s<=ws.length:=Zo
  have h2:qa9 s<=32:=Zo
  have hlen:(ws.take (qa9 s)).length=qa9 s:=by rw[war];omega
  exact q89 A c s ws.length (ws.take (qa9 s)) _ _ w (by rw[hlen];exact qaam hr h1) Zo hcap hm Zo hs h0 (λb hb=>hl b (wb0 hb)) hlen.symm rfl (q08 h0 h1 h2)
structure LV where
 a:Int
 r:Int
 s:Int
 n:Int
 sp:Int
 ix:Int
 wd:Int
def LV.ad(o:LV):Nat:=o.a.toNat
def LV.withR(o:LV)(r:Int):LV:={o with r:=r}
def Reached(rt:List Nat)(kd:Nat->List Nat)(x:Nat):Prop:=x≠0/\∀P:Nat->Prop,(∀y∈rt,y≠0->P y)->(∀y z,P y->z∈kd y->z≠0->P z)->P x
section
variable {rt:List Nat} {kd:Nat->List Nat}
theorem Reached.root{x:Nat}(h:x∈rt)(h0:x≠0):Reached rt kd x:=⟨h0,λP h1 _=>h1 x h h0⟩
theorem Reached.slot{x y:Nat}(hy:Reached rt kd y)(h:x∈kd y)(h0:x≠0):Reached rt kd x:=⟨h0,λP h1 h2=>h2 y x (hy.2 P h1 h2) h h0⟩
theorem Reached.ind{x:Nat}(h:Reached rt kd x){P:Nat->Prop}(h1:∀y∈rt,y≠0->P y)(h2:∀y z,P y->z∈kd y->z≠0->P z):P x:=h.2 P h1 h2
end
def ptrs(rt:List Nat)(kd:Nat->List Nat)(A:List Nat):List Nat:=rt++A.flatMap kd
structure IsReach (rt:List Nat) (kd:Nat->List Nat) (ob:Nat->Option LV) (L:List LV):Prop where
 rise:L.Pairwise λx y=>x.a<y.a
 each:∀o∈L,Reached rt kd o.ad/\0<=o.a/\∃q,ob o.ad=some q/\q.a=o.a/\o=q.withR (((ptrs rt kd (L.map LV.ad)).count o.ad:Nat):Int)
 all:∀x,Reached rt kd x->∃o∈L,o.ad=x
def qh5(rt:List Nat)(kd:Nat->List Nat)(ob:Nat->Option LV):Prop:=(∃x,Reached rt kd x/\ob x=none)\/∃L,IsReach rt kd ob L/\∃o∈L,65535<o.r
section
variable {rt:List Nat} {kd:Nat->List Nat} {ob:Nat->Option LV} {L M:List LV}
theorem IsReach.mem_ad(h:IsReach rt kd ob L)(x:Nat):x∈L.map LV.ad↔Reached rt kd x:=by
 constructor
 ·intro hx
  obtain⟨o,ho,rfl⟩:=wav.1 hx;exact(h.each o ho).1
 ·intro hx
  obtain⟨o,ho,e⟩:=h.all x hx;exact wav.2 ⟨o,ho,e⟩
theorem qh2{L:List LV}(h:L.Pairwise λx y=>x.a<y.a)(h0:∀o∈L,0<=o.a):(L.map LV.ad).Pairwise (·< ·):=by
 rw[wfx];refine List.Pairwise.imp_of_mem ?_ h;intro x y hx hy hxy;have h1:=h0 x hx;have h2:=h0 y hy;unfold LV.ad;omega
theorem qet{A:List Nat}(h:A.Pairwise (·< ·)):A.Nodup:=List.Pairwise.imp (λhxy=>Nat.ne_of_lt hxy) h
theorem q7n{A B:List Nat}(h1:A.Pairwise (·< ·))(h2:B.Pairwise (·< ·))(h:∀x,x∈A↔x∈B):A=B:=
 List.Perm.eq_of_pairwise (le:=(·< ·)) (λa b _ _ hab hba=>by omega) h1 h2 ((wg4 (qet h1) (qet h2)).2 h)
theorem IsReach.ads(h:IsReach rt kd ob L)(g:IsReach rt kd ob M):L.map LV.ad=M.map LV.ad:=
 q7n (qh2 h.rise (λo ho=>(h.each o ho).2.1)) (qh2 g.rise (λo ho=>(g.each o ho).2.1)) (λx=>(h.mem_ad x).trans (g.mem_ad x).symm)
theorem IsReach.one(h:IsReach rt kd ob L)(g:IsReach rt kd ob M):L=M:=by
 have hA:=h.ads g;have hl:L.length=M.length:=by have:=congrArg List.length hA;simpa using this
 apply List.ext_getElem hl
 intro j h1 h2;obtain⟨-,p1,q1,e1,b1,c1⟩:=h.each L[j] (wb6 h1);obtain⟨-,p2,q2,e2,b2,c2⟩:=g.each M[j] (wb6 h2);have hj:L[j].ad=M[j].ad:=by
  have:=congrArg (λl=>l[j]?) hA
  simpa[List.getElem?_map,List.getElem?_eq_getElem h1,List.getElem?_eq_getElem h2] using this
 rw[hj,e2] at e1;injection e1 with e1;subst e1;rw[c1,c2,hA,hj]
theorem IsReach.right(h:IsReach rt kd ob L){x:Nat}(hx:Reached rt kd x):∃q,ob x=some q:=by
 obtain⟨o,ho,rfl⟩:=h.all x hx;obtain⟨-,-,q,e,-⟩:=h.each o ho;exact⟨q,e⟩
theorem q3j(h:∀x∈rt,x=0):IsReach rt kd ob []:=
 ⟨.nil,λ_ h=>(by cases h),λx hx=>(Reached.ind hx (P:=λ_=>False) (λy hy h0=>h0 (h y hy)) (λ_ _ hf _ _=>hf)).elim⟩
structure Walk (rt:List Nat) (kd:Nat->List Nat) (ob:Nat->Option LV) (F:List LV) (T:List Nat) (C:List Nat) (i:Nat):Prop where
 todo:T=ptrs rt kd (F.map LV.ad)
 each:∀o∈F,ob o.ad=some o/\0<=o.a/\Reached rt kd o.ad
 once:(F.map LV.ad).Nodup
 upto:i<=T.length
 have_:∀x∈T.take i,x≠0->x∈F.map LV.ad
 cnt:C=F.map λo=>(T.take i).count o.ad
theorem qng:Walk rt kd ob [] rt [] 0:=⟨by simp[ptrs],λ_ h=>(by cases h),.nil,wau _,λx hx=>(by simp at hx),rfl⟩
section
variable {F:List LV} {T C:List Nat} {i:Nat}
theorem Walk.reach(h:Walk rt kd ob F T C i):∀x∈T,x≠0->Reached rt kd x:=by
 intro x hx h0;rw[h.todo] at hx;rcases wa6.1 hx with hx|hx
 ·exact .root hx h0
 ·obtain⟨y,hy,hk⟩:=wdk.1 hx
  obtain⟨o,ho,rfl⟩:=wav.1 hy;exact .slot (h.each o ho).2.2 hk h0
theorem qdj{T:List Nat}{i x:Nat}(hx:T[i]? =some x):T.take (i+1)=T.take i++[x]:=by rw[wb4,hx];rfl
theorem qme{T:List Nat}{i x:Nat}(hx:T[i]? =some x):i<T.length:=(wan.1 hx).1
theorem qgg(T:List Nat)(x y:Nat):(T++[x]).count y=T.count y+if y=x then 1 else 0:=by
 rw[wc4,List.count_singleton];by_cases h:x=y
 ·subst h;simp
 ·have:¬y=x:=λe=>h e.symm
  simp[h,this]
theorem Walk.zero(h:Walk rt kd ob F T C i)(hx:T[i]? =some 0)(hF:∀o∈F,o.ad≠0):Walk rt kd ob F T C (i+1):=by
 have hi:=qme hx;refine⟨h.todo,h.each,h.once,Zo,λx hx' h0=>?_,?_⟩
 ·rw[qdj hx] at hx'
  rcases wa6.1 hx' with hx'|hx'
  ·exact h.have_ x hx' h0
  ·exact absurd (wbx.1 hx') h0
 ·rw[h.cnt]
  refine wdb λo ho=>?_
  rw[qdj hx,qgg,if_neg (hF o ho),wdf]
theorem Walk.old(h:Walk rt kd ob F T C i){x j:Nat}{o:LV}(hx:T[i]? =some x)(hj:F[j]? =some o)(ho:o.ad=x):Walk rt kd ob F T (C.set j ((C[j]?.getD 0)+1)) (i+1):=by
 have hi:=qme hx;obtain⟨hjl,hje⟩:=wan.1 hj;refine⟨h.todo,h.each,h.once,Zo,λy hy h0=>?_,?_⟩
 ·rw[qdj hx] at hy
  rcases wa6.1 hy with hy|hy
  ·exact h.have_ y hy h0
  ·rw[wbx.1 hy,<-ho]
   exact wav.2 ⟨o,waq hj,rfl⟩
 ·apply wa3
  intro k;have hC:=h.cnt;by_cases hk:k=j
  ·subst hk
   have hcl:k<C.length:=by rw[hC,wbr];exact hjl
   rw[wb3 hcl,wa1,hj,wbo,hC,wa1,hj,wbo,wa8,qdj hx,qgg,if_pos ho]
  ·rw[wbe (λe=>hk e.symm),hC,wa1,wa1]
   cases hq:F[k]? with
   |none=>rfl
   |some q=>
    rw[wbo,wbo,qdj hx,qgg,if_neg,wdf];intro e;have h1:(F.map LV.ad)[k]? =some x:=by rw[wa1,hq,wbo,e]
    have h2:(F.map LV.ad)[j]? =some x:=by rw[wa1,hj,wbo,ho]
    have hkl:=(wan.1 h1)
    have hjl2:=(wan.1 h2)
    obtain⟨a1,a2⟩:=hkl;obtain⟨b1,b2⟩:=hjl2;have hp:=web.1 h.once;rcases wg2 hk with hlt|hlt
    ·exact hp k j a1 b1 hlt (a2.trans b2.symm)
    ·exact hp j k b1 a1 hlt (b2.trans a2.symm)
theorem Walk.new(h:Walk rt kd ob F T C i){x:Nat}{q:LV}(hx:T[i]? =some x)(h0:x≠0)(hn:x∉F.map LV.ad)(hq:ob x=some q)(hqa:q.ad=x)(hq0:0<=q.a):Walk rt kd ob (F++[q]) (T++kd x) (C++[1]) (i+1):=by
 have hi:=qme hx;have hr:=h.reach x (waq hx) h0;have htk:(T++kd x).take (i+1)=T.take i++[x]:=by rw[wdp Zo,qdj hx]
 refine⟨?_,?_,?_,by rw[was];omega,λy hy hy0=>?_,?_⟩
 ·rw[h.todo,ptrs,ptrs,wcr,we2,wdq,hqa,List.flatMap_singleton,wbm]
 ·intro o ho
  rcases wa6.1 ho with ho|ho
  ·exact h.each o ho
  ·rw[wbx.1 ho,hqa];exact⟨hq,hq0,hr⟩
 ·rw[wcr,wdq,hqa,List.nodup_append]
  exact⟨h.once,by simp,λa ha b hb e=>hn (by rw[wbx.1 hb] at e;rw[<-e];exact ha)⟩
 ·rw[htk] at hy
  rw[wcr,wa6];rcases wa6.1 hy with hy|hy
  ·exact .inl (h.have_ y hy hy0)
  ·exact .inr (by rw[wbx.1 hy,wdq,hqa];simp)
 ·have h1:(T.take i).count x=0:=List.count_eq_zero.2 (λhm=>hn (h.have_ x hm h0))
  rw[wcr,wdq,htk,hqa,qgg,if_pos rfl,h1,h.cnt];congr 1
  refine wdb λo ho=>?_
  rw[qgg,if_neg,wdf];intro e;exact hn (by rw[<-e];exact wav.2 ⟨o,ho,rfl⟩)
theorem Walk.few(h:Walk rt kd ob F T C i){B:List Nat}(hB:∀x q,ob x=some q->x∈B):F.length<=B.length:=by
 have:=h.once.length_le_of_subset (l₂:=B) (λx hx=>by
  obtain⟨o,ho,rfl⟩:=wav.1 hx;exact hB _ _ (h.each o ho).1)
 simpa using this
theorem Walk.closed(h:Walk rt kd ob F T C T.length)(x:Nat):x∈F.map LV.ad↔Reached rt kd x:=by
 constructor
 ·intro hx
  obtain⟨o,ho,rfl⟩:=wav.1 hx;exact(h.each o ho).2.2
 ·intro hx
  have hall:∀y∈T,y≠0->y∈F.map LV.ad:=λy hy h0=>h.have_ y (by rw[wbz];exact hy) h0
  refine hx.ind (λy hy h0=>hall y (by rw[h.todo];exact wa6.2 (.inl hy)) h0) (λy z hy hz h0=>hall z ?_ h0);rw[h.todo];exact wa6.2 (.inr (wdk.2 ⟨y,hy,hz⟩))
def outF(F:List LV)(T:List Nat)(n:Nat):List LV:=(List.range n).filterMap λa=>(F.find? λo=>decide (o.ad=a)).map λo=>o.withR ((T.count a:Nat):Int)
theorem qk7{F:List LV}{T:List Nat}{n:Nat}{p:LV}(h:p∈outF F T n):∃o∈F,o.ad<n/\p=o.withR ((T.count o.ad:Nat):Int):=by
 obtain⟨a,ha,he⟩:=wfy.1 h;cases hf:F.find? λo=>decide (o.ad=a) with
 |none=>rw[hf] at he;cases he
 |some o=>
  rw[hf,wbo] at he;injection he with he;have h1:=wdr hf;have h2:o.ad=a:=by simpa using h1
  exact⟨o,wec hf,by rw[h2];exact wcc.1 ha,by rw[<-he,h2]⟩
theorem qw8{F:List LV}{T:List Nat}{n:Nat}{o:LV}(ho:o∈F)(hn:o.ad<n):∃p∈outF F T n,p.ad=o.ad:=by
 cases hf:F.find? λq=>decide (q.ad=o.ad) with
 |none=>have:=wed.1 hf o ho;simp at this
 |some q=>
  have h1:q.ad=o.ad:=by simpa using wdr hf
  refine⟨q.withR ((T.count o.ad:Nat):Int),wfy.2 ⟨o.ad,wcc.2 hn,by rw[hf];rfl⟩,h1⟩
theorem q6g(F:List LV)(T:List Nat)(n:Nat)(h0:∀o∈F,0<=o.a):(outF F T n).Pairwise λx y=>x.a<y.a:=by
 unfold outF;refine List.Pairwise.filterMap _ ?_ (List.pairwise_lt_range (n:=n));intro a b hab x hx y hy;have key:∀{c:Nat} {z:LV},(F.find? λo=>decide (o.ad=c)).map (λo=>o.withR ((T.count c:Nat):Int))=some z->0<=z.a/\z.a.toNat=c:=by
  intro c z hz;cases hf:F.find? λo=>decide (o.ad=c) with
  |none=>rw[hf] at hz;cases hz
  |some o=>
   rw[hf,wbo] at hz;injection hz with hz;have h1:o.ad=c:=by simpa using wdr hf
   rw[<-hz];exact⟨h0 o (wec hf),h1⟩
 have h1:=key hx;have h2:=key hy;omega
theorem Walk.done(h:Walk rt kd ob F T C T.length){n:Nat}(hn:∀o∈F,o.ad<n)(hk:∀o∈F,0<=o.a):IsReach rt kd ob (outF F T n):=by
 have hrise:=q6g F T n hk;have hads:((outF F T n).map LV.ad).Perm (F.map LV.ad):=by
  refine(wg4 (qet (qh2 hrise ?_)) h.once).2 λx=>⟨λhx=>?_,λhx=>?_⟩
  ·intro p hp
   obtain⟨o,ho,-,rfl⟩:=qk7 hp;exact hk o ho
  ·obtain⟨p,hp,rfl⟩:=wav.1 hx
   obtain⟨o,ho,-,rfl⟩:=qk7 hp;exact wav.2 ⟨o,ho,rfl⟩
  ·obtain⟨o,ho,rfl⟩:=wav.1 hx
   obtain⟨p,hp,he⟩:=qw8 (T:=T) ho (hn o ho);exact wav.2 ⟨p,hp,he⟩
 refine⟨hrise,λp hp=>?_,λx hx=>?_⟩
 ·obtain⟨o,ho,-,rfl⟩:=qk7 hp
  obtain⟨e1,e2,e3⟩:=h.each o ho;refine⟨e3,e2,o,e1,rfl,?_⟩;have hc:(ptrs rt kd ((outF F T n).map LV.ad)).count o.ad=T.count o.ad:=by
   have e5:T.count o.ad=(ptrs rt kd (F.map LV.ad)).count o.ad:=by rw[<-h.todo]
   rw[e5,ptrs,ptrs,wc4,wc4,(List.Perm.flatMap_right kd hads).count_eq]
  show o.withR _=o.withR _
  rw[show(o.withR ((T.count o.ad:Nat):Int)).ad=o.ad from rfl,hc]
 ·obtain⟨o,ho,rfl⟩:=wav.1 ((h.closed x).2 hx)
  obtain⟨p,hp,he⟩:=qw8 (T:=T) ho (hn o ho);exact⟨p,hp,he⟩
end
end
end Go.Proofs.YtocncmbeinmiaaaGreat
