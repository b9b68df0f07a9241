/- Parts. No condition. -/
import Derived.Test.YtocncmbeinmiaaaGreatJoinU37
import Derived.Test.YtocncmbeinmiaaaGreatJoinU21
set_option linter.unusedVariables false
set_option maxRecDepth 100000
set_option maxHeartbeats 8000000
namespace Go.Proofs.YtocncmbeinmiaaaGreat
open Go Go.RowKit
theorem qx0(s l r:Int)(t:Nat)(A:Option Addr)(cap:Nat)(ws:List Nat)(w:World)(hr:Rd w A ws.length (u64V ws))(hcap:ws.length<=cap)(hf:fitB s l r ws.length=true)(ht:(t:Int)<l)(hlt:∀x∈ws,x<18446744073709551616):
  Calls Tryz.prog 75 #[.agg #[.int .i64 s,.int .i64 l,.int .i64 r],.slice A ws.length cap,.int .i64 (t:Int)] w λe w'=>∃v,e= .returned v/\w'.ownsRow w.heap.size 152 2 v (qak ws t).length (eV (qak ws t))/\Below w.heap.size w w':=by
 have hb:=qaw hf;obtain⟨at_,hat⟩:∃at_:Nat,at_=16+40*t:=⟨_,rfl⟩
 have hal:at_+40<=ws.length:=Zo
 have hlan:=λV=>qo4 s l r (t:Int) V
 rw[show qbl s l r (t:Int)=(at_:Int) from(if_pos ⟨(fitB_iff.1 hf).1,Zo,ht⟩).trans Zo] at hlan;have hlan':=waa hlan;have hx:ws[at_]? =some ws[at_]:=waj Zo;have hxl:=hlt ws[at_] (wb6 _);obtain⟨p,rfl,-⟩:=qa6 hr hx;have hle:qak ws t=(qbh ws[at_] ((ws.drop (at_+8)).take 32)).getD []:=by
  rw[qak,show 24+40*t=at_+8 by omega,<-hat,wax,hx];rfl
 have hsl:((ws.drop (at_+8)).take 32).length=32:=by rw[war,wbu];omega
 have hrd:=λ(V:World) (hV:Below w.heap.size w V)=>q0g (some (p.add (at_+8))) (cap - (at_+8)) ws[at_] ((ws.drop (at_+8)).take 32) V (by rw[hsl];exact q4z (hr.below hV) Zo) (by rw[hsl];omega) (by rw[hsl];omega) hxl (λx hx=>hlt x (wdo (wb0 hx)))
 rw[hsl] at hrd;have hcell:=waa (λ(V:World) (hV:Below w.heap.size w V)=>show V.cell? (p.add at_)=some (.int .u64 (ws[at_]:Int)) from by
  obtain⟨q,e,hq⟩:=qa6 (hr.below hV) hx;injection e with e;subst e;exact hq)
 generalize ws[at_]=x at hrd hcell hle hxl;have hg0:=Gi.new w s l r;have hB0:=qa7 w s l r;have k0:IntKind.i64.wrap ((at_:Int)+8)=(at_:Int)+8:=wao _ Zo;have k1:IntKind.i64.wrap ((at_:Int)+40)=(at_:Int)+40:=wao _ Zo;have z0:(0:Int)<=(at_:Int)+8:=Zo
 have z1:(at_:Int)+8<=(at_:Int)+40:=Zo
 have z2:(at_:Int)+40<=(cap:Int):=Zo
 have t0:((at_:Int)+8).toNat=at_+8:=Zo
 have t1:((at_:Int)+40).toNat=at_+40:=Zo
 have c8:¬cap=at_+8:=Zo
 have e32:at_+40 - (at_+8)=32:=Zo
 have y0:(0:Int)<=(at_:Int):=Zo
 have y1:(at_:Int)<(ws.length:Int):=Zo
 cases hro:qbh x ((ws.drop (at_+8)).take 32) with
 |none=>
  rw[hro] at hrd hle;unfold RReadE at hrd;rw[hle];have hrd':=waa hrd;clear hrd hle hro hx hf ht hlt hb hal hsl hat hlan;go_enter Tryz.func75,Tryz.ntmps75;go_wp2_with fail;generalize (w.alloc (.cells #[.int .i64 s,.int .i64 l,.int .i64 r] 23))=W1 at hg0 hB0 ⊢;obtain⟨c0,c1,c2,f⟩:=hg0.cells;go_wp2_with fail;refine(hlan'.out _).mono ?_;rintro e w1 ⟨rfl,hB⟩;have hB1:=hB0.trans (hB.mono hB0.size);have x0:w1.drew.cell? (p.add at_)=some (.int .u64 (x:Int)):=hcell.out w1 hB1;clear hg0 hB0 hB c0 c1 c2 f;go_wp2_with fail;go_region_held3 (λV=>V.cell? (p.add at_)=some (.int .u64 (x:Int)))
   (first|with_reducible exact x0|with_reducible exact x1)
   (
    (go_at_call 111
     refine(hrd'.out _ hB1.drew).mono ?_;rintro e w2 ⟨rfl,hC⟩;have hB2:=hB1.trans ((wac w1.heap.size w1).drew.trans (hC.mono (wab _))|>.mono hB1.size);have x1:=hcell.out w2 hB2))
  go_wp2_with fail;go_ret;exact⟨_,rfl,wa9 _ _ _ _,hB2⟩
 |some L=>
  rw[hro] at hrd hle;unfold RReadE at hrd;rw[hle];have hrd':=waa hrd;clear hrd hle hro hx hf ht hlt hb hal hsl hat hlan;go_enter Tryz.func75,Tryz.ntmps75;go_wp2_with fail;generalize (w.alloc (.cells #[.int .i64 s,.int .i64 l,.int .i64 r] 23))=W1 at hg0 hB0 ⊢;obtain⟨c0,c1,c2,f⟩:=hg0.cells;go_wp2_with fail;refine(hlan'.out _).mono ?_;rintro e w1 ⟨rfl,hB⟩;have hB1:=hB0.trans (hB.mono hB0.size);have x0:w1.drew.cell? (p.add at_)=some (.int .u64 (x:Int)):=hcell.out w1 hB1;clear hg0 hB0 hB c0 c1 c2 f;go_wp2_with fail;go_region_held3 (λV=>V.cell? (p.add at_)=some (.int .u64 (x:Int)))
   (first|with_reducible exact x0|with_reducible exact x1)
   (
    (go_at_call 111
     refine(hrd'.out _ hB1.drew).mono ?_;rintro e w2 ⟨⟨v,rfl,hown⟩,hC⟩;have hB2:=hB1.trans ((wac w1.heap.size w1).drew.trans (hC.mono (wab _))|>.mono hB1.size);have x1:=hcell.out w2 hB2))
  go_wp2_with fail;go_ret;exact⟨v,rfl,qax hown hB1.size,hB2⟩
end Go.Proofs.YtocncmbeinmiaaaGreat
namespace Go.Proofs.YtocncmbeinmiaaaGreat
open Go Go.RowKit
open Go.Maps (Keyed)
theorem qct{ops:Array Oper}{w:World}{Q:Exit->Act->World->Prop}{rest:List Oper}{op:Oper}{a:Act}{l:List Nat}(hg:op.guard=none)(x:Operand)(ho:op.op= .load 101 x)(b o:Nat)(hx:a.eval x= .pointer (some ⟨b,o,none⟩))(hc:w.rangeAt b o (u64V l))(hl:l.length=8)(h:wpList Tryz.prog ops Q rest (a.put op.dst (qcd l)) w):wpList Tryz.prog ops Q (op::rest) a w:=by
 obtain⟨d,hd1,hd2⟩:=qne;exact wpList_load_mid hg _ x ho b o hx (u64V l) d hc hd1 hd2 (by rw[qai,hl];exact qju) h
section
variable {w:World} {base p n c:Nat} {S K:List Nat} {f:Nat->Option (List Nat)}
end
end Go.Proofs.YtocncmbeinmiaaaGreat
namespace Go.Proofs.YtocncmbeinmiaaaGreat
open Go Go.RowKit
section
variable {rt:List Nat} {kd:Nat->List Nat}
end
section
variable {rt:List Nat} {kd:Nat->List Nat} {ob:Nat->Option LV} {L M:List LV}
theorem IsReach.not_no(h:IsReach rt kd ob L)(hs:∀o∈L,o.r<=65535):¬qh5 rt kd ob:=by
 rintro(⟨x,hx,e⟩|⟨M,hM,o,ho,hr⟩)
 ·obtain⟨q,hq⟩:=h.right hx
  rw[hq] at e;cases e
 ·rw[h.one hM] at hs
  have:=hs o ho
  omega
section
variable {F:List LV} {T C:List Nat} {i:Nat}
theorem q7j(F:List LV)(T:List Nat)(n:Nat):outF F T (n+1)=outF F T n++((F.find? λo=>decide (o.ad=n)).map λo=>o.withR ((T.count n:Nat):Int)).toList:=by
 rw[outF,outF,wcd,List.filterMap_append];congr 1
end
end
theorem qlt(n:Int)(w:World):Calls Tryz.prog 209 #[.int .i64 n] w λe w'=>e= .returned (.int .i64 (clN n))/\Below w.heap.size w w':=by
 by_cases h0:n<1
 ·rw[qra Zo]
  go_enter Tryz.func209,Tryz.ntmps209;go_wp2
  go_ret;exact⟨rfl,wac _ _⟩
 ·by_cases h1:255<n
  ·rw[qra Zo]
   go_enter Tryz.func209,Tryz.ntmps209;go_wp2
   go_ret;exact⟨rfl,wac _ _⟩
  ·have h:1<=n/\n<=255:=Zo
   have hat:=λc=>q4n (n:=n) (c:=c) h
   have hbig:=qv8 h;generalize hc:clN n=a at hat hbig;clear hc h;go_enter Tryz.func209,Tryz.ntmps209;go_wp2
   go_loopw [3] (λk wr=>∃(W:World) (j:Nat),W=wr/\j<=4/\k= .int .i64 (j:Int)/\(j=0\/szN ((j:Int) - 1)<1+n)/\Below w.heap.size w W) (λk _=>4 - (intOf k).toNat)
   case atStart=>exact⟨w,0,rfl,Zo,rfl,.inl rfl,wac _ _⟩
   case round=>
    obtain⟨W,j,rfl,hj,rfl,hl,hB⟩:=hrel;obtain⟨z0,z1⟩:=qmm (j:Int);by_cases hlt:j<4
    ·have j0:(0:Int)<=(j:Int):=Zo
     have j1:(j:Int)<4:=Zo
     by_cases hr:n+1<=szN (j:Int)
     ·have ha:=waa (hat (j:Int) j0 j1 (hl.imp (λh=>by omega) id) Zo)
      clear hat hbig;go_wp2_with (go_at_call 137;refine(qi9 _ _).mono ?_;rintro e w' ⟨rfl,hB2⟩)
      go_ret;exact⟨qbz ha.out.symm,hB.trans (hB2.mono hB.size)⟩
     ·clear hat hbig
      go_wp2_with (go_at_call 137;refine(qi9 _ _).mono ?_;rintro e w' ⟨rfl,hB2⟩)
      go_roundw
      case rel=>exact⟨_,j+1,rfl,Zo,by go_num,.inr (by rw[show(((j+1:Nat):Int) - 1)=(j:Int) by omega];omega),hB.trans (hB2.mono hB.size)⟩
      case measure=>simp[intOf];omega
    ·obtain rfl:j=4:=Zo
     have ha:=waa (hbig (by rcases hl with h|h;exact absurd h Zo;exact h));clear hat hbig;go_wp2
     go_ret;exact⟨qbz ha.out.symm,hB⟩
theorem qf4(n:Int)(w:World):Calls Tryz.prog 157 #[.int .i64 n] w λe w'=>e= .returned (.int .i64 (spN n))/\Below w.heap.size w w':=by
 by_cases h:16<=n/\n<=255
 ·have hs:∀w,Calls Tryz.prog 209 #[.int .i64 n] w λe w'=>e= .returned (.int .i64 4)/\Below w.heap.size w w':=λw=>by
   have:=qlt n w
   rwa [qh1 h] at this
  rw[show spN n=(n+64)/64 from if_pos h];obtain⟨n0,n1⟩:=h;go_enter Tryz.func157,Tryz.ntmps157;go_wp2_with (go_at_call 209;refine(hs _).mono ?_;rintro e w' ⟨rfl,hB⟩)
  go_loop [3] (λk=>∃j:Nat,1<=j/\j<=4/\k= .int .i64 (j:Int)/\64*((j:Int) - 1)<n+1) (λk=>4 - (intOf k).toNat)
  case atStart=>exact⟨1,Zo,Zo,rfl,Zo⟩
  case round=>
   obtain⟨j,j0,j1,rfl,hj⟩:=hrel;by_cases hlt:64*(j:Int)<n+1
   ·have hj2:j<4:=Zo
    go_wp2
    go_round
    case rel=>exact⟨j+1,Zo,Zo,by go_num,Zo⟩
    case measure=>simp[intOf];omega
   ·go_wp2
    go_ret;exact⟨qbz Zo,hB⟩
 ·have hn:clN n≠4:=λx=>h (qo8 x)
  rw[qp1 hn];have hl:=qlt n;generalize hc:clN n=a at hn hl;clear hc h;go_enter Tryz.func157,Tryz.ntmps157;go_wp2_with (go_at_call 209;refine(hl _).mono ?_;rintro e w' ⟨rfl,hB⟩)
  go_ret;exact⟨rfl,hB⟩
theorem qrs(l:List LV)(o:LV):lsV (l++[o])=lsV l++lvV o:=by simp[lsV]
theorem qaaa{L:List LV}{a:Int}{j:Nat}{o:LV}(h:∀y∈L.take j,y.a≠a)(hj:L[j]? =some o)(ho:o.a=a):fndI L a=(j:Int):=by
 obtain⟨h1,h2⟩:=wan.1 hj;have:L.findIdx? (λo=>decide (o.a=a))=some j:=by
  rw[whn];refine⟨h1,by rw[h2];exact decide_eq_true ho,λk hk=>?_⟩;have:=h L[k] (by rw[List.mem_take_iff_getElem];exact⟨k,Zo,rfl⟩)
  simpa using this
 rw[fndI,this]
theorem q5x{L:List LV}{a:Int}(h:∀y∈L,y.a≠a):fndI L a= -1:=by
 have:L.findIdx? (λo=>decide (o.a=a))=none:=by
  rw[whp];intro y hy;simpa using h y hy
 rw[fndI,this]
theorem qab2{L:List LV}{a:Int}{j:Nat}(h:fndI L a=(j:Int)):∃o,L[j]? =some o/\o.a=a:=by
 unfold fndI at h;cases hf:L.findIdx? (λo=>decide (o.a=a)) with
 |none=>rw[hf] at h;simp only at h;omega
 |some k=>
  rw[hf] at h;simp only at h;obtain rfl:k=j:=Zo
  obtain⟨h1,h2,-⟩:=whn.1 hf;exact⟨L[k],waj h1,by simpa using h2⟩
theorem qabk{L:List LV}{a:Int}(h:fndI L a<0):∀y∈L,y.a≠a:=by
 unfold fndI at h;cases hf:L.findIdx? (λo=>decide (o.a=a)) with
 |none=>rw[whp] at hf;intro y hy;simpa using hf y hy
 |some k=>rw[hf] at h;simp only at h;omega
theorem qo2(L:List LV)(a:Int):(∃(j:Nat) (o:LV),fndI L a=(j:Int)/\L[j]? =some o/\o.a=a)\/(fndI L a= -1/\∀y∈L,y.a≠a):=by
 cases hf:L.findIdx? (λo=>decide (o.a=a)) with
 |none=>
  have e:fndI L a= -1:=by rw[fndI,hf]
  exact .inr ⟨e,qabk Zo⟩
 |some k=>
  have e:fndI L a=(k:Int):=by rw[fndI,hf]
  obtain⟨o,h1,h2⟩:=qab2 e;exact .inl ⟨k,o,e,h1,h2⟩
theorem qlk(A:Option Addr)(cap:Nat)(L:List LV)(a:Int)(w:World)(h:LsRd w A L.length L)(hn:L.length<=9223372036854775800):
  Calls Tryz.prog 114 #[.slice A L.length cap,.int .i64 a] w λe w'=>e= .returned (.int .i64 (fndI L a))/\w=w':=by
 have hhit:=waa (λ(j:Nat) (o:LV) h1 h2 h3=>qaaa (L:=L) (a:=a) (j:=j) (o:=o) h1 h2 h3);have hnone:=waa (λh=>q5x (L:=L) (a:=a) h);generalize fndI L a=v at hhit hnone ⊢;go_enter Tryz.func114,Tryz.ntmps114;go_wp2_with fail;go_loopw [5] (λq wr=>∃(j:Nat),w=wr/\q= .int .i64 (j:Int)/\j<=L.length/\Hid (∀y∈L.take j,y.a≠a)) (λq _=>L.length - (intOf q).toNat)
 case atStart=>exact⟨0,rfl,rfl,wau _,waa (λy hy=>by simp at hy)⟩
 case round=>
  obtain⟨j,rfl,rfl,hj,hno⟩:=hrel;by_cases hlt:j<L.length
  ·obtain⟨p,o,rfl,ho,e0,-⟩:=h.at_ hlt
   have g0:(0:Int)<=(j:Int):=Zo
   have g1:(j:Int)<(L.length:Int):=Zo
   by_cases hp:o.a=a
   ·have hpe:(o.a==a)=true:=beq_iff_eq.2 hp
    have hv:=waa (hhit.out j o hno.out ho hp);clear hp ho;go_wp2_with fail;go_ret;exact⟨qbz hv.out.symm,rfl⟩
   ·have hpe:(o.a==a)=false:=beq_eq_false_iff_ne.2 hp
    have hno2:=waa (show ∀y∈L.take (j+1),y.a≠a from λy hy=>by
     rw[wb4,ho] at hy;rcases wa6.1 hy with hy|hy
     ·exact hno.out y hy
     ·simp at hy;rw[hy];exact hp)
    clear hp ho;go_wp2_with fail;go_roundw
    case rel=>exact⟨j+1,by trivial,by go_num,Zo,hno2⟩
    case measure=>simp[intOf];omega
  ·obtain rfl:j=L.length:=Zo
   have hv:=waa (hnone.out (λy hy=>hno.out y (by rw[wbz];exact hy)));go_wp2_with fail;go_ret;exact⟨qbz hv.out.symm,rfl⟩
theorem q57{p:BL->Bool}{L:List BL}{j:Nat}{b:BL}(h:∀y∈L.take j,p y=false)(hb:L[j]? =some b)(hp:p b=false):∀y∈L.take (j+1),p y=false:=by
 rw[qko hb];intro y hy;rcases wa6.1 hy with hy|hy
 ·exact h y hy
 ·rw[wbx.1 hy];exact hp
theorem qxx{p:BL->Bool}{L:List BL}{j:Nat}{b:BL}(h:∀y∈L.take j,p y=false)(hb:L[j]? =some b)(hp:p b=true):L.find? p=some b:=
 qrq (pre:=L.take j) (by rw[<-qko hb];exact List.take_prefix _ _) h hp
theorem q43(r s n:Int)(w:World):Calls Tryz.prog 208 #[.agg #[.int .i64 r,.int .i64 s,.int .i64 n]] w λe w'=>e= .returned (.bool (qbs r s n))/\Below w.heap.size w w':=by
 have hB:=qcf w r s n;have hd':=waa (show qbs r s n=decide (1<=n/\n<=255/\0<=s/\s<=n/\0<=r/\r<=65535) from rfl);generalize qbs r s n=d at hd' ⊢;by_cases h1:1<=n
 ·by_cases h2:n<=255
  ·by_cases h3:0<=s
   ·by_cases h4:s<=n
    ·by_cases h5:0<=r
     ·by_cases h6:r<=65535
      all_goals
       go_enter wel,wem;go_wp2
       go_ret;exact⟨qab (by rw[hd'.out];first|(exact(decide_eq_true Zo).symm)|(exact(decide_eq_false Zo).symm)),hB⟩
     all_goals
      go_enter wel,wem;go_wp2
      go_ret;exact⟨qab (by rw[hd'.out];exact(decide_eq_false Zo).symm),hB⟩
    all_goals
     go_enter wel,wem;go_wp2
     go_ret;exact⟨qab (by rw[hd'.out];exact(decide_eq_false Zo).symm),hB⟩
   all_goals
    go_enter wel,wem;go_wp2
    go_ret;exact⟨qab (by rw[hd'.out];exact(decide_eq_false Zo).symm),hB⟩
  all_goals
   go_enter wel,wem;go_wp2
   go_ret;exact⟨qab (by rw[hd'.out];exact(decide_eq_false Zo).symm),hB⟩
 all_goals
  go_enter wel,wem;go_wp2
  go_ret;exact⟨qab (by rw[hd'.out];exact(decide_eq_false Zo).symm),hB⟩
theorem qmx(r s n:Int)(w:World)(h:qbs r s n=true):Calls Tryz.prog 83 #[.agg #[.int .i64 r,.int .i64 s,.int .i64 n]] w λe w'=>e= .returned (.int .u64 ((bW r s n:Nat):Int))/\Below w.heap.size w w':=by
 have hB:=qcf w r s n;obtain⟨n0,n1,s0,s1,r0,r1⟩:=bmay_iff.1 h;have hW:=keep (qh4 h);generalize ((bW r s n:Nat):Int)=v at hW ⊢;have k0:IntKind.u64.wrap r=r:=by rw[wa5];omega
 have k1:IntKind.u64.wrap s=s:=by rw[wa5];omega
 have k2:IntKind.u64.wrap n=n:=by rw[wa5];omega
 have k3:IntKind.u64.wrap (65536*s)=65536*s:=by rw[wa5];omega
 have k4:IntKind.u64.wrap (16777216*n)=16777216*n:=by rw[wa5];omega
 clear h;go_enter Tryz.func83,Tryz.ntmps83;go_wp2
 go_ret;exact⟨qb9 (by rw[hW.out]),hB⟩
theorem qur(cls:Int)(w:World):Calls Tryz.prog 156 #[.int .u64 0,.int .i64 cls] w λe w'=>e= .returned (.tuple #[.agg #[.int .i64 0,.int .i64 0,.int .i64 0],.bool true])/\Below w.heap.size w w':=by
 have hg:=Ob.new w 0 0 0;have hB:=qcf w 0 0 0;obtain⟨c0,c1,c2,c3⟩:=hg.cells;go_enter Tryz.func156,Tryz.ntmps156;go_wp2_with fail;generalize (w.alloc (.cells #[.int .i64 0,.int .i64 0,.int .i64 0] 162))=W at hB hg c0 c1 c2 c3 ⊢;exact bodyPost_ret (v:= .tuple #[.agg #[.int .i64 0,.int .i64 0,.int .i64 0],.bool true]) (by simp[results,Tryz.results156,go_sem,c0,c1,c2]) rfl ⟨rfl,hB⟩
theorem q4w(x:Nat)(a b c:Int)(cls q v:Int)(m:Bool)(R:Ending->Prop)(w:World)(hx0:x≠0)(hx:x<18446744073709551616)(ha:((x%65536:Nat):Int)=a)(hb:((x/65536%256:Nat):Int)=b)(hc:((x/16777216%256:Nat):Int)=c)(hm:Hid (∀V,Calls Tryz.prog 208 #[.agg #[.int .i64 a,.int .i64 b,.int .i64 c]] V λe w'=>e= .returned (.bool m)/\Below V.heap.size V w'))(hv:Hid (m=true->∀V,Calls Tryz.prog 83 #[.agg #[.int .i64 a,.int .i64 b,.int .i64 c]] V λe w'=>e= .returned (.int .u64 v)/\Below V.heap.size V w'))(hq:Hid (∀V,Calls Tryz.prog 209 #[.int .i64 c] V λe w'=>e= .returned (.int .i64 q)/\Below V.heap.size V w'))(yes:m=true->v=(x:Int)->q=cls->Keep (R (.returned (.tuple #[.agg #[.int .i64 a,.int .i64 b,.int .i64 c],.bool true]))))(no:(m=false\/v≠(x:Int)\/q≠cls)->Keep (R (.returned (.tuple #[.agg #[.int .i64 0,.int .i64 0,.int .i64 0],.bool false])))):
  Calls Tryz.prog 156 #[.int .u64 (x:Int),.int .i64 cls] w λe w'=>R e/\Below w.heap.size w w':=by
 have yes':=keep yes;have no':=keep no;clear yes no;have e0:((x:Int)==0)=false:=beq_eq_false_iff_ne.2 Zo;have ka:IntKind.i64.wrap a=a:=wao _ Zo;have kb:IntKind.i64.wrap b=b:=wao _ Zo;have kc:IntKind.i64.wrap c=c:=wao _ Zo;have fa:(x:Int)%65536=a:=Zo
 have fb:(IntKind.u64.wrap ((x:Int)/65536)).tmod 256=b:=by rw[wa5,wd4 Zo];omega
 have fc:(IntKind.u64.wrap ((x:Int)/16777216)).tmod 256=c:=by rw[wa5,wd4 Zo];omega
 have hg:=Ob.new w 0 0 0;have hB:=qcf w 0 0 0;have hxK:=keep hx0;clear ha hb hc hx0 hx;go_enter Tryz.func156,Tryz.ntmps156;have hg2:Ob ((w.alloc (.cells #[.int .i64 0,.int .i64 0,.int .i64 0] 162)).alloc (.cells #[.int .i64 a,.int .i64 b,.int .i64 c] 162)) w.heap.size 0 0 0:=hg.more _;have hh2:Ob ((w.alloc (.cells #[.int .i64 0,.int .i64 0,.int .i64 0] 162)).alloc (.cells #[.int .i64 a,.int .i64 b,.int .i64 c] 162)) (w.heap.size+1) a b c:=by
  have:=Ob.new (w.alloc (.cells #[.int .i64 0,.int .i64 0,.int .i64 0] 162)) a b c
  simpa using this
 have hB2:=hB.alloc hB.size (.cells #[.int .i64 a,.int .i64 b,.int .i64 c] 162);clear hB hg;go_wp2_with fail;generalize ((w.alloc (.cells #[.int .i64 0,.int .i64 0,.int .i64 0] 162)).alloc (.cells #[.int .i64 a,.int .i64 b,.int .i64 c] 162))=W2 at hg2 hh2 hB2 ⊢;refine(hm.out _).mono ?_;rintro e w3 ⟨rfl,hC⟩;have hg3:=hg2.below hC hg2.lt;have hh3:=hh2.below hC hh2.lt;have hB3:=hB2.trans (hC.mono hB2.size);obtain⟨c0,c1,c2,f⟩:=hg3.cells;obtain⟨y0,y1,y2,y3⟩:=hh3.cells;clear hg2 hh2 hB2 hC hm;cases m with
 |false=>
  have hE:=no'.out (.inl rfl);clear yes' no';go_wp2_with fail;exact bodyPost_ret (v:= .tuple #[.agg #[.int .i64 0,.int .i64 0,.int .i64 0],.bool false]) (by simp[results,Tryz.results156,go_sem,c0,c1,c2]) rfl ⟨hE.out,Ob.below_set hB3 (wab _)⟩
 |true=>
  have yesX:=keep (yes'.out rfl);have noX:=keep (λh=>no'.out (.inr h));have hv':=waa (hv.out rfl);clear yes' no' hv;go_wp2_with fail;refine(hv'.out _).mono ?_;rintro e w4 ⟨rfl,hC⟩;have hg4:=hg3.below hC hg3.lt;have hh4:=hh3.below hC hh3.lt;have hB4:=hB3.trans (hC.mono hB3.size);clear c0 c1 c2 f y0 y1 y2 y3 hg3 hh3 hB3 hC hv';obtain⟨c0,c1,c2,f⟩:=hg4.cells;obtain⟨y0,y1,y2,y3⟩:=hh4.cells;by_cases hvx:v=(x:Int)
  ·have hne:(v !=(x:Int))=false:=by rw[hvx];simp
   by_cases hqc:q=cls
   ·have hE:=yesX.out hvx hqc
    have hne2:(q !=cls)=false:=by rw[hqc];simp
    clear yesX noX hqc hvx;go_wp2_with fail;refine(hq.out _).mono ?_;rintro e w5 ⟨rfl,hC⟩;have hg5:=hg4.below hC hg4.lt;have hh5:=hh4.below hC hh4.lt;have hB5:=hB4.trans (hC.mono hB4.size);clear c0 c1 c2 f y0 y1 y2 y3 hg4 hh4 hB4 hC hq;obtain⟨c0,c1,c2,f⟩:=hg5.cells;obtain⟨y0,y1,y2,y3⟩:=hh5.cells;go_wp2_with fail;exact bodyPost_ret (v:= .tuple #[.agg #[.int .i64 a,.int .i64 b,.int .i64 c],.bool true]) (by simp[results,Tryz.results156,go_sem,c0,c1,c2]) rfl ⟨hE.out,Ob.below_set hB5 (wab _)⟩
   ·have hE:=noX.out (.inr hqc)
    have hne2:(q !=cls)=true:=bne_iff_ne.2 hqc;clear yesX noX hqc hvx;go_wp2_with fail;refine(hq.out _).mono ?_;rintro e w5 ⟨rfl,hC⟩;have hg5:=hg4.below hC hg4.lt;have hh5:=hh4.below hC hh4.lt;have hB5:=hB4.trans (hC.mono hB4.size);clear c0 c1 c2 f y0 y1 y2 y3 hg4 hh4 hB4 hC hq;obtain⟨c0,c1,c2,f⟩:=hg5.cells;obtain⟨y0,y1,y2,y3⟩:=hh5.cells;go_wp2_with fail;exact bodyPost_ret (v:= .tuple #[.agg #[.int .i64 0,.int .i64 0,.int .i64 0],.bool false]) (by simp[results,Tryz.results156,go_sem,c0,c1,c2]) rfl ⟨hE.out,Ob.below_set hB5 (wab _)⟩
  ·have hE:=noX.out (.inl hvx)
   have hne:(v !=(x:Int))=true:=bne_iff_ne.2 hvx;clear yesX noX hvx;go_wp2_with fail;exact bodyPost_ret (v:= .tuple #[.agg #[.int .i64 0,.int .i64 0,.int .i64 0],.bool false]) (by simp[results,Tryz.results156,go_sem,c0,c1,c2]) rfl ⟨hE.out,Ob.below_set hB4 (wab _)⟩
theorem q0k(x:Nat)(cls:Int)(w:World)(hx:x<18446744073709551616):Calls Tryz.prog 156 #[.int .u64 (x:Int),.int .i64 cls] w λe w'=>RBlockE x cls e/\Below w.heap.size w w':=by
 by_cases hx0:x=0
 ·subst hx0
  exact(qur cls w).mono λe w' ⟨h1,h2⟩=>⟨.inl ⟨0,0,0,BHit.zero cls,h1⟩,h2⟩
 ·refine q4w x _ _ _ cls _ ((bW ((x%65536:Nat):Int) ((x/65536%256:Nat):Int) ((x/16777216%256:Nat):Int):Nat):Int) _ (RBlockE x cls) w hx0 hx rfl rfl rfl (waa λV=>q43 _ _ _ V) (waa λh V=>qmx _ _ _ V h) (waa λV=>qlt _ V) ?_ ?_
  ·intro h1 h2 h3
   exact keep (.inl ⟨_,_,_,.inr ⟨h1,Zo,h3⟩,rfl⟩)
  ·intro h
   refine keep (.inr ⟨BHit.no ?_,rfl⟩);rintro(⟨h1,_⟩|⟨h1,h2,h3⟩)
   ·exact hx0 h1
   ·rcases h with h|h|h
    ·rw[h] at h1;cases h1
    ·exact h (by rw[h2])
    ·exact h h3
section
variable {P:Program} {md:Region.Mode} {ops:Array Oper} {Q:Exit->Act->World->Prop} {S:World->Prop} {oi:Oper} {fuel:Nat} {listed:Array Bool} {a:Act} {w:World}
theorem qae(i:Nat){v:Value}(hi:ops[i]? =some oi)(hk:qmj md ops listed i=true)(hQ:∀c a w,Q (.panic c) (a.put oi.dst v) w->Q (.panic c) a w)(hw:Region.wanted oi (yielded ops a.tmps)=true)(hS:S w)(hy:∀w,S w->(execOp a.eval oi).run P w= .ok (.value v) w)(h:wpAnyH P md ops Q S fuel (listed.setIfInBounds i true) (a.put oi.dst v) w):wpAnyH P md ops Q S (fuel+1) listed a w:=by
 simp only[qmj,wce] at hk;exact wpAnyH_take hi hk.1 hk.2.1 hk.2.2 hQ (.inl ⟨hw,hy⟩) hS h
theorem qar(i:Nat)(hi:ops[i]? =some oi)(hk:qmj md ops listed i=true)(hQ:∀c a w,Q (.panic c) (a.put oi.dst undef) w->Q (.panic c) a w)(hw:Region.wanted oi (yielded ops a.tmps)=false)(hS:S w)(h:wpAnyH P md ops Q S fuel (listed.setIfInBounds i true) (a.put oi.dst undef) w):wpAnyH P md ops Q S (fuel+1) listed a w:=by
 simp only[qmj,wce] at hk;exact wpAnyH_take hi hk.1 hk.2.1 hk.2.2 hQ (.inr ⟨hw,rfl⟩) hS h
end
end Go.Proofs.YtocncmbeinmiaaaGreat
