/- Parts. No condition. -/
import Derived.Shelf.Abstract
import Derived.Maps.AppendAt
import Derived.Test.YtgjhkafggagniaaGreatJoinV07
set_option linter.unusedVariables false
set_option maxRecDepth 100000
set_option maxHeartbeats 8000000
namespace Go.Proofs.YtgjhkafggagniaaGreat
open Go Go.RowKit
theorem qeb(a n:Int)(w:World)(a0:-9223372036854775808<=a)(a1:a<=9223372036854775807)(n0:-9223372036854775808<=n)(n1:n<=9223372036854775807):
  Calls Tryz.prog 229 #[.int .i64 a,.int .i64 n] w λe w'=>e= .returned (.bool (qbj a n))/\w=w':=by
 by_cases h1:1<=n
 ·by_cases h2:0<=a
  ·by_cases h3:a<=64 - n
   ·have hb:=waa (fieldB_iff.2 ⟨h1,h2,Zo⟩)
    go_enter wdp,wdq;go_wp2
    go_ret;exact⟨qae (by rw[hb.out]),rfl⟩
   ·have hb:=waa (fieldB_no.2 (by omega:¬(1<=n/\0<=a/\a+n<=64)))
    go_enter wdp,wdq;go_wp2
    go_ret;exact⟨qae (by rw[hb.out]),rfl⟩
  ·have hb:=waa (fieldB_no.2 (by omega:¬(1<=n/\0<=a/\a+n<=64)))
   go_enter wdp,wdq;go_wp2
   go_ret;exact⟨qae (by rw[hb.out]),rfl⟩
 ·have hb:=waa (fieldB_no.2 (by omega:¬(1<=n/\0<=a/\a+n<=64)))
  go_enter wdp,wdq;go_wp2
  go_ret;exact⟨qae (by rw[hb.out]),rfl⟩
theorem qub{n:Nat}(h:n<=64):IntKind.u64.wrap (IntKind.u64.wrap ((2:Int) ^ n) - 1)=(qbr n:Int):=by
 have hp:0<2 ^ n:=wdb _;have e:((2:Int) ^ n)=((2 ^ n:Nat):Int):=by simp
 have hl:=wbw (n:=2) Zo h;unfold qbr;rw[e,wa4,wa4];generalize 2 ^ n=y at hl hp ⊢;omega
theorem qd0(n:Int)(w:World)(n0:0<=n)(n1:n<=64):
  Calls Tryz.prog 230 #[.int .i64 n] w λe w'=>e= .returned (.int .u64 (qbr n.toNat:Nat))/\w=w':=by
 go_enter Tryz.func230,Tryz.ntmps230;go_wp2
 all_goals first|omega|(go_ret;exact⟨qcv (qub Zo),rfl⟩)
theorem qs2(x i k:Nat)(hx:x<18446744073709551616)(hk:k<=64):bits .and .u64 ((x:Int)/2 ^ i) (qbr k:Int)=(getN x i k:Int):=by
 have e:((x:Int)/2 ^ i)=((x/2 ^ i:Nat):Int):=by simp
 rw[e,u64_and_nat _ _ (wb6 (Nat.div_le_self _ _) hx) (qmf hk)];unfold qbr getN;rw[Nat.and_two_pow_sub_one_eq_mod]
theorem qj5(m i k:Nat)(h:m*2 ^ i<18446744073709551616):IntKind.u64.wrap ((m:Int)*2 ^ i)=((m*2 ^ i:Nat):Int):=by
 have e:((m:Int)*2 ^ i)=((m*2 ^ i:Nat):Int):=by simp
 rw[e,wa4];generalize m*2 ^ i=y at h ⊢;omega
theorem qu6(x i k v:Nat)(hx:x<18446744073709551616)(hv:v<18446744073709551616)(h:i+k<=64):
  bits .or .u64 (bits .andNot .u64 (x:Int) (IntKind.u64.wrap ((qbr k:Int)*2 ^ i))) (IntKind.u64.wrap (bits .and .u64 (v:Int) (qbr k:Int)*2 ^ i))=(putN x i k v:Int):=by
 have h1:=qeh h;have h2:=qgf v h;rw[qj5 _ _ k h1,u64_and_nat v _ hv (qmf Zo),qj5 _ _ k h2,u64_andNot_nat x _ hx h1,u64_or_nat _ _ (wb6 weq hx) h2];rfl
theorem qza(x i k:Nat)(w:World)(hx:x<18446744073709551616)(h1:1<=k)(h2:i+k<=64):
  Calls Tryz.prog 178 #[.int .u64 (x:Int),.int .i64 (i:Int),.int .i64 (k:Int)] w λe w'=>e= .returned (.int .u64 (getN x i k:Nat))/\∃t,w.drewN t=w':=by
 have hb:=qbk h1 h2;have hi:(i:Int)<64:=Zo
 go_enter Tryz.func178,Tryz.ntmps178;go_wp2_with (go_at_call 229;refine(qeb _ _ _ Zo Zo Zo Zo).mono ?_;rintro e w' ⟨rfl,rfl⟩)
 go_quiet ((go_at_call 230;exact qcn (qd0 _ _ Zo Zo)))
 go_wp2
 go_ret;exact⟨qcv (qs2 x i k hx Zo),nq,rfl⟩
theorem qpo(x i k v:Nat)(w:World)(hx:x<18446744073709551616)(hv:v<18446744073709551616)(h1:1<=k)(h2:i+k<=64):
  Calls Tryz.prog 179 #[.int .u64 (x:Int),.int .i64 (i:Int),.int .i64 (k:Int),.int .u64 (v:Int)] w λe w'=>e= .returned (.int .u64 (putN x i k v:Nat))/\∃t,w.drewN t=w':=by
 have hb:=qbk h1 h2;have hi:(i:Int)<64:=Zo
 go_enter Tryz.func179,Tryz.ntmps179;go_wp2_with (go_at_call 229;refine(qeb _ _ _ Zo Zo Zo Zo).mono ?_;rintro e w' ⟨rfl,rfl⟩)
 go_quiet ((go_at_call 230;exact qcn (qd0 _ _ Zo Zo)))
 go_wp2
 go_ret;exact⟨qcv (qu6 x i k v hx hv h2),nq,rfl⟩
theorem qjg(w:World):
  Calls Tryz.prog 177 #[] w λe w'=>e= .returned (.func (.func 228) #[] #[.pointer (some ⟨w.heap.size,0,none⟩)])/\w.alloc (.cells #[.int .i64 0] 3)=w':=by
 have hmf:∀(fn:Fn) (first cap:Array Value) (w:World),(Instr.makeFunc fn first cap).run Tryz.prog w= .ok (.func fn first cap) w:=λ_ _ _ _=>rfl
 go_enter Tryz.func177,Tryz.ntmps177;go_wp2
 go_ret;exact⟨rfl,rfl⟩
theorem qgj(g i k:Nat)(w:World)(hc:Boxed w g 3 (.int .i64 (i:Int)))(h1:1<=k)(h2:i+k<=64):
  Calls Tryz.prog 228 #[.int .i64 (k:Int),.pointer (some ⟨g,0,none⟩)] w λe w'=>e= .returned (.tuple #[.int .i64 (i:Int),.bool true])/\w.setCell ⟨g,0,none⟩ (.int .i64 ((i:Int)+(k:Int)))=w':=by
 have hb:=qbk h1 h2;have c0:=hc.cell;have f0:=hc.frozen;go_enter Tryz.func228,Tryz.ntmps228;go_wp2_with (go_at_call 229;refine(qeb _ _ _ Zo Zo Zo Zo).mono ?_;rintro e w' ⟨rfl,rfl⟩)
 go_ret2;exact⟨rfl,rfl⟩
theorem ql0(g i:Nat)(n:Int)(w:World)(hc:Boxed w g 3 (.int .i64 (i:Int)))(hi:i<=64)(n0:-9223372036854775808<=n)(n1:n<=9223372036854775807)(hb:qbj (i:Int) n=false):
  Calls Tryz.prog 228 #[.int .i64 n,.pointer (some ⟨g,0,none⟩)] w λe w'=>e= .returned (.tuple #[.int .i64 0,.bool false])/\w=w':=by
 have c0:=hc.cell;have f0:=hc.frozen;go_enter Tryz.func228,Tryz.ntmps228;go_wp2_with (go_at_call 229;refine(qeb _ _ _ Zo Zo Zo Zo).mono ?_;rintro e w' ⟨rfl,rfl⟩)
 go_ret2;exact⟨rfl,rfl⟩
def qqz(o:Option Nat):Ending:=match o with
 |some x=> .returned (.tuple #[.int .u64 (x:Int),.bool true])
 |none=> .returned (.tuple #[.int .u64 0,.bool false])
theorem qrx{o:Option Nat}{x:Nat}(h:o=some x): .returned (.tuple #[.int .u64 (x:Int),.bool true])=qqz o:=by rw[h];rfl
theorem qf7{o:Option Nat}(h:o=none): .returned (.tuple #[.int .u64 0,.bool false])=qqz o:=by rw[h];rfl
theorem qh7(A0 A1:Option Addr)(c0 c1:Nat)(ws:List Int)(vs:List Nat)(w:World)(hr0:Rd w A0 ws.length (i64V ws))(hr1:Rd w A1 vs.length (u64V vs))(hm:ws.length<=9223372036854775807)(hm1:vs.length<=9223372036854775807)(hw:∀x∈ws,-9223372036854775808<=x/\x<=9223372036854775807)(hv:∀x∈vs,x<18446744073709551616):
  Calls Tryz.prog 180 #[.slice A0 ws.length c0,.slice A1 vs.length c1] w λe w'=>e=qqz (qb8 0 0 ws vs)/\Below w.heap.size w w':=by
 by_cases hlen:ws.length=vs.length
 ·have hl':((ws.length:Int) !=(vs.length:Int))=false:=by rw[hlen];simp
  have hlen':=waa hlen;rw[<-hlen] at hr1;clear hlen;go_enter Tryz.func180,Tryz.ntmps180;go_wp2_with (go_at_call 177;refine(qjg _).mono ?_;rintro e w' ⟨rfl,rfl⟩)
  have hB0:Below w.heap.size w (w.alloc (.cells #[.int .i64 0] 3)):=(wai _ w).alloc (wah _) _;have hx0:=Boxed.new w 3 (.int .i64 0);go_loopw [6,20] (λx k wr=>∃j a y:Nat,j<=ws.length/\a<=64/\y<18446744073709551616/\k= .int .i64 (j:Int)/\x= .int .u64 (y:Int)/\Hid (qb8 a y (ws.drop j) (vs.drop j)=qb8 0 0 ws vs)/\Boxed wr w.heap.size 3 (.int .i64 (a:Int))/\Below w.heap.size w wr) (λ_ k _=>ws.length - (intOf k).toNat)
  case atStart=>exact⟨0,0,0,wat _,Zo,Zo,rfl,rfl,waa rfl,hx0,hB0⟩
  case round=>
   obtain⟨j,a,y,hj,ha,hy,rfl,rfl,he,hbx,hB⟩:=hrel;by_cases hlt:j<ws.length
   ·obtain⟨p,x,rfl,hd,hx,hcw⟩:=hr0.i64_at hlt
    obtain⟨q,v,rfl,hd1,hx1,hcv⟩:=hr1.u64_at hlt;have hc:=(hB.cell (p:=p.add j) (wal w _ hcw)).trans hcw;obtain⟨x0,x1⟩:=hw x hx;have hv64:=hv v hx1;rw[hd,hd1] at he;have hd':=waa hd;have hd1':=waa hd1;clear hd hd1;have hz:(0:Int)<=(j:Int):=Zo
    have hz2:(j:Int)<(ws.length:Int):=Zo
    have hz3:(j:Int)<(vs.length:Int):=by have:=hlen'.out;omega
    cases hb:qbj (a:Int) x with
    |true=>
     obtain⟨a',k,e,rfl,h1,h2⟩:=qiq hb;obtain rfl:a=a':=Zo
     have hb':=waa hb;clear hb;have hB2:Below w.heap.size w (wr.setCell ⟨w.heap.size,0,none⟩ (.int .i64 ((a:Int)+(k:Int)))):=hB.setCell (p:=⟨w.heap.size,0,none⟩) (wah _) _;have hbx2:=hbx.set (.int .i64 ((a:Int)+(k:Int)));have hc1:=(hB2.cell (p:=q.add j) (wal w _ hcv)).trans hcv;by_cases hg:v<2 ^ k
     ·have hs:=waa ((qbl hb'.out hg).symm.trans he.out)
      have hg1:(v:Int)<=((qbr k:Nat):Int):=by have:=lt_pow_mask.1 hg;omega
      have hp:=qpl y a k v hy h2;have hg':=waa hg;clear hg he;go_wp2_with (first|(go_at_call 228;refine(qgj w.heap.size a k _ hbx h1 h2).mono ?_;rintro e w' ⟨rfl,rfl⟩))
      go_quiet ((go_at_call 230;exact qcn (qd0 _ _ Zo Zo)))
      go_wp2_with (go_at_call 179;refine(qpo y a k v _ hy hv64 h1 h2).mono ?_;rintro e w' ⟨rfl,t,rfl⟩)
      go_roundw
      case rel=>exact⟨j+1,a+k,_,Zo,h2,hp,by go_num,rfl,hs,by rw[Int.natCast_add];exact hbx2,qaz hB2 _⟩
      case measure=>simp[intOf];omega
     ·have hs:=waa (he.out.symm.trans (qh1 (by simp[hg])))
      have hg1:((qbr k:Nat):Int)<(v:Int):=by have:=mt lt_pow_mask.2 hg;omega
      have hg':=waa hg;clear hg he;go_wp2_with (first|(go_at_call 228;refine(qgj w.heap.size a k _ hbx h1 h2).mono ?_;rintro e w' ⟨rfl,rfl⟩))
      go_quiet ((go_at_call 230;exact qcn (qd0 _ _ Zo Zo)))
      go_wp2
      go_ret2;exact⟨qf7 hs.out,qaz hB2 _⟩
    |false=>
     have hs:=waa (he.out.symm.trans (qh1 (by simp[hb])));clear he;go_wp2_with (go_at_call 228;refine(ql0 w.heap.size a x _ hbx ha x0 x1 hb).mono ?_;rintro e w' ⟨rfl,rfl⟩)
     go_quiet (fail)
     go_wp2
     go_ret2;exact⟨qf7 hs.out,qaz hB _⟩
   ·have e1:ws.drop j=[]:=wa6 Zo
    have e2:vs.drop j=[]:=wa6 (by have:=hlen'.out;omega);rw[e1,e2] at he;have hs:Hid (qb8 0 0 ws vs=some y):=waa he.out.symm;clear he e1 e2;go_wp2_with fail;go_ret2;exact⟨qrx hs.out,hB⟩
 ·have hn:=waa (qs6 (a:=0) (x:=0) hlen)
  have hl':((ws.length:Int) !=(vs.length:Int))=true:=by rw[bne_iff_ne];omega
  have hlen':=waa hlen;clear hlen;go_enter Tryz.func180,Tryz.ntmps180;go_wp2_with fail;go_ret2;exact⟨qf7 hn.out,wai _ _⟩
def SplitR(o:Option (List Nat))(e:Ending)(w':World):Prop:=match o with
 |none=>e= .returned (.tuple #[.slice none 0 0,.bool false])
 |some L=>∃A cap,e= .returned (.tuple #[.slice A L.length cap,.bool true])/\Rd w' A L.length (u64V L)
theorem SplitR.isn{o:Option (List Nat)}{e:Ending}{w':World}(h:o=none)(he:SplitR o e w'):e= .returned (.tuple #[.slice none 0 0,.bool false]):=by rw[h] at he;exact he
theorem SplitR.is{o:Option (List Nat)}{L:List Nat}{e:Ending}{w':World}(h:o=some L)(he:SplitR o e w'):∃A cap,e= .returned (.tuple #[.slice A L.length cap,.bool true])/\Rd w' A L.length (u64V L):=by rw[h] at he;exact he
set_option maxRecDepth 100000 in
def SplitN(B:Nat)(o:Option (List Nat))(e:Ending)(w':World):Prop:=match o with
 |none=>e= .returned (.tuple #[.slice none 0 0,.bool false])
 |some L=>∃A cap,e= .returned (.tuple #[.slice A L.length cap,.bool true])/\Rd w' A L.length (u64V L)/\∀p,A=some p->B<=p.block
theorem SplitN.toR{B:Nat}{o:Option (List Nat)}{e:Ending}{w':World}(h:SplitN B o e w'):SplitR o e w':=by
 cases o with
 |none=>exact h
 |some L=>obtain⟨A,cap,h1,h2,_⟩:=h;exact⟨A,cap,h1,h2⟩
theorem SplitN.no{o:Option (List Nat)}(h:o=none)(B:Nat)(w':World):SplitN B o (.returned (.tuple #[.slice none 0 0,.bool false])) w':=by rw[h];exact rfl
theorem SplitN.yes{o:Option (List Nat)}{L:List Nat}{w':World}{B base:Nat}{e:TypeId}{v:Value}(h:o=some L)(hr:w'.ownsRow base e 1 v L.length (u64V L))(hB:B<=base):SplitN B o (.returned (.tuple #[v,.bool true])) w':=by
 rw[h];obtain⟨A,cap,rfl,hR⟩:=Rd.of_own hr;refine⟨A,cap,rfl,hR,λp hp=>?_⟩;subst hp;exact wam hB (qbv hr _ rfl)
theorem qn9(A0:Option Addr)(c0:Nat)(ws:List Int)(x:Nat)(w:World)(hr0:Rd w A0 ws.length (i64V ws))(hm:ws.length<=9223372036854775807)(hw:∀x∈ws,-9223372036854775808<=x/\x<=9223372036854775807)(hx:x<18446744073709551616):
  Calls Tryz.prog 136 #[.slice A0 ws.length c0,.int .u64 (x:Int)] w λe w'=>SplitN w.heap.size (qdd x ws) e w'/\Below w.heap.size w w':=by
 obtain⟨i0,ii,iz0,iz1,iz2⟩:=info_parts qe1;go_enter Tryz.func136,Tryz.ntmps136;go_wp2_with (go_at_call 177;refine(qjg _).mono ?_;rintro e w' ⟨rfl,rfl⟩)
 have hB0:Below w.heap.size w (w.alloc (.cells #[.int .i64 0] 3)):=(wai _ w).alloc (wah _) _;have hx0:=Boxed.new w 3 (.int .i64 0);go_loopw [6,7,17] (λv r k wr=>∃(j a y:Nat) (L:List Nat),j<=ws.length/\a<=64/\L.length<=a/\k= .int .i64 (j:Int)/\r= .int .u64 (y:Int)/\y<18446744073709551616/\Hid (y=qd1 x a)/\Hid (endL a (ws.drop j)=endL 0 ws)/\Hid (L++qde x a (ws.drop j)=qde x 0 ws)/\wr.ownsRow (w.heap.size+1) 40 1 v L.length (u64V L)/\Boxed wr w.heap.size 3 (.int .i64 (a:Int))/\Below w.heap.size w wr) (λ_ _ k _=>ws.length - (intOf k).toNat)
 case atStart=>exact⟨0,0,x,[],wat _,Zo,by simp,rfl,rfl,hx,waa (qro x).symm,waa rfl,waa rfl,wbx _ _ _ _,hx0,hB0⟩
 case round=>
  rename_i wr
  obtain⟨j,a,y,L,hj,ha,hL,rfl,rfl,hy,hyr,he,hsp,hrow,hbx,hB⟩:=hrel;by_cases hlt:j<ws.length
  ·obtain⟨p,n,rfl,hd,hx1,hcw⟩:=hr0.i64_at hlt
   have hc:=(hB.cell (p:=p.add j) (wal w _ hcw)).trans hcw;obtain⟨x0,x1⟩:=hw n hx1;rw[hd] at he hsp;have hd':=waa hd;clear hd;have hz:(0:Int)<=(j:Int):=Zo
   have hz2:(j:Int)<(ws.length:Int):=Zo
   cases hb:qbj (a:Int) n with
   |true=>
    obtain⟨a',k,e,rfl,h1,h2⟩:=qiq hb;obtain rfl:a=a':=Zo
    have he2:=waa ((qxb hb).symm.trans he.out);have hsp2:Hid ((L++[getN x a k])++qde x (a+k) (ws.drop (j+1))=qde x 0 ws):=waa (by rw[<-hsp.out,wbi];rfl);have hyr2:Hid (putN y a k 0=qd1 x (a+k)):=waa (by rw[hyr.out];exact qth x hx h2);clear he hsp hyr;have hb':=waa hb;clear hb;have hp:=qpl y a k 0 hy h2;have hB2:Below w.heap.size w (wr.setCell ⟨w.heap.size,0,none⟩ (.int .i64 ((a:Int)+(k:Int)))):=hB.setCell (p:=⟨w.heap.size,0,none⟩) (wah _) _;have hbx2:=hbx.set (.int .i64 ((a:Int)+(k:Int)));have hrow2:=ownsRow_setCell_below hrow (a:=⟨w.heap.size,0,none⟩) Zs (.int .i64 ((a:Int)+(k:Int)));have hsz:w.heap.size+1<=wr.heap.size:=hbx.lt;go_wp2_with (first|(go_at_call 228;refine(qgj w.heap.size a k _ hbx h1 h2).mono ?_;rintro e w' ⟨rfl,rfl⟩)|(go_at_call 178;refine(qza x a k _ hx h1 h2).mono ?_;rintro e w' ⟨rfl,t1,rfl⟩)|(at_builtin;go_loud (refine wpList_append_own _ rfl _ _ 22 rfl (w.heap.size+1) 40 i0 (.int .u64 0) 1 8 wbq ii iz0 iz1 iz2 rfl Zd _ _ _ rfl ((qc1 hrow2 t1).alloc _) ⟨wr.heap.size,0,none⟩ 1 1 [.int .u64 ((getN x a k:Nat):Int)] rfl rfl (qjv Zs _ _) (by simp[Value.oneCell']) (by simp only[maxLen];omega) Zo Zx ?_);intro v' w1 hown' hgrow _)|(go_at_call 179;refine(qpo y a k 0 _ hy Zo h1 h2).mono ?_;rintro e w' ⟨rfl,t2,rfl⟩))
    go_roundw
    case rel=>
     have hB3:=(((qaz hB2 t1).alloc (o:= .cells #[.int .u64 ((getN x a k:Nat):Int)] 40) Zx).grown hgrow Zx (λg hg=>Nat.le_of_succ_le (qbv hrow g hg)))
     have hbx3:=((qfi hbx2 t1).alloc (.cells #[.int .u64 ((getN x a k:Nat):Int)] 40)).kept hgrow (((qfi hbx2 t1).alloc _).not_row Zd ((qc1 hrow2 t1).alloc (.cells #[.int .u64 ((getN x a k:Nat):Int)] 40)));exact⟨j+1,a+k,_,L++[getN x a k],Zo,h2,by simp;omega,by go_num,rfl,hp,hyr2,he2,hsp2,by rw[qkd];simpa using qc1 hown' t2,by rw[Int.natCast_add];exact qfi hbx3 t2,qaz hB3 t2⟩
    case measure=>simp[intOf];omega
   |false=>
    have hs:=waa (qt6 (x:=x) (he.out.symm.trans (q0b hb)));clear he hsp hyr;go_wp2_with (go_at_call 228;refine(ql0 w.heap.size a n _ hbx ha x0 x1 hb).mono ?_;rintro e w' ⟨rfl,rfl⟩)
    go_ret2;exact⟨SplitN.no hs.out _ _,hB⟩
  ·have e1:ws.drop j=[]:=wa6 Zo
   rw[e1] at he hsp;have he2:endL 0 ws=some a:=he.out.symm;have hsp2:L=qde x 0 ws:=by have:=hsp.out;simpa[qde] using this
   by_cases hr:y=0
   ·have hs:=waa (qjb he2 ((qio x a).1 (hyr.out.symm.trans hr)))
    rw[<-hsp2] at hs;clear he hsp hyr e1 he2 hsp2;subst hr;go_wp2_with fail;go_ret2;exact⟨SplitN.yes hs.out hrow Zo,hB⟩
   ·have hs:=waa (qhr he2 (λh=>hr (hyr.out.trans ((qio x a).2 h))))
    have hne:((y:Int) !=0)=true:=by rw[bne_iff_ne];omega
    clear he hsp hyr e1 he2 hsp2;go_wp2_with fail;go_ret2;exact⟨SplitN.no hs.out _ _,hB⟩
theorem qkt(A0:Option Addr)(c0:Nat)(ws:List Int)(x:Nat)(w:World)(hr0:Rd w A0 ws.length (i64V ws))(hm:ws.length<=9223372036854775807)(hw:∀x∈ws,-9223372036854775808<=x/\x<=9223372036854775807)(hx:x<18446744073709551616):
  Calls Tryz.prog 136 #[.slice A0 ws.length c0,.int .u64 (x:Int)] w λe w'=>SplitR (qdd x ws) e w'/\Below w.heap.size w w':=
 (qn9 A0 c0 ws x w hr0 hm hw hx).mono λe w' ⟨h1,h2⟩=>⟨h1.toR,h2⟩
theorem qjm{a b:Int}(h:a=b):Value.int .u32 a= .int .u32 b:=by rw[h]
theorem qo0{x:Nat}(hx:x<4294967296):bits .and .u32 (x:Int) 1=((x%2:Nat):Int):=by
 have:=u32_and_nat x 1 hx Zo
 rw[Nat.and_one_is_mod] at this;exact this
theorem qlo{x:Nat}(hx:x<4294967296)(h:x%2=1):bits .xor .u32 ((x:Int)/2) 3988292384=(half x:Nat):=by
 have:=u32_xor_nat (x/2) 3988292384 Zo Zo
 rw[qh4 h,<-this];rfl
theorem qmq{x:Nat}(h:x%2=0):((x:Int)/2)=(half x:Nat):=by rw[qgt h];omega
theorem qz4{x:Nat}(hx:x<4294967296):bits .xor .u32 4294967295 (x:Int)=((4294967295 - x:Nat):Int):=by
 have:=u32_xor_nat 4294967295 x Zo hx
 rw[Nat.xor_comm,qm6 hx] at this;exact this
theorem qlh{x:Nat}(hx:x<4294967296):bits .xor .u32 (x:Int) 4294967295=((4294967295 - x:Nat):Int):=by
 have:=u32_xor_nat x 4294967295 hx Zo
 rw[qm6 hx] at this;exact this
theorem qsa(x:Nat)(w:World)(hx:x<4294967296):
  Calls Tryz.prog 293 #[.int .u32 (x:Int)] w λe w'=>e= .returned (.int .u32 (half x:Nat))/\w=w':=by
 by_cases h:x%2=1
 ·have h1:(bits .and .u32 (x:Int) 1==1)=true:=by rw[qo0 hx,h];rfl
  go_enter Tryz.func293,Tryz.ntmps293;go_wp2
  go_ret;exact⟨qd8 (qlo hx h),rfl⟩
 ·have h1:(bits .and .u32 (x:Int) 1==1)=false:=by rw[qo0 hx,show x%2=0 by omega];rfl
  go_enter Tryz.func293,Tryz.ntmps293;go_wp2
  go_ret;exact⟨qd8 (qmq Zo),rfl⟩
theorem qxo(b:Nat)(w:World)(hb:b<256):
  Calls Tryz.prog 245 #[.int .u8 (b:Int)] w λe w'=>e= .returned (.int .u32 (qbq 8 b:Nat))/\w=w':=by
 go_enter Tryz.func245,Tryz.ntmps245;go_wp2
 go_loop [3,6] (λx' k=>∃j y:Nat,j<=8/\y<4294967296/\Hid (qbq (8 - j) y=qbq 8 b)/\k= .int .i64 (j:Int)/\x'= .int .u32 (y:Int)) (λ_ k=>8 - (intOf k).toNat)
 case atStart=>exact⟨0,b,Zo,Zo,waa rfl,rfl,rfl⟩
 case round=>
  obtain⟨j,y,hj,hy,he,rfl,rfl⟩:=hrel;by_cases hlt:j<8
  ·have he2:Hid (qbq (8 - (j+1)) (half y)=qbq 8 b):=waa (by rw[<-he.out,show 8 - j=8 - (j+1)+1 by omega];rfl)
   clear he;go_wp2_with (go_at_call 293;refine(qsa y _ hy).mono ?_;rintro e w' ⟨rfl,rfl⟩)
   go_round
   case rel=>exact⟨j+1,half y,Zo,qhd hy,he2,by go_num,rfl⟩
   case measure=>simp[intOf];omega
  ·obtain rfl:j=8:=Zo
   have hs:Hid (y=qbq 8 b):=waa he.out;clear he;go_wp2
   go_ret;exact⟨qd8 (by rw[hs.out]),rfl⟩
theorem q07{x b:Nat}{i:Int}(w:World)(hi:i=((x%256 ^^^ b:Nat):Int))(hb:b<256):
  Calls Tryz.prog 245 #[.int .u8 i] w λe w'=>e= .returned (.int .u32 (qbq 8 (x%256 ^^^ b):Nat))/\w=w':=by
 subst hi;exact qxo _ w (wdm (n:=8) (wbz _ Zo) hb)
theorem q1n{x b:Nat}(hx:x<4294967296)(hb:b<256):bits .xor .u32 ((x:Int)/256) ((qbq 8 (x%256 ^^^ b):Nat):Int)=(addB x b:Nat):=by
 have:=u32_xor_nat (x/256) (qbq 8 (x%256 ^^^ b)) Zo (q0w hb)
 rw[qt7 x b hb,<-this];rfl
theorem q0s(x b:Nat)(w:World)(hx:x<4294967296)(hb:b<256):
  Calls Tryz.prog 201 #[.int .u32 (x:Int),.int .u8 (b:Int)] w λe w'=>e= .returned (.int .u32 (addB x b:Nat))/\w=w':=by
 go_enter Tryz.func201,Tryz.ntmps201;go_wp2_with (go_at_call 245;refine(q07 (x:=x) (b:=b) _ (by first|exact u8_xor_nat (x%256) b Zo hb|(rw[show((x:Int)%256)=((x%256:Nat):Int) by omega];exact u8_xor_nat (x%256) b Zo hb)) hb).mono ?_;rintro e w' ⟨rfl,rfl⟩)
 go_ret;exact⟨qd8 (q1n hx hb),rfl⟩
theorem qp6(A:Option Addr)(c:Nat)(l:List Nat)(w:World)(hr:Rd w A l.length (u8V l))(hm:l.length<=9223372036854775807)(hl:∀b∈l,b<256):
  Calls Tryz.prog 176 #[.slice A l.length c] w λe w'=>e= .returned (.int .u32 (crcB l:Nat))/\w=w':=by
 go_enter Tryz.func176,Tryz.ntmps176;go_wp2
 go_loop [3,4,5] (λx' k _=>∃j y:Nat,j<=l.length/\y<4294967296/\Hid (sumL y (l.drop j)=sumL 4294967295 l)/\k= .int .i64 (j:Int)/\x'= .int .u32 (y:Int)) (λ_ k _=>l.length - (intOf k).toNat)
 case atStart=>exact⟨0,4294967295,Zo,Zo,waa rfl,rfl,rfl⟩
 case round=>
  obtain⟨j,y,hj,hy,he,rfl,rfl⟩:=hrel;by_cases hlt:j<l.length
  ·obtain⟨p,b,rfl,hd,hb,hcw⟩:=hr.u8_at hlt
   have hb':=hl b hb;rw[hd] at he;have hz:(0:Int)<=(j:Int):=Zo
   have hz2:(j:Int)<(l.length:Int):=Zo
   clear hd hb;go_wp2
   go_loop [3,5] (λx' k=>∃i z:Nat,i<=8/\z<4294967296/\Hid (qbq (8 - i) z=addB y b)/\k= .int .i64 (i:Int)/\x'= .int .u32 (z:Int)) (λ_ k=>8 - (intOf k).toNat)
   case atStart=>exact⟨0,y ^^^ b,Zo,qhp hy hb',waa rfl,rfl,qjm (u32_xor_nat y b hy Zo)⟩
   case round=>
    obtain⟨i,z,hi,hz1,hh,rfl,rfl⟩:=hrel;by_cases hlt8:i<8
    ·have hh2:Hid (qbq (8 - (i+1)) (half z)=addB y b):=waa (by rw[<-hh.out,show 8 - i=8 - (i+1)+1 by omega];rfl)
     clear hh;by_cases h:z%2=1
     ·have h1:=waa (qlo hz1 h)
      go_wp2
      go_round
      case rel=>exact⟨i+1,half z,Zo,qhd hz1,hh2,by go_num,qjm h1.out⟩
      case measure=>simp[intOf];omega
     ·have h1:=waa (qmq (show z%2=0 by omega))
      go_wp2
      go_round
      case rel=>exact⟨i+1,half z,Zo,qhd hz1,hh2,by go_num,qjm h1.out⟩
      case measure=>simp[intOf];omega
    ·obtain rfl:i=8:=Zo
     have hs:Hid (sumL z (l.drop (j+1))=sumL 4294967295 l):=waa (by rw[<-he.out,show z=addB y b from hh.out];rfl);clear hh he;go_wp2
     go_round
     case rel=>exact⟨j+1,z,Zo,hz1,hs,by go_num,rfl⟩
     case measure=>simp[intOf];omega
  ·have e1:l.drop j=[]:=wa6 Zo
   rw[e1] at he;have hs:Hid (crcB l=4294967295 - y):=waa (by unfold crcB;rw[<-he.out];rfl);clear he e1;go_wp2
   go_ret;exact⟨qd8 (by rw[hs.out];exact qlh hy),rfl⟩
theorem qv2(A:Option Addr)(c:Nat)(l:List Nat)(w:World)(hr:Rd w A l.length (u64V l))(hm:l.length<=9223372036854775807)(hl:∀b∈l,b<18446744073709551616):
  Calls Tryz.prog 162 #[.slice A l.length c] w λe w'=>e= .returned (.int .u32 (crcW l:Nat))/\w=w':=by
 go_enter Tryz.func162,Tryz.ntmps162;go_wp2
 go_loop [3,5,8,12] (λx' _ k _=>∃j y:Nat,j<=l.length/\y<4294967296/\Hid (sumL y (qbo (l.drop j))=sumL 4294967295 (qbo l))/\k= .int .i64 (j:Int)/\x'= .int .u32 (y:Int)) (λ_ _ k _=>l.length - (intOf k).toNat)
 case atStart=>exact⟨0,4294967295,Zo,Zo,waa rfl,rfl,rfl⟩
 case round=>
  obtain⟨j,y,hj,hy,he,rfl,rfl⟩:=hrel;by_cases hlt:j<l.length
  ·obtain⟨p,v,rfl,hd,hv,hcw⟩:=hr.u64_at hlt
   have hv':=hl v hv;rw[hd,qip] at he;have hz:(0:Int)<=(j:Int):=Zo
   have hz2:(j:Int)<(l.length:Int):=Zo
   clear hd hv;go_wp2
   go_loop [3,5,12] (λx' v' k=>∃i z u:Nat,i<=8/\z<4294967296/\u<18446744073709551616/\Hid (sumL z (qee (8 - i) u++qbo (l.drop (j+1)))=sumL 4294967295 (qbo l))/\k= .int .i64 (i:Int)/\x'= .int .u32 (z:Int)/\v'= .int .u64 (u:Int)) (λ_ _ k=>8 - (intOf k).toNat)
   case atStart=>exact⟨0,y,v,Zo,hy,hv',he,rfl,rfl,rfl⟩
   case round=>
    obtain⟨i,z,u,hi,hz1,hu,hh,rfl,rfl,rfl⟩:=hrel;by_cases hlt8:i<8
    ·have hh2:Hid (sumL (addB z (u%256)) (qee (8 - (i+1)) (u/256)++qbo (l.drop (j+1)))=sumL 4294967295 (qbo l)):=waa (by rw[<-hh.out,show 8 - i=8 - (i+1)+1 by omega];rfl)
     clear hh;go_wp2_with (go_at_call 201;refine(q0s z (u%256) _ hz1 Zo).mono ?_;rintro e w' ⟨rfl,rfl⟩)
     go_round
     case rel=>exact⟨i+1,addB z (u%256),u/256,Zo,qze hz1 Zo,Zo,hh2,by go_num,rfl,by go_num⟩
     case measure=>simp[intOf];omega
    ·obtain rfl:i=8:=Zo
     have hs:Hid (sumL z (qbo (l.drop (j+1)))=sumL 4294967295 (qbo l)):=hh;clear hh he;go_wp2
     go_round
     case rel=>exact⟨j+1,z,Zo,hz1,hs,by go_num,rfl⟩
     case measure=>simp[intOf];omega
  ·have e1:l.drop j=[]:=wa6 Zo
   rw[e1] at he;have hs:Hid (crcW l=4294967295 - y):=waa (by unfold crcW crcB;rw[<-he.out];rfl);clear he e1;go_wp2
   go_ret;exact⟨qd8 (by rw[hs.out];exact qz4 hy),rfl⟩
set_option maxRecDepth 100000 in
theorem q1d(A:Option Addr)(c:Nat)(l:List Nat)(w:World)(hr:Rd w A l.length (u64V l))(hm:l.length<=300)(hl:∀b∈l,b<18446744073709551616):
  Calls Tryz.prog 133 #[.slice A l.length c] w λe w'=>e= .returned (.int .u32 (crcW l:Nat))/\Below w.heap.size w w':=by
 obtain⟨i0,ii,iz0,iz1,iz2⟩:=info_parts qy3;go_enter Tryz.func133,Tryz.ntmps133;go_wp2
 go_loopw [3,4,5,6] (λv k _ _ wr=>∃(j:Nat) (L:List Nat),j<=l.length/\k= .int .i64 (j:Int)/\L.length<=8*j/\Hid (L++qbo (l.drop j)=qbo l)/\wr.ownsRow w.heap.size 5 1 v L.length (u8V L)/\Below w.heap.size w wr) (λ_ k _ _ _=>l.length - (intOf k).toNat)
 case atStart=>exact⟨0,[],Zo,rfl,by simp,waa rfl,wbx _ _ _ _,wai _ _⟩
 case round=>
  rename_i wr
  obtain⟨j,L,hj,rfl,hL,he,hrow,hB⟩:=hrel;by_cases hlt:j<l.length
  ·obtain⟨p,v,rfl,hd,hv,hcw⟩:=hr.u64_at hlt
   have hc:=(hB.cell (p:=p.add j) (wal w _ hcw)).trans hcw;have hv':=hl v hv;rw[hd,qip] at he;have hz:(0:Int)<=(j:Int):=Zo
   have hz2:(j:Int)<(l.length:Int):=Zo
   clear hd hv;go_wp2
   go_loopw [3,5,6] (λv' x' k wr2=>∃(i u:Nat) (M:List Nat) (W:World),W=wr2/\i<=8/\k= .int .i64 (i:Int)/\x'= .int .u64 (u:Int)/\u<18446744073709551616/\M.length<=8*j+i/\Hid (M++(qee (8 - i) u++qbo (l.drop (j+1)))=qbo l)/\W.ownsRow w.heap.size 5 1 v' M.length (u8V M)/\Below w.heap.size w W) (λ_ _ k _=>8 - (intOf k).toNat)
   case atStart=>exact⟨0,v,L,_,rfl,Zo,rfl,rfl,hv',hL,he,hrow,hB⟩
   case round=>
    obtain⟨i,u,M,wr2,rfl,hi,rfl,rfl,hu,hM,hh,hrow2,hB2⟩:=hrel;by_cases hlt8:i<8
    ·have hh2:Hid ((M++[u%256])++(qee (8 - (i+1)) (u/256)++qbo (l.drop (j+1)))=qbo l):=waa (by rw[<-hh.out,show 8 - i=8 - (i+1)+1 by omega,wbi];rfl)
     clear hh;have hsz:=hB2.size;go_wp2_with (first|(at_builtin;go_loud (refine wpList_append_own _ rfl _ _ 256 rfl w.heap.size 5 i0 (.int .u8 0) 1 1 Tryz.underlying256 ii iz0 iz1 iz2 rfl Zd _ _ _ rfl (hrow2.alloc _) ⟨wr2.heap.size,0,none⟩ 1 1 [.int .u8 ((u%256:Nat):Int)] rfl rfl (qjv Zs _ _) (by simp[Value.oneCell']) (by simp only[maxLen];omega) Zo Zx ?_;intro v' w1 hown' hgrow _;have hB3:=((hB2.alloc hsz (.cells #[.int .u8 ((u%256:Nat):Int)] 5)).grown hgrow Zx (qbv hrow2)))))
     go_roundw
     case rel=>exact⟨i+1,u/256,M++[u%256],_,rfl,Zo,by go_num,by go_num,Zo,by simp;omega,hh2,by rw[qwq];simpa using hown',hB3⟩
     case measure=>simp[intOf];omega
    ·obtain rfl:i=8:=Zo
     have hs:Hid (M++qbo (l.drop (j+1))=qbo l):=hh;clear hh he;go_wp2
     go_roundw
     case rel=>exact⟨j+1,M,Zo,by go_num,Zo,hs,hrow2,hB2⟩
     case measure=>simp[intOf];omega
  ·have e1:l.drop j=[]:=wa6 Zo
   rw[e1,qto,wba] at he;obtain⟨A1,c1,rfl,hR⟩:=Rd.of_own hrow;have hs:Hid (crcB L=crcW l):=waa (by unfold crcW;rw[<-he.out]);have hb:∀b∈L,b<256:=by rw[he.out];exact qwv l
   clear he e1;go_wp2_with (go_at_call 176;refine(qp6 _ _ L _ hR Zo hb).mono ?_;rintro e w' ⟨rfl,rfl⟩)
   go_ret;exact⟨qd8 (by rw[hs.out]),hB⟩
theorem qw7(n s:Nat)(hn:n<=300)(hs:s<4294967296):bits .or .u64 (bits .or .u64 9223372036854775808 ((n:Int)%2147483648*4294967296)) (s:Int)=((9223372036854775808+n%2147483648*4294967296+s:Nat):Int):=by
 have h1:=u64_or_nat 9223372036854775808 (n%2147483648*4294967296) Zo Zo;have e1:((n%2147483648*4294967296:Nat):Int)=(n:Int)%2147483648*4294967296:=Zo
 have e2:9223372036854775808|||(n%2147483648*4294967296)=9223372036854775808+n%2147483648*4294967296:=by
  have:=wer (i:=63) (b:=n%2147483648*4294967296) Zo 1
  simpa using this.symm
 rw[e1,e2] at h1;have h2:=u64_or_nat (9223372036854775808+n%2147483648*4294967296) s Zo Zo;have e3:(9223372036854775808+n%2147483648*4294967296)|||s=9223372036854775808+n%2147483648*4294967296+s:=by
  have:=wer (i:=32) (b:=s) Zo (2147483648+n%2147483648)
  rw[show 2 ^ 32*(2147483648+n%2147483648)=9223372036854775808+n%2147483648*4294967296 by omega] at this;exact this.symm
 rw[e3,<-h1] at h2;exact h2
theorem qqe(A:Option Addr)(c:Nat)(l:List Nat)(w:World)(hr:Rd w A l.length (u64V l))(hm:l.length<=300)(hl:∀b∈l,b<18446744073709551616):
  Calls Tryz.prog 140 #[.slice A l.length c] w λe w'=>e= .returned (.int .u64 (qc7 l:Nat))/\w=w':=by
 have hlt:=qft l;go_enter Tryz.func140,Tryz.ntmps140;go_wp2_with (go_at_call 162;refine(qv2 A c l _ hr Zo hl).mono ?_;rintro e w' ⟨rfl,rfl⟩)
 go_ret;exact⟨qcv (qw7 _ _ hm hlt),rfl⟩
theorem qn4(A:Option Addr)(c:Nat)(l:List Nat)(w:World)(hr:Rd w A l.length (u64V l))(hm:l.length<=300)(hl:∀b∈l,b<18446744073709551616):
  Calls Tryz.prog 82 #[.slice A l.length c] w λe w'=>e= .returned (.int .u64 (qc7 l:Nat))/\Below w.heap.size w w':=by
 have hlt:=qft l;go_enter Tryz.func82,Tryz.ntmps82;go_wp2_with (go_at_call 133;refine(q1d A c l _ hr Zo hl).mono ?_;rintro e w' ⟨rfl,hB⟩)
 go_ret;exact⟨qcv (by unfold qc7;omega),hB⟩
end Go.Proofs.YtgjhkafggagniaaGreat
