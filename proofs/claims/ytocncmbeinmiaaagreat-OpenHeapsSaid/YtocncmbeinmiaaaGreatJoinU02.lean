/- Parts. No condition. -/
import Derived.Shelf.Abstract
import Derived.Maps.AppendAt
import Derived.Test.YtocncmbeinmiaaaGreatJoinU01
set_option linter.unusedVariables false
set_option maxRecDepth 100000
set_option maxHeartbeats 8000000
namespace Go.Proofs.YtocncmbeinmiaaaGreat
open Go
def qcb(a n:Int):Bool:=decide (1<=n/\0<=a/\a+n<=64)
def qc1(n:Nat):Nat:=2 ^ n - 1
def getN(x a n:Nat):Nat:=x/2 ^ a%2 ^ n
def putN(x a n v:Nat):Nat:=(x&&&(18446744073709551615 - qc1 n*2 ^ a))|||(v&&&qc1 n)*2 ^ a
theorem fieldB_iff{a n:Int}:qcb a n=true↔1<=n/\0<=a/\a+n<=64:=by unfold qcb;simp
theorem fieldB_no{a n:Int}:qcb a n=false↔¬(1<=n/\0<=a/\a+n<=64):=by unfold qcb;simp
theorem qm9{a n:Int}(h:qcb a n=true):∃i k:Nat,a=(i:Int)/\n=(k:Int)/\1<=k/\i+k<=64:=by
 rw[fieldB_iff] at h;exact⟨a.toNat,n.toNat,Zo,Zo,Zo,Zo⟩
theorem qb7{i k:Nat}(h1:1<=k)(h2:i+k<=64):qcb (i:Int) (k:Int)=true:=by rw[fieldB_iff];omega
theorem qks(n:Nat):qc1 n+1=2 ^ n:=by unfold qc1;have:=weu n;omega
theorem qr9{n:Nat}(h:n<=64):qc1 n<18446744073709551616:=by
 have h1:=qks n;have h2:=wc1 (n:=2) Zo h;omega
theorem q0x(n k:Nat):(qc1 n).testBit k=decide (k<n):=by unfold qc1;exact whl ..
theorem qgi{a n:Nat}(h:a+n<=64):qc1 n*2 ^ a<18446744073709551616:=by
 have h1:qc1 n<2 ^ n:=by have:=qks n;omega
 have h2:qc1 n*2 ^ a<2 ^ n*2 ^ a:=Nat.mul_lt_mul_of_pos_right h1 (weu a);rw[<-Nat.pow_add] at h2;have h3:=wc1 (n:=2) Zo (by omega:n+a<=64);omega
theorem qjt(v:Nat){a n:Nat}(h:a+n<=64):(v&&&qc1 n)*2 ^ a<18446744073709551616:=
 wdz (Nat.mul_le_mul_right _ Nat.and_le_right) (qgi h)
theorem qk9(v a k:Nat):(v*2 ^ a).testBit k=(decide (a<=k)&&v.testBit (k - a)):=by
 rw[<-Nat.shiftLeft_eq,Nat.testBit_shiftLeft]
theorem qtb(x a n v:Nat)(hx:x<18446744073709551616)(h:a+n<=64)(k:Nat):
  (putN x a n v).testBit k=if a<=k/\k<a+n then v.testBit (k - a) else x.testBit k:=by
 unfold putN;rw[wgv,qyj _ _ hx (qgi h),qk9,qk9,Nat.testBit_and,q0x];by_cases h1:a<=k
 ·by_cases h2:k<a+n
  ·rw[if_pos ⟨h1,h2⟩]
   rw[decide_eq_true h1,decide_eq_true (by omega:k - a<n)];simp
  ·rw[if_neg Zo]
   rw[decide_eq_true h1,decide_eq_false (by omega:¬k - a<n)];simp
 ·rw[if_neg Zo,decide_eq_false h1]
  simp
theorem qw3(x a n v:Nat)(hx:x<18446744073709551616)(h:a+n<=64):putN x a n v<18446744073709551616:=
 Nat.or_lt_two_pow (n:=64) (wdz Nat.and_le_left hx) (qjt v h)
def endL:Nat->List Int->Option Nat
 |a,[]=>some a
 |a,n::ws=>if qcb (a:Int) n=true then endL (a+n.toNat) ws else none
def qda:Nat->Nat->List Int->List Nat->Option Nat
 |_,x,[],[]=>some x
 |a,x,n::ws,v::vs=>if qcb (a:Int) n=true/\v<2 ^ n.toNat then qda (a+n.toNat) (putN x a n.toNat v) ws vs else none
 |_,_,_,_=>none
def qd4(x:Nat):Nat->List Int->List Nat
 |_,[]=>[]
 |a,n::ws=>getN x a n.toNat::qd4 x (a+n.toNat) ws
def qdg(x:Nat)(ws:List Int):Option (List Nat):=match endL 0 ws with
 |some e=>if x/2 ^ e=0 then some (qd4 x 0 ws) else none
 |none=>none
theorem q6q{a:Nat}{n:Int}{ws:List Int}(h:qcb (a:Int) n=true):endL a (n::ws)=endL (a+n.toNat) ws:=by
 show(if qcb (a:Int) n=true then _ else _)=_
 rw[if_pos h]
theorem qaae{a:Nat}{n:Int}{ws:List Int}(h:qcb (a:Int) n=false):endL a (n::ws)=none:=by
 show(if qcb (a:Int) n=true then _ else _)=_
 rw[if_neg (by simp[h])]
theorem qps{a x:Nat}{n:Int}{ws:List Int}{v:Nat}{vs:List Nat}(h:qcb (a:Int) n=true)(hv:v<2 ^ n.toNat):qda a x (n::ws) (v::vs)=qda (a+n.toNat) (putN x a n.toNat v) ws vs:=by
 rw[qda,if_pos ⟨h,hv⟩]
theorem qbw{a x k:Nat}{ws:List Int}{v:Nat}{vs:List Nat}(h:qcb (a:Int) (k:Int)=true)(hv:v<2 ^ k):qda a x ((k:Int)::ws) (v::vs)=qda (a+k) (putN x a k v) ws vs:=qps h hv
theorem qlw{a x:Nat}{n:Int}{ws:List Int}{v:Nat}{vs:List Nat}(h:¬(qcb (a:Int) n=true/\v<2 ^ n.toNat)):qda a x (n::ws) (v::vs)=none:=by
 rw[qda,if_neg h]
theorem q2v{a:Nat}{x:Nat}{ws:List Int}{vs:List Nat}(h:ws.length≠vs.length):qda a x ws vs=none:=by
 induction ws generalizing a x vs with
 |nil=>cases vs with
  |nil=>exact absurd rfl h
  |cons v vs=>rw[qda]<;>simp
 |cons n ws ih=>
  cases vs with
  |nil=>rw[qda]<;>simp
  |cons v vs=>
   by_cases hf:qcb (a:Int) n=true/\v<2 ^ n.toNat
   ·rw[qps hf.1 hf.2]
    exact ih (by simpa using h)
   ·exact qlw hf
def qfq(x a:Nat):Nat:=x/2 ^ a*2 ^ a
theorem qqc(x a k:Nat):(qfq x a).testBit k=(decide (a<=k)&&x.testBit k):=by
 unfold qfq;rw[qk9,wer];by_cases h:a<=k
 ·rw[show k - a+a=k from by omega]
 ·simp[h]
theorem q66(x a:Nat)(hx:x<18446744073709551616):qfq x a<18446744073709551616:=wdz (Nat.div_mul_le_self x (2 ^ a)) hx
theorem q0r(x:Nat):qfq x 0=x:=by unfold qfq;simp
theorem q1z(x:Nat){a n:Nat}(hx:x<18446744073709551616)(h:a+n<=64):putN (qfq x a) a n 0=qfq x (a+n):=by
 apply wdy
 intro k;rw[qtb _ _ _ _ (q66 x a hx) h,qqc,qqc];by_cases e:a<=k/\k<a+n
 ·rw[if_pos e,decide_eq_false (by omega:¬a+n<=k)];simp
 ·rw[if_neg e]
  by_cases e2:a<=k
  ·rw[decide_eq_true e2,decide_eq_true (by omega:a+n<=k)]
  ·rw[decide_eq_false e2,decide_eq_false (by omega:¬a+n<=k)]
theorem qm2(x a:Nat):qfq x a=0↔x/2 ^ a=0:=by
 unfold qfq;have:=weu a
 constructor
 ·intro h
  rcases Nat.mul_eq_zero.1 h with h|h<;>omega
 ·intro h;rw[h];simp
theorem q2u{x:Nat}{ws:List Int}(h:endL 0 ws=none):qdg x ws=none:=by unfold qdg;rw[h]
theorem qff{x e:Nat}{ws:List Int}(h:endL 0 ws=some e)(h2:x/2 ^ e=0):qdg x ws=some (qd4 x 0 ws):=by
 unfold qdg;rw[h];show(if x/2 ^ e=0 then _ else _)=_
 rw[if_pos h2]
theorem qhv{x e:Nat}{ws:List Int}(h:endL 0 ws=some e)(h2:x/2 ^ e≠0):qdg x ws=none:=by
 unfold qdg;rw[h];show(if x/2 ^ e=0 then _ else _)=_
 rw[if_neg h2]
theorem lt_pow_mask{v n:Nat}:v<2 ^ n↔¬qc1 n<v:=by have:=qks n;omega
theorem qcv{x a n v:Nat}(hx:x<2 ^ a)(h:a+n<=64)(hv:v<2 ^ n):putN x a n v=x+v*2 ^ a:=by
 have hx64:x<18446744073709551616:=waw hx (by have:=wc1 (n:=2) Zo (show a<=64 by omega);simpa using this);have e:x+v*2 ^ a=2 ^ a*v|||x:=by rw[<-wgw hx v,wfd];omega
 rw[e];apply wdy
 intro k;rw[qtb x a n v hx64 h k,wgv,wfd,qk9];by_cases h1:a<=k
 ·have hxk:x.testBit k=false:=weq (waw hx (wc1 Zo h1))
  by_cases h2:k<a+n
  ·simp[h1,h2,hxk]
  ·have hvk:v.testBit (k - a)=false:=weq (waw hv (wc1 Zo Zo))
   simp[h1,h2,hxk,hvk]
 ·simp[h1]
end Go.Proofs.YtocncmbeinmiaaaGreat
namespace Go.Proofs.YtocncmbeinmiaaaGreat
open Go Go.RowKit
theorem qf7(a n:Int)(w:World)(a0:-9223372036854775808<=a)(a1:a<=9223372036854775807)(n0:-9223372036854775808<=n)(n1:n<=9223372036854775807):
  Calls Tryz.prog 301 #[.int .i64 a,.int .i64 n] w λe w'=>e= .returned (.bool (qcb a n))/\w=w':=by
 by_cases h1:1<=n
 ·by_cases h2:0<=a
  ·by_cases h3:a<=64 - n
   ·have hb:=waa (fieldB_iff.2 ⟨h1,h2,Zo⟩)
    go_enter wff,wfg;go_wp2
    go_ret;exact⟨qab (by rw[hb.out]),rfl⟩
   ·have hb:=waa (fieldB_no.2 (by omega:¬(1<=n/\0<=a/\a+n<=64)))
    go_enter wff,wfg;go_wp2
    go_ret;exact⟨qab (by rw[hb.out]),rfl⟩
  ·have hb:=waa (fieldB_no.2 (by omega:¬(1<=n/\0<=a/\a+n<=64)))
   go_enter wff,wfg;go_wp2
   go_ret;exact⟨qab (by rw[hb.out]),rfl⟩
 ·have hb:=waa (fieldB_no.2 (by omega:¬(1<=n/\0<=a/\a+n<=64)))
  go_enter wff,wfg;go_wp2
  go_ret;exact⟨qab (by rw[hb.out]),rfl⟩
theorem q1s{n:Nat}(h:n<=64):IntKind.u64.wrap (IntKind.u64.wrap ((2:Int) ^ n) - 1)=(qc1 n:Int):=by
 have hp:0<2 ^ n:=weu _;have e:((2:Int) ^ n)=((2 ^ n:Nat):Int):=by simp
 have hl:=wc1 (n:=2) Zo h;unfold qc1;rw[e,wa5,wa5];generalize 2 ^ n=y at hl hp ⊢;omega
theorem qfk(n:Int)(w:World)(n0:0<=n)(n1:n<=64):
  Calls Tryz.prog 236 #[.int .i64 n] w λe w'=>e= .returned (.int .u64 (qc1 n.toNat:Nat))/\w=w':=by
 go_enter Tryz.func236,Tryz.ntmps236;go_wp2
 all_goals first|omega|(go_ret;exact⟨qb9 (q1s Zo),rfl⟩)
theorem q4s(x i k:Nat)(hx:x<18446744073709551616)(hk:k<=64):bits .and .u64 ((x:Int)/2 ^ i) (qc1 k:Int)=(getN x i k:Int):=by
 have e:((x:Int)/2 ^ i)=((x/2 ^ i:Nat):Int):=by simp
 rw[e,u64_and_nat _ _ (wdz (Nat.div_le_self _ _) hx) (qr9 hk)];unfold qc1 getN;rw[Nat.and_two_pow_sub_one_eq_mod]
theorem qpm(m i k:Nat)(h:m*2 ^ i<18446744073709551616):IntKind.u64.wrap ((m:Int)*2 ^ i)=((m*2 ^ i:Nat):Int):=by
 have e:((m:Int)*2 ^ i)=((m*2 ^ i:Nat):Int):=by simp
 rw[e,wa5];generalize m*2 ^ i=y at h ⊢;omega
theorem q46(x i k v:Nat)(hx:x<18446744073709551616)(hv:v<18446744073709551616)(h:i+k<=64):
  bits .or .u64 (bits .andNot .u64 (x:Int) (IntKind.u64.wrap ((qc1 k:Int)*2 ^ i))) (IntKind.u64.wrap (bits .and .u64 (v:Int) (qc1 k:Int)*2 ^ i))=(putN x i k v:Int):=by
 have h1:=qgi h;have h2:=qjt v h;rw[qpm _ _ k h1,u64_and_nat v _ hv (qr9 Zo),qpm _ _ k h2,u64_andNot_nat x _ hx h1,u64_or_nat _ _ (wdz Nat.and_le_left hx) h2];rfl
theorem qws(x i k:Nat)(w:World)(hx:x<18446744073709551616)(h1:1<=k)(h2:i+k<=64):
  Calls Tryz.prog 230 #[.int .u64 (x:Int),.int .i64 (i:Int),.int .i64 (k:Int)] w λe w'=>e= .returned (.int .u64 (getN x i k:Nat))/\∃t,w.drewN t=w':=by
 have hb:=qb7 h1 h2;have hi:(i:Int)<64:=Zo
 go_enter Tryz.func230,Tryz.ntmps230;go_wp2_with (go_at_call 301;refine(qf7 _ _ _ Zo Zo Zo Zo).mono ?_;rintro e w' ⟨rfl,rfl⟩)
 go_quiet ((go_at_call 236;exact qau (qfk _ _ Zo Zo)))
 go_wp2
 go_ret;exact⟨qb9 (q4s x i k hx Zo),nq,rfl⟩
theorem qv7(x i k v:Nat)(w:World)(hx:x<18446744073709551616)(hv:v<18446744073709551616)(h1:1<=k)(h2:i+k<=64):
  Calls Tryz.prog 231 #[.int .u64 (x:Int),.int .i64 (i:Int),.int .i64 (k:Int),.int .u64 (v:Int)] w λe w'=>e= .returned (.int .u64 (putN x i k v:Nat))/\∃t,w.drewN t=w':=by
 have hb:=qb7 h1 h2;have hi:(i:Int)<64:=Zo
 go_enter Tryz.func231,Tryz.ntmps231;go_wp2_with (go_at_call 301;refine(qf7 _ _ _ Zo Zo Zo Zo).mono ?_;rintro e w' ⟨rfl,rfl⟩)
 go_quiet ((go_at_call 236;exact qau (qfk _ _ Zo Zo)))
 go_wp2
 go_ret;exact⟨qb9 (q46 x i k v hx hv h2),nq,rfl⟩
theorem qnf(w:World):
  Calls Tryz.prog 229 #[] w λe w'=>e= .returned (.func (.func 300) #[] #[.pointer (some ⟨w.heap.size,0,none⟩)])/\w.alloc (.cells #[.int .i64 0] 3)=w':=by
 have hmf:∀(fn:Fn) (first cap:Array Value) (w:World),(Instr.makeFunc fn first cap).run Tryz.prog w= .ok (.func fn first cap) w:=λ_ _ _ _=>rfl
 go_enter Tryz.func229,Tryz.ntmps229;go_wp2
 go_ret;exact⟨rfl,rfl⟩
theorem qkc(g i k:Nat)(w:World)(hc:Boxed w g 3 (.int .i64 (i:Int)))(h1:1<=k)(h2:i+k<=64):
  Calls Tryz.prog 300 #[.int .i64 (k:Int),.pointer (some ⟨g,0,none⟩)] w λe w'=>e= .returned (.tuple #[.int .i64 (i:Int),.bool true])/\w.setCell ⟨g,0,none⟩ (.int .i64 ((i:Int)+(k:Int)))=w':=by
 have hb:=qb7 h1 h2;have c0:=hc.cell;have f0:=hc.frozen;go_enter Tryz.func300,Tryz.ntmps300;go_wp2_with (go_at_call 301;refine(qf7 _ _ _ Zo Zo Zo Zo).mono ?_;rintro e w' ⟨rfl,rfl⟩)
 go_ret2;exact⟨rfl,rfl⟩
theorem qsw(g i:Nat)(n:Int)(w:World)(hc:Boxed w g 3 (.int .i64 (i:Int)))(hi:i<=64)(n0:-9223372036854775808<=n)(n1:n<=9223372036854775807)(hb:qcb (i:Int) n=false):
  Calls Tryz.prog 300 #[.int .i64 n,.pointer (some ⟨g,0,none⟩)] w λe w'=>e= .returned (.tuple #[.int .i64 0,.bool false])/\w=w':=by
 have c0:=hc.cell;have f0:=hc.frozen;go_enter Tryz.func300,Tryz.ntmps300;go_wp2_with (go_at_call 301;refine(qf7 _ _ _ Zo Zo Zo Zo).mono ?_;rintro e w' ⟨rfl,rfl⟩)
 go_ret2;exact⟨rfl,rfl⟩
def qzg(o:Option Nat):Ending:=match o with
 |some x=> .returned (.tuple #[.int .u64 (x:Int),.bool true])
 |none=> .returned (.tuple #[.int .u64 0,.bool false])
theorem qxz{o:Option Nat}{x:Nat}(h:o=some x): .returned (.tuple #[.int .u64 (x:Int),.bool true])=qzg o:=by rw[h];rfl
theorem qjd{o:Option Nat}(h:o=none): .returned (.tuple #[.int .u64 0,.bool false])=qzg o:=by rw[h];rfl
theorem qiq(A0 A1:Option Addr)(c0 c1:Nat)(ws:List Int)(vs:List Nat)(w:World)(hr0:Rd w A0 ws.length (i64V ws))(hr1:Rd w A1 vs.length (u64V vs))(hm:ws.length<=9223372036854775807)(hm1:vs.length<=9223372036854775807)(hw:∀x∈ws,-9223372036854775808<=x/\x<=9223372036854775807)(hv:∀x∈vs,x<18446744073709551616):
  Calls Tryz.prog 178 #[.slice A0 ws.length c0,.slice A1 vs.length c1] w λe w'=>e=qzg (qda 0 0 ws vs)/\Below w.heap.size w w':=by
 by_cases hlen:ws.length=vs.length
 ·have hl':((ws.length:Int) !=(vs.length:Int))=false:=by rw[hlen];simp
  have hlen':=waa hlen;rw[<-hlen] at hr1;clear hlen;go_enter Tryz.func178,Tryz.ntmps178;go_wp2_with (go_at_call 229;refine(qnf _).mono ?_;rintro e w' ⟨rfl,rfl⟩)
  have hB0:Below w.heap.size w (w.alloc (.cells #[.int .i64 0] 3)):=(wac _ w).alloc (wab _) _;have hx0:=Boxed.new w 3 (.int .i64 0);go_loopw [6,20] (λx k wr=>∃j a y:Nat,j<=ws.length/\a<=64/\y<18446744073709551616/\k= .int .i64 (j:Int)/\x= .int .u64 (y:Int)/\Hid (qda a y (ws.drop j) (vs.drop j)=qda 0 0 ws vs)/\Boxed wr w.heap.size 3 (.int .i64 (a:Int))/\Below w.heap.size w wr) (λ_ k _=>ws.length - (intOf k).toNat)
  case atStart=>exact⟨0,0,0,wau _,Zo,Zo,rfl,rfl,waa rfl,hx0,hB0⟩
  case round=>
   obtain⟨j,a,y,hj,ha,hy,rfl,rfl,he,hbx,hB⟩:=hrel;by_cases hlt:j<ws.length
   ·obtain⟨p,x,rfl,hd,hx,hcw⟩:=hr0.i64_at hlt
    obtain⟨q,v,rfl,hd1,hx1,hcv⟩:=hr1.u64_at hlt;have hc:=(hB.cell (p:=p.add j) (wak w _ hcw)).trans hcw;obtain⟨x0,x1⟩:=hw x hx;have hv64:=hv v hx1;rw[hd,hd1] at he;have hd':=waa hd;have hd1':=waa hd1;clear hd hd1;have hz:(0:Int)<=(j:Int):=Zo
    have hz2:(j:Int)<(ws.length:Int):=Zo
    have hz3:(j:Int)<(vs.length:Int):=by have:=hlen'.out;omega
    cases hb:qcb (a:Int) x with
    |true=>
     obtain⟨a',k,e,rfl,h1,h2⟩:=qm9 hb;obtain rfl:a=a':=Zo
     have hb':=waa hb;clear hb;have hB2:Below w.heap.size w (wr.setCell ⟨w.heap.size,0,none⟩ (.int .i64 ((a:Int)+(k:Int)))):=hB.setCell (p:=⟨w.heap.size,0,none⟩) (wab _) _;have hbx2:=hbx.set (.int .i64 ((a:Int)+(k:Int)));have hc1:=(hB2.cell (p:=q.add j) (wak w _ hcv)).trans hcv;by_cases hg:v<2 ^ k
     ·have hs:=waa ((qbw hb'.out hg).symm.trans he.out)
      have hg1:(v:Int)<=((qc1 k:Nat):Int):=by have:=lt_pow_mask.1 hg;omega
      have hp:=qw3 y a k v hy h2;have hg':=waa hg;clear hg he;go_wp2_with (first|(go_at_call 300;refine(qkc w.heap.size a k _ hbx h1 h2).mono ?_;rintro e w' ⟨rfl,rfl⟩))
      go_quiet ((go_at_call 236;exact qau (qfk _ _ Zo Zo)))
      go_wp2_with (go_at_call 231;refine(qv7 y a k v _ hy hv64 h1 h2).mono ?_;rintro e w' ⟨rfl,t,rfl⟩)
      go_roundw
      case rel=>exact⟨j+1,a+k,_,Zo,h2,hp,by go_num,rfl,hs,by rw[wcg];exact hbx2,qad hB2 _⟩
      case measure=>simp[intOf];omega
     ·have hs:=waa (he.out.symm.trans (qlw (by simp[hg])))
      have hg1:((qc1 k:Nat):Int)<(v:Int):=by have:=mt lt_pow_mask.2 hg;omega
      have hg':=waa hg;clear hg he;go_wp2_with (first|(go_at_call 300;refine(qkc w.heap.size a k _ hbx h1 h2).mono ?_;rintro e w' ⟨rfl,rfl⟩))
      go_quiet ((go_at_call 236;exact qau (qfk _ _ Zo Zo)))
      go_wp2
      go_ret2;exact⟨qjd hs.out,qad hB2 _⟩
    |false=>
     have hs:=waa (he.out.symm.trans (qlw (by simp[hb])));clear he;go_wp2_with (go_at_call 300;refine(qsw w.heap.size a x _ hbx ha x0 x1 hb).mono ?_;rintro e w' ⟨rfl,rfl⟩)
     go_quiet (fail)
     go_wp2
     go_ret2;exact⟨qjd hs.out,qad hB _⟩
   ·have e1:ws.drop j=[]:=wbn Zo
    have e2:vs.drop j=[]:=wbn (by have:=hlen'.out;omega);rw[e1,e2] at he;have hs:Hid (qda 0 0 ws vs=some y):=waa he.out.symm;clear he e1 e2;go_wp2_with fail;go_ret2;exact⟨qxz hs.out,hB⟩
 ·have hn:=waa (q2v (a:=0) (x:=0) hlen)
  have hl':((ws.length:Int) !=(vs.length:Int))=true:=by rw[bne_iff_ne];omega
  have hlen':=waa hlen;clear hlen;go_enter Tryz.func178,Tryz.ntmps178;go_wp2_with fail;go_ret2;exact⟨qjd hn.out,wac _ _⟩
def SplitR(o:Option (List Nat))(e:Ending)(w':World):Prop:=match o with
 |none=>e= .returned (.tuple #[.slice none 0 0,.bool false])
 |some L=>∃A cap,e= .returned (.tuple #[.slice A L.length cap,.bool true])/\Rd w' A L.length (u64V L)
theorem SplitR.isn{o:Option (List Nat)}{e:Ending}{w':World}(h:o=none)(he:SplitR o e w'):e= .returned (.tuple #[.slice none 0 0,.bool false]):=by rw[h] at he;exact he
theorem SplitR.is{o:Option (List Nat)}{L:List Nat}{e:Ending}{w':World}(h:o=some L)(he:SplitR o e w'):∃A cap,e= .returned (.tuple #[.slice A L.length cap,.bool true])/\Rd w' A L.length (u64V L):=by rw[h] at he;exact he
set_option maxRecDepth 100000 in
def SplitN(B:Nat)(o:Option (List Nat))(e:Ending)(w':World):Prop:=match o with
 |none=>e= .returned (.tuple #[.slice none 0 0,.bool false])
 |some L=>∃A cap,e= .returned (.tuple #[.slice A L.length cap,.bool true])/\Rd w' A L.length (u64V L)/\∀p,A=some p->B<=p.block
theorem SplitN.toR{B:Nat}{o:Option (List Nat)}{e:Ending}{w':World}(h:SplitN B o e w'):SplitR o e w':=by
 cases o with
 |none=>exact h
 |some L=>obtain⟨A,cap,h1,h2,_⟩:=h;exact⟨A,cap,h1,h2⟩
theorem SplitN.no{o:Option (List Nat)}(h:o=none)(B:Nat)(w':World):SplitN B o (.returned (.tuple #[.slice none 0 0,.bool false])) w':=by rw[h];exact rfl
theorem SplitN.yes{o:Option (List Nat)}{L:List Nat}{w':World}{B base:Nat}{e:TypeId}{v:Value}(h:o=some L)(hr:w'.ownsRow base e 1 v L.length (u64V L))(hB:B<=base):SplitN B o (.returned (.tuple #[v,.bool true])) w':=by
 rw[h];obtain⟨A,cap,rfl,hR⟩:=Rd.of_own hr;refine⟨A,cap,rfl,hR,λp hp=>?_⟩;subst hp;exact wap hB (qa0 hr _ rfl)
theorem SplitN.is{B:Nat}{o:Option (List Nat)}{L:List Nat}{e:Ending}{w':World}(h:o=some L)(he:SplitN B o e w'):∃A cap,e= .returned (.tuple #[.slice A L.length cap,.bool true])/\Rd w' A L.length (u64V L)/\∀p,A=some p->B<=p.block:=by rw[h] at he;exact he
theorem qlr(A0:Option Addr)(c0:Nat)(ws:List Int)(x:Nat)(w:World)(hr0:Rd w A0 ws.length (i64V ws))(hm:ws.length<=9223372036854775807)(hw:∀x∈ws,-9223372036854775808<=x/\x<=9223372036854775807)(hx:x<18446744073709551616):
  Calls Tryz.prog 169 #[.slice A0 ws.length c0,.int .u64 (x:Int)] w λe w'=>SplitN w.heap.size (qdg x ws) e w'/\Below w.heap.size w w':=by
 obtain⟨i0,ii,iz0,iz1,iz2⟩:=info_parts qcg;go_enter Tryz.func169,Tryz.ntmps169;go_wp2_with (go_at_call 229;refine(qnf _).mono ?_;rintro e w' ⟨rfl,rfl⟩)
 have hB0:Below w.heap.size w (w.alloc (.cells #[.int .i64 0] 3)):=(wac _ w).alloc (wab _) _;have hx0:=Boxed.new w 3 (.int .i64 0);go_loopw [6,7,17] (λv r k wr=>∃(j a y:Nat) (L:List Nat),j<=ws.length/\a<=64/\L.length<=a/\k= .int .i64 (j:Int)/\r= .int .u64 (y:Int)/\y<18446744073709551616/\Hid (y=qfq x a)/\Hid (endL a (ws.drop j)=endL 0 ws)/\Hid (L++qd4 x a (ws.drop j)=qd4 x 0 ws)/\wr.ownsRow (w.heap.size+1) 27 1 v L.length (u64V L)/\Boxed wr w.heap.size 3 (.int .i64 (a:Int))/\Below w.heap.size w wr) (λ_ _ k _=>ws.length - (intOf k).toNat)
 case atStart=>exact⟨0,0,x,[],wau _,Zo,by simp,rfl,rfl,hx,waa (q0r x).symm,waa rfl,waa rfl,wa9 _ _ _ _,hx0,hB0⟩
 case round=>
  rename_i wr
  obtain⟨j,a,y,L,hj,ha,hL,rfl,rfl,hy,hyr,he,hsp,hrow,hbx,hB⟩:=hrel;by_cases hlt:j<ws.length
  ·obtain⟨p,n,rfl,hd,hx1,hcw⟩:=hr0.i64_at hlt
   have hc:=(hB.cell (p:=p.add j) (wak w _ hcw)).trans hcw;obtain⟨x0,x1⟩:=hw n hx1;rw[hd] at he hsp;have hd':=waa hd;clear hd;have hz:(0:Int)<=(j:Int):=Zo
   have hz2:(j:Int)<(ws.length:Int):=Zo
   cases hb:qcb (a:Int) n with
   |true=>
    obtain⟨a',k,e,rfl,h1,h2⟩:=qm9 hb;obtain rfl:a=a':=Zo
    have he2:=waa ((q6q hb).symm.trans he.out);have hsp2:Hid ((L++[getN x a k])++qd4 x (a+k) (ws.drop (j+1))=qd4 x 0 ws):=waa (by rw[<-hsp.out,wbm];rfl);have hyr2:Hid (putN y a k 0=qfq x (a+k)):=waa (by rw[hyr.out];exact q1z x hx h2);clear he hsp hyr;have hb':=waa hb;clear hb;have hp:=qw3 y a k 0 hy h2;have hB2:Below w.heap.size w (wr.setCell ⟨w.heap.size,0,none⟩ (.int .i64 ((a:Int)+(k:Int)))):=hB.setCell (p:=⟨w.heap.size,0,none⟩) (wab _) _;have hbx2:=hbx.set (.int .i64 ((a:Int)+(k:Int)));have hrow2:=ownsRow_setCell_below hrow (a:=⟨w.heap.size,0,none⟩) Zs (.int .i64 ((a:Int)+(k:Int)));have hsz:w.heap.size+1<=wr.heap.size:=hbx.lt;go_wp2_with (first|(go_at_call 300;refine(qkc w.heap.size a k _ hbx h1 h2).mono ?_;rintro e w' ⟨rfl,rfl⟩)|(go_at_call 230;refine(qws x a k _ hx h1 h2).mono ?_;rintro e w' ⟨rfl,t1,rfl⟩)|(at_builtin;go_loud (refine wpList_append_own _ rfl _ _ 40 rfl (w.heap.size+1) 27 i0 (.int .u64 0) 1 8 wbi ii iz0 iz1 iz2 rfl Zd _ _ _ rfl ((qfa hrow2 t1).alloc _) ⟨wr.heap.size,0,none⟩ 1 1 [.int .u64 ((getN x a k:Nat):Int)] rfl rfl (qd3 Zs _ _) (by simp[Value.oneCell']) (by simp only[maxLen];omega) Zo Zx ?_);intro v' w1 hown' hgrow _)|(go_at_call 231;refine(qv7 y a k 0 _ hy Zo h1 h2).mono ?_;rintro e w' ⟨rfl,t2,rfl⟩))
    go_roundw
    case rel=>
     have hB3:=(((qad hB2 t1).alloc (o:= .cells #[.int .u64 ((getN x a k:Nat):Int)] 27) Zx).grown hgrow Zx (λg hg=>Nat.le_of_succ_le (qa0 hrow g hg)))
     have hbx3:=((qf3 hbx2 t1).alloc (.cells #[.int .u64 ((getN x a k:Nat):Int)] 27)).kept hgrow (((qf3 hbx2 t1).alloc _).not_row Zd ((qfa hrow2 t1).alloc (.cells #[.int .u64 ((getN x a k:Nat):Int)] 27)));exact⟨j+1,a+k,_,L++[getN x a k],Zo,h2,by simp;omega,by go_num,rfl,hp,hyr2,he2,hsp2,by rw[qd8];simpa using qfa hown' t2,by rw[wcg];exact qf3 hbx3 t2,qad hB3 t2⟩
    case measure=>simp[intOf];omega
   |false=>
    have hs:=waa (q2u (x:=x) (he.out.symm.trans (qaae hb)));clear he hsp hyr;go_wp2_with (go_at_call 300;refine(qsw w.heap.size a n _ hbx ha x0 x1 hb).mono ?_;rintro e w' ⟨rfl,rfl⟩)
    go_ret2;exact⟨SplitN.no hs.out _ _,hB⟩
  ·have e1:ws.drop j=[]:=wbn Zo
   rw[e1] at he hsp;have he2:endL 0 ws=some a:=he.out.symm;have hsp2:L=qd4 x 0 ws:=by have:=hsp.out;simpa[qd4] using this
   by_cases hr:y=0
   ·have hs:=waa (qff he2 ((qm2 x a).1 (hyr.out.symm.trans hr)))
    rw[<-hsp2] at hs;clear he hsp hyr e1 he2 hsp2;subst hr;go_wp2_with fail;go_ret2;exact⟨SplitN.yes hs.out hrow Zo,hB⟩
   ·have hs:=waa (qhv he2 (λh=>hr (hyr.out.trans ((qm2 x a).2 h))))
    have hne:((y:Int) !=0)=true:=by rw[bne_iff_ne];omega
    clear he hsp hyr e1 he2 hsp2;go_wp2_with fail;go_ret2;exact⟨SplitN.no hs.out _ _,hB⟩
theorem qhq(A0:Option Addr)(c0:Nat)(ws:List Int)(x:Nat)(w:World)(hr0:Rd w A0 ws.length (i64V ws))(hm:ws.length<=9223372036854775807)(hw:∀x∈ws,-9223372036854775808<=x/\x<=9223372036854775807)(hx:x<18446744073709551616):
  Calls Tryz.prog 169 #[.slice A0 ws.length c0,.int .u64 (x:Int)] w λe w'=>SplitR (qdg x ws) e w'/\Below w.heap.size w w':=
 (qlr A0 c0 ws x w hr0 hm hw hx).mono λe w' ⟨h1,h2⟩=>⟨h1.toR,h2⟩
theorem qn5{a b:Int}(h:a=b):Value.int .u32 a= .int .u32 b:=by rw[h]
theorem qwx{x:Nat}(hx:x<4294967296):bits .and .u32 (x:Int) 1=((x%2:Nat):Int):=by
 have:=u32_and_nat x 1 hx Zo
 rw[Nat.and_one_is_mod] at this;exact this
theorem qtt{x:Nat}(hx:x<4294967296)(h:x%2=1):bits .xor .u32 ((x:Int)/2) 3988292384=(half x:Nat):=by
 have:=u32_xor_nat (x/2) 3988292384 Zo Zo
 rw[qmc h,<-this];rfl
theorem qs9{x:Nat}(h:x%2=0):((x:Int)/2)=(half x:Nat):=by rw[qjy h];omega
theorem q9w{x:Nat}(hx:x<4294967296):bits .xor .u32 4294967295 (x:Int)=((4294967295 - x:Nat):Int):=by
 have:=u32_xor_nat 4294967295 x Zo hx
 rw[Nat.xor_comm,qts hx] at this;exact this
theorem qry{x:Nat}(hx:x<4294967296):bits .xor .u32 (x:Int) 4294967295=((4294967295 - x:Nat):Int):=by
 have:=u32_xor_nat x 4294967295 hx Zo
 rw[qts hx] at this;exact this
theorem q0a(x:Nat)(w:World)(hx:x<4294967296):
  Calls Tryz.prog 303 #[.int .u32 (x:Int)] w λe w'=>e= .returned (.int .u32 (half x:Nat))/\w=w':=by
 by_cases h:x%2=1
 ·have h1:(bits .and .u32 (x:Int) 1==1)=true:=by rw[qwx hx,h];rfl
  go_enter Tryz.func303,Tryz.ntmps303;go_wp2
  go_ret;exact⟨qfz (qtt hx h),rfl⟩
 ·have h1:(bits .and .u32 (x:Int) 1==1)=false:=by rw[qwx hx,show x%2=0 by omega];rfl
  go_enter Tryz.func303,Tryz.ntmps303;go_wp2
  go_ret;exact⟨qfz (qs9 Zo),rfl⟩
theorem q6y(b:Nat)(w:World)(hb:b<256):
  Calls Tryz.prog 237 #[.int .u8 (b:Int)] w λe w'=>e= .returned (.int .u32 (qcx 8 b:Nat))/\w=w':=by
 go_enter Tryz.func237,Tryz.ntmps237;go_wp2
 go_loop [3,6] (λx' k=>∃j y:Nat,j<=8/\y<4294967296/\Hid (qcx (8 - j) y=qcx 8 b)/\k= .int .i64 (j:Int)/\x'= .int .u32 (y:Int)) (λ_ k=>8 - (intOf k).toNat)
 case atStart=>exact⟨0,b,Zo,Zo,waa rfl,rfl,rfl⟩
 case round=>
  obtain⟨j,y,hj,hy,he,rfl,rfl⟩:=hrel;by_cases hlt:j<8
  ·have he2:Hid (qcx (8 - (j+1)) (half y)=qcx 8 b):=waa (by rw[<-he.out,show 8 - j=8 - (j+1)+1 by omega];rfl)
   clear he;go_wp2_with (go_at_call 303;refine(q0a y _ hy).mono ?_;rintro e w' ⟨rfl,rfl⟩)
   go_round
   case rel=>exact⟨j+1,half y,Zo,qla hy,he2,by go_num,rfl⟩
   case measure=>simp[intOf];omega
  ·obtain rfl:j=8:=Zo
   have hs:Hid (y=qcx 8 b):=waa he.out;clear he;go_wp2
   go_ret;exact⟨qfz (by rw[hs.out]),rfl⟩
theorem qabl{x b:Nat}{i:Int}(w:World)(hi:i=((x%256 ^^^ b:Nat):Int))(hb:b<256):
  Calls Tryz.prog 237 #[.int .u8 i] w λe w'=>e= .returned (.int .u32 (qcx 8 (x%256 ^^^ b):Nat))/\w=w':=by
 subst hi;exact q6y _ w (wfc (n:=8) (wcn _ Zo) hb)
theorem qaah{x b:Nat}(hx:x<4294967296)(hb:b<256):bits .xor .u32 ((x:Int)/256) ((qcx 8 (x%256 ^^^ b):Nat):Int)=(addB x b:Nat):=by
 have:=u32_xor_nat (x/256) (qcx 8 (x%256 ^^^ b)) Zo (qaba hb)
 rw[q4u x b hb,<-this];rfl
theorem q98(x b:Nat)(w:World)(hx:x<4294967296)(hb:b<256):
  Calls Tryz.prog 179 #[.int .u32 (x:Int),.int .u8 (b:Int)] w λe w'=>e= .returned (.int .u32 (addB x b:Nat))/\w=w':=by
 go_enter Tryz.func179,Tryz.ntmps179;go_wp2_with (go_at_call 237;refine(qabl (x:=x) (b:=b) _ (by first|exact u8_xor_nat (x%256) b Zo hb|(rw[show((x:Int)%256)=((x%256:Nat):Int) by omega];exact u8_xor_nat (x%256) b Zo hb)) hb).mono ?_;rintro e w' ⟨rfl,rfl⟩)
 go_ret;exact⟨qfz (qaah hx hb),rfl⟩
theorem qxw(A:Option Addr)(c:Nat)(l:List Nat)(w:World)(hr:Rd w A l.length (u8V l))(hm:l.length<=9223372036854775807)(hl:∀b∈l,b<256):
  Calls Tryz.prog 159 #[.slice A l.length c] w λe w'=>e= .returned (.int .u32 (crcB l:Nat))/\w=w':=by
 go_enter Tryz.func159,Tryz.ntmps159;go_wp2
 go_loop [3,4,5] (λx' k _=>∃j y:Nat,j<=l.length/\y<4294967296/\Hid (sumL y (l.drop j)=sumL 4294967295 l)/\k= .int .i64 (j:Int)/\x'= .int .u32 (y:Int)) (λ_ k _=>l.length - (intOf k).toNat)
 case atStart=>exact⟨0,4294967295,Zo,Zo,waa rfl,rfl,rfl⟩
 case round=>
  obtain⟨j,y,hj,hy,he,rfl,rfl⟩:=hrel;by_cases hlt:j<l.length
  ·obtain⟨p,b,rfl,hd,hb,hcw⟩:=hr.u8_at hlt
   have hb':=hl b hb;rw[hd] at he;have hz:(0:Int)<=(j:Int):=Zo
   have hz2:(j:Int)<(l.length:Int):=Zo
   clear hd hb;go_wp2
   go_loop [3,5] (λx' k=>∃i z:Nat,i<=8/\z<4294967296/\Hid (qcx (8 - i) z=addB y b)/\k= .int .i64 (i:Int)/\x'= .int .u32 (z:Int)) (λ_ k=>8 - (intOf k).toNat)
   case atStart=>exact⟨0,y ^^^ b,Zo,qle hy hb',waa rfl,rfl,qn5 (u32_xor_nat y b hy Zo)⟩
   case round=>
    obtain⟨i,z,hi,hz1,hh,rfl,rfl⟩:=hrel;by_cases hlt8:i<8
    ·have hh2:Hid (qcx (8 - (i+1)) (half z)=addB y b):=waa (by rw[<-hh.out,show 8 - i=8 - (i+1)+1 by omega];rfl)
     clear hh;by_cases h:z%2=1
     ·have h1:=waa (qtt hz1 h)
      go_wp2
      go_round
      case rel=>exact⟨i+1,half z,Zo,qla hz1,hh2,by go_num,qn5 h1.out⟩
      case measure=>simp[intOf];omega
     ·have h1:=waa (qs9 (show z%2=0 by omega))
      go_wp2
      go_round
      case rel=>exact⟨i+1,half z,Zo,qla hz1,hh2,by go_num,qn5 h1.out⟩
      case measure=>simp[intOf];omega
    ·obtain rfl:i=8:=Zo
     have hs:Hid (sumL z (l.drop (j+1))=sumL 4294967295 l):=waa (by rw[<-he.out,show z=addB y b from hh.out];rfl);clear hh he;go_wp2
     go_round
     case rel=>exact⟨j+1,z,Zo,hz1,hs,by go_num,rfl⟩
     case measure=>simp[intOf];omega
  ·have e1:l.drop j=[]:=wbn Zo
   rw[e1] at he;have hs:Hid (crcB l=4294967295 - y):=waa (by unfold crcB;rw[<-he.out];rfl);clear he e1;go_wp2
   go_ret;exact⟨qfz (by rw[hs.out];exact qry hy),rfl⟩
theorem q5l(A:Option Addr)(c:Nat)(l:List Nat)(w:World)(hr:Rd w A l.length (u64V l))(hm:l.length<=9223372036854775807)(hl:∀b∈l,b<18446744073709551616):
  Calls Tryz.prog 142 #[.slice A l.length c] w λe w'=>e= .returned (.int .u32 (crcW l:Nat))/\w=w':=by
 go_enter Tryz.func142,Tryz.ntmps142;go_wp2
 go_loop [3,5,8,12] (λx' _ k _=>∃j y:Nat,j<=l.length/\y<4294967296/\Hid (sumL y (qcp (l.drop j))=sumL 4294967295 (qcp l))/\k= .int .i64 (j:Int)/\x'= .int .u32 (y:Int)) (λ_ _ k _=>l.length - (intOf k).toNat)
 case atStart=>exact⟨0,4294967295,Zo,Zo,waa rfl,rfl,rfl⟩
 case round=>
  obtain⟨j,y,hj,hy,he,rfl,rfl⟩:=hrel;by_cases hlt:j<l.length
  ·obtain⟨p,v,rfl,hd,hv,hcw⟩:=hr.u64_at hlt
   have hv':=hl v hv;rw[hd,qnt] at he;have hz:(0:Int)<=(j:Int):=Zo
   have hz2:(j:Int)<(l.length:Int):=Zo
   clear hd hv;go_wp2
   go_loop [3,5,12] (λx' v' k=>∃i z u:Nat,i<=8/\z<4294967296/\u<18446744073709551616/\Hid (sumL z (qf8 (8 - i) u++qcp (l.drop (j+1)))=sumL 4294967295 (qcp l))/\k= .int .i64 (i:Int)/\x'= .int .u32 (z:Int)/\v'= .int .u64 (u:Int)) (λ_ _ k=>8 - (intOf k).toNat)
   case atStart=>exact⟨0,y,v,Zo,hy,hv',he,rfl,rfl,rfl⟩
   case round=>
    obtain⟨i,z,u,hi,hz1,hu,hh,rfl,rfl,rfl⟩:=hrel;by_cases hlt8:i<8
    ·have hh2:Hid (sumL (addB z (u%256)) (qf8 (8 - (i+1)) (u/256)++qcp (l.drop (j+1)))=sumL 4294967295 (qcp l)):=waa (by rw[<-hh.out,show 8 - i=8 - (i+1)+1 by omega];rfl)
     clear hh;go_wp2_with (go_at_call 179;refine(q98 z (u%256) _ hz1 Zo).mono ?_;rintro e w' ⟨rfl,rfl⟩)
     go_round
     case rel=>exact⟨i+1,addB z (u%256),u/256,Zo,qaau hz1 Zo,Zo,hh2,by go_num,rfl,by go_num⟩
     case measure=>simp[intOf];omega
    ·obtain rfl:i=8:=Zo
     have hs:Hid (sumL z (qcp (l.drop (j+1)))=sumL 4294967295 (qcp l)):=hh;clear hh he;go_wp2
     go_round
     case rel=>exact⟨j+1,z,Zo,hz1,hs,by go_num,rfl⟩
     case measure=>simp[intOf];omega
  ·have e1:l.drop j=[]:=wbn Zo
   rw[e1] at he;have hs:Hid (crcW l=4294967295 - y):=waa (by unfold crcW crcB;rw[<-he.out];rfl);clear he e1;go_wp2
   go_ret;exact⟨qfz (by rw[hs.out];exact q9w hy),rfl⟩
set_option maxRecDepth 100000 in
theorem qwt(A:Option Addr)(c:Nat)(l:List Nat)(w:World)(hr:Rd w A l.length (u64V l))(hm:l.length<=300)(hl:∀b∈l,b<18446744073709551616):
  Calls Tryz.prog 117 #[.slice A l.length c] w λe w'=>e= .returned (.int .u32 (crcW l:Nat))/\Below w.heap.size w w':=by
 obtain⟨i0,ii,iz0,iz1,iz2⟩:=info_parts q93;go_enter Tryz.func117,Tryz.ntmps117;go_wp2
 go_loopw [3,4,5,6] (λv k _ _ wr=>∃(j:Nat) (L:List Nat),j<=l.length/\k= .int .i64 (j:Int)/\L.length<=8*j/\Hid (L++qcp (l.drop j)=qcp l)/\wr.ownsRow w.heap.size 5 1 v L.length (u8V L)/\Below w.heap.size w wr) (λ_ k _ _ _=>l.length - (intOf k).toNat)
 case atStart=>exact⟨0,[],Zo,rfl,by simp,waa rfl,wa9 _ _ _ _,wac _ _⟩
 case round=>
  rename_i wr
  obtain⟨j,L,hj,rfl,hL,he,hrow,hB⟩:=hrel;by_cases hlt:j<l.length
  ·obtain⟨p,v,rfl,hd,hv,hcw⟩:=hr.u64_at hlt
   have hc:=(hB.cell (p:=p.add j) (wak w _ hcw)).trans hcw;have hv':=hl v hv;rw[hd,qnt] at he;have hz:(0:Int)<=(j:Int):=Zo
   have hz2:(j:Int)<(l.length:Int):=Zo
   clear hd hv;go_wp2
   go_loopw [3,5,6] (λv' x' k wr2=>∃(i u:Nat) (M:List Nat) (W:World),W=wr2/\i<=8/\k= .int .i64 (i:Int)/\x'= .int .u64 (u:Int)/\u<18446744073709551616/\M.length<=8*j+i/\Hid (M++(qf8 (8 - i) u++qcp (l.drop (j+1)))=qcp l)/\W.ownsRow w.heap.size 5 1 v' M.length (u8V M)/\Below w.heap.size w W) (λ_ _ k _=>8 - (intOf k).toNat)
   case atStart=>exact⟨0,v,L,_,rfl,Zo,rfl,rfl,hv',hL,he,hrow,hB⟩
   case round=>
    obtain⟨i,u,M,wr2,rfl,hi,rfl,rfl,hu,hM,hh,hrow2,hB2⟩:=hrel;by_cases hlt8:i<8
    ·have hh2:Hid ((M++[u%256])++(qf8 (8 - (i+1)) (u/256)++qcp (l.drop (j+1)))=qcp l):=waa (by rw[<-hh.out,show 8 - i=8 - (i+1)+1 by omega,wbm];rfl)
     clear hh;have hsz:=hB2.size;go_wp2_with (first|(at_builtin;go_loud (refine wpList_append_own _ rfl _ _ 219 rfl w.heap.size 5 i0 (.int .u8 0) 1 1 Tryz.underlying219 ii iz0 iz1 iz2 rfl Zd _ _ _ rfl (hrow2.alloc _) ⟨wr2.heap.size,0,none⟩ 1 1 [.int .u8 ((u%256:Nat):Int)] rfl rfl (qd3 Zs _ _) (by simp[Value.oneCell']) (by simp only[maxLen];omega) Zo Zx ?_;intro v' w1 hown' hgrow _;have hB3:=((hB2.alloc hsz (.cells #[.int .u8 ((u%256:Nat):Int)] 5)).grown hgrow Zx (qa0 hrow2)))))
     go_roundw
     case rel=>exact⟨i+1,u/256,M++[u%256],_,rfl,Zo,by go_num,by go_num,Zo,by simp;omega,hh2,by rw[q58];simpa using hown',hB3⟩
     case measure=>simp[intOf];omega
    ·obtain rfl:i=8:=Zo
     have hs:Hid (M++qcp (l.drop (j+1))=qcp l):=hh;clear hh he;go_wp2
     go_roundw
     case rel=>exact⟨j+1,M,Zo,by go_num,Zo,hs,hrow2,hB2⟩
     case measure=>simp[intOf];omega
  ·have e1:l.drop j=[]:=wbn Zo
   rw[e1,q0v,wbl] at he;obtain⟨A1,c1,rfl,hR⟩:=Rd.of_own hrow;have hs:Hid (crcB L=crcW l):=waa (by unfold crcW;rw[<-he.out]);have hb:∀b∈L,b<256:=by rw[he.out];exact q7a l
   clear he e1;go_wp2_with (go_at_call 159;refine(qxw _ _ L _ hR Zo hb).mono ?_;rintro e w' ⟨rfl,rfl⟩)
   go_ret;exact⟨qfz (by rw[hs.out]),hB⟩
theorem q6i(n s:Nat)(hn:n<=300)(hs:s<4294967296):bits .or .u64 (bits .or .u64 9223372036854775808 ((n:Int)%2147483648*4294967296)) (s:Int)=((9223372036854775808+n%2147483648*4294967296+s:Nat):Int):=by
 have h1:=u64_or_nat 9223372036854775808 (n%2147483648*4294967296) Zo Zo;have e1:((n%2147483648*4294967296:Nat):Int)=(n:Int)%2147483648*4294967296:=Zo
 have e2:9223372036854775808|||(n%2147483648*4294967296)=9223372036854775808+n%2147483648*4294967296:=by
  have:=wgw (i:=63) (b:=n%2147483648*4294967296) Zo 1
  simpa using this.symm
 rw[e1,e2] at h1;have h2:=u64_or_nat (9223372036854775808+n%2147483648*4294967296) s Zo Zo;have e3:(9223372036854775808+n%2147483648*4294967296)|||s=9223372036854775808+n%2147483648*4294967296+s:=by
  have:=wgw (i:=32) (b:=s) Zo (2147483648+n%2147483648)
  rw[show 2 ^ 32*(2147483648+n%2147483648)=9223372036854775808+n%2147483648*4294967296 by omega] at this;exact this.symm
 rw[e3,<-h1] at h2;exact h2
theorem qn0(A:Option Addr)(c:Nat)(l:List Nat)(w:World)(hr:Rd w A l.length (u64V l))(hm:l.length<=300)(hl:∀b∈l,b<18446744073709551616):
  Calls Tryz.prog 172 #[.slice A l.length c] w λe w'=>e= .returned (.int .u64 (qbo l:Nat))/\w=w':=by
 have hlt:=qf0 l;go_enter Tryz.func172,Tryz.ntmps172;go_wp2_with (go_at_call 142;refine(q5l A c l _ hr Zo hl).mono ?_;rintro e w' ⟨rfl,rfl⟩)
 go_ret;exact⟨qb9 (q6i _ _ hm hlt),rfl⟩
theorem qli(A:Option Addr)(c:Nat)(l:List Nat)(w:World)(hr:Rd w A l.length (u64V l))(hm:l.length<=300)(hl:∀b∈l,b<18446744073709551616):
  Calls Tryz.prog 97 #[.slice A l.length c] w λe w'=>e= .returned (.int .u64 (qbo l:Nat))/\Below w.heap.size w w':=by
 have hlt:=qf0 l;go_enter Tryz.func97,Tryz.ntmps97;go_wp2_with (go_at_call 117;refine(qwt A c l _ hr Zo hl).mono ?_;rintro e w' ⟨rfl,hB⟩)
 go_ret;exact⟨qb9 (by unfold qbo;omega),hB⟩
end Go.Proofs.YtocncmbeinmiaaaGreat
