/- Parts. No condition. -/
import Derived.Test.YtocncmbeinmiaaaGreatJoinU13
set_option linter.unusedVariables false
set_option maxRecDepth 100000
set_option maxHeartbeats 8000000
namespace Go.Proofs.YtocncmbeinmiaaaGreat
open Go Go.RowKit
def szN(c:Int):Int:=if c=0 then 2 else if c=1 then 4 else if c=2 then 8 else if c=3 then 16 else 0
def clN(n:Int):Int:=if 1<=n/\n<=255 then(if n<=1 then 0 else if n<=3 then 1 else if n<=7 then 2 else if n<=15 then 3 else 4) else -1
def spN(n:Int):Int:=if 16<=n/\n<=255 then(n+64)/64 else 0
theorem qmm(c:Int):0<=szN c/\szN c<=16:=by
 unfold szN
 (repeat' split)<;>omega
theorem qth{c:Int}(h:¬(0<=c/\c<4)):szN c=0:=by
 unfold szN;rw[if_neg Zo,if_neg Zo,if_neg Zo,if_neg Zo]
theorem qra{n:Int}(h:¬(1<=n/\n<=255)):clN n= -1:=if_neg h
theorem q4n{n c:Int}(h0:1<=n/\n<=255)(c0:0<=c)(c1:c<4)(hl:c=0\/szN (c - 1)<1+n)(hs:1+n<=szN c):clN n=c:=by
 unfold clN;rw[if_pos h0];have:c=0\/c=1\/c=2\/c=3:=Zo
 rcases this with rfl|rfl|rfl|rfl<;>simp[szN] at hl hs<;>(repeat' split)<;>omega
theorem qv8{n:Int}(h0:1<=n/\n<=255)(hl:szN 3<1+n):clN n=4:=by
 unfold clN;simp[szN] at hl
 rw[if_pos h0];repeat' split
 all_goals omega
theorem qo8{n:Int}(h:clN n=4):16<=n/\n<=255:=by
 unfold clN at h;revert h
 repeat' split
 all_goals omega
theorem qh1{n:Int}(h:16<=n/\n<=255):clN n=4:=by
 unfold clN;rw[if_pos Zo,if_neg Zo,if_neg Zo,if_neg Zo,if_neg Zo]
theorem qp1{n:Int}(h:clN n≠4):spN n=0:=if_neg λx=>h (qh1 x)
theorem qtm(n:Int)(w:World):Calls Tryz.prog 238 #[.int .i64 n] w λe w'=>e= .returned (.bool (decide (1<=n/\n<=255)))/\w=w':=by
 by_cases h1:1<=n<;>by_cases h2:n<=255
 all_goals
  go_enter Tryz.func238,Tryz.ntmps238;go_wp2
  go_ret;exact⟨qab (by symm;first|(apply decide_eq_true;omega)|(apply decide_eq_false;omega)|(simp;omega)),rfl⟩
theorem qgp(n:Int)(w:World):Calls Tryz.prog 139 #[.int .i64 n] w λe w'=>e= .returned (.bool (decide (0<=n/\n<4)))/\w=w':=by
 by_cases h1:0<=n<;>by_cases h2:n<4
 all_goals
  go_enter Tryz.func139,Tryz.ntmps139;go_wp2
  go_ret;exact⟨qab (by symm;first|(apply decide_eq_true;omega)|(apply decide_eq_false;omega)|(simp;omega)),rfl⟩
theorem qig(n:Int)(w:World)(h0:1<=n)(h1:n<=255):Calls Tryz.prog 239 #[.int .i64 n] w λe w'=>e= .returned (.int .i64 (1+n))/\w=w':=by
 go_enter Tryz.func239,Tryz.ntmps239;go_wp2
 go_ret;exact⟨rfl,rfl⟩
theorem qge(c:Int)(w:World):Calls Tryz.prog 104 #[.int .i64 c] w λe w'=>e= .returned (.int .i64 (szN c))/\w=w':=by
 by_cases h:0<=c/\c<4
 ·have hs:∀w,Calls Tryz.prog 139 #[.int .i64 c] w λe w'=>e= .returned (.bool true)/\w=w':=λw=>by
   have:=qgp c w
   rwa [decide_eq_true h] at this
  have h4:c=0\/c=1\/c=2\/c=3:=Zo
  rcases h4 with rfl|rfl|rfl|rfl;all_goals
   clear h;go_enter Tryz.func104,Tryz.ntmps104;go_wp2_with (go_at_call 139;refine(hs _).mono ?_;rintro e w' ⟨rfl,rfl⟩)
   go_ret;exact⟨rfl,rfl⟩
 ·have hs:∀w,Calls Tryz.prog 139 #[.int .i64 c] w λe w'=>e= .returned (.bool false)/\w=w':=λw=>by
   have:=qgp c w
   rwa [decide_eq_false h] at this
  rw[qth h];clear h;go_enter Tryz.func104,Tryz.ntmps104;go_wp2_with (go_at_call 139;refine(hs _).mono ?_;rintro e w' ⟨rfl,rfl⟩)
  go_ret;exact⟨rfl,rfl⟩
def bkN(c:Int):Int:=if c=0 then 32 else if c=1 then 16 else if c=2 then 8 else if c=3 then 4 else 0
theorem q3x{c:Int}(h:¬(0<=c/\c<4)):bkN c=0:=by
 unfold bkN;rw[if_neg Zo,if_neg Zo,if_neg Zo,if_neg Zo]
theorem qhx(c:Int)(w:World):Calls Tryz.prog 96 #[.int .i64 c] w λe w'=>e= .returned (.int .i64 (bkN c))/\w=w':=by
 by_cases h:0<=c/\c<4
 ·have hs:∀w,Calls Tryz.prog 139 #[.int .i64 c] w λe w'=>e= .returned (.bool true)/\w=w':=λw=>by
   have:=qgp c w
   rwa [decide_eq_true h] at this
  have h4:c=0\/c=1\/c=2\/c=3:=Zo
  rcases h4 with rfl|rfl|rfl|rfl;all_goals
   clear h;go_enter Tryz.func96,Tryz.ntmps96;go_wp2_with (first|(go_at_call 139;refine(hs _).mono ?_;rintro e w' ⟨rfl,rfl⟩)|(go_at_call 104;refine(qge _ _).mono ?_;rintro e w' ⟨rfl,rfl⟩))
   go_ret;exact⟨qbz (by first|decide+kernel|kernel_rfl),rfl⟩
 ·have hs:∀w,Calls Tryz.prog 139 #[.int .i64 c] w λe w'=>e= .returned (.bool false)/\w=w':=λw=>by
   have:=qgp c w
   rwa [decide_eq_false h] at this
  rw[q3x h];clear h;go_enter Tryz.func96,Tryz.ntmps96;go_wp2_with (go_at_call 139;refine(hs _).mono ?_;rintro e w' ⟨rfl,rfl⟩)
  go_ret;exact⟨rfl,rfl⟩
theorem qow(n:Int)(w:World):Calls Tryz.prog 180 #[.int .i64 n] w λe w'=>e= .returned (.int .i64 (clN n))/\w=w':=by
 by_cases h:1<=n/\n<=255
 ·have hs:∀w,Calls Tryz.prog 238 #[.int .i64 n] w λe w'=>e= .returned (.bool true)/\w=w':=λw=>by
   have:=qtm n w
   rwa [decide_eq_true h] at this
  have hat:=λc=>q4n (n:=n) (c:=c) h
  have hbig:=qv8 h;generalize hc:clN n=a at hat hbig;obtain⟨n0,n1⟩:=h;clear hc;go_enter Tryz.func180,Tryz.ntmps180;go_wp2_with (go_at_call 238;refine(hs _).mono ?_;rintro e w' ⟨rfl,rfl⟩)
  go_loop [7] (λk=>∃j:Nat,j<=4/\k= .int .i64 (j:Int)/\(j=0\/szN ((j:Int) - 1)<1+n)) (λk=>4 - (intOf k).toNat)
  case atStart=>exact⟨0,Zo,rfl,.inl rfl⟩
  case round=>
   obtain⟨j,hj,rfl,hl⟩:=hrel;obtain⟨z0,z1⟩:=qmm (j:Int);by_cases hlt:j<4
   ·have j0:(0:Int)<=(j:Int):=Zo
    have j1:(j:Int)<4:=Zo
    by_cases hr:1+n<=szN (j:Int)
    ·have ha:=waa (hat (j:Int) j0 j1 (hl.imp (λh=>by omega) id) hr)
     clear hat hbig;go_wp2_with (first|(go_at_call 239;refine(qig _ _ n0 n1).mono ?_;rintro e w' ⟨rfl,rfl⟩)|(go_at_call 104;refine(qge _ _).mono ?_;rintro e w' ⟨rfl,rfl⟩))
     go_ret;exact⟨qbz ha.out.symm,rfl⟩
    ·clear hat hbig
     go_wp2_with (first|(go_at_call 239;refine(qig _ _ n0 n1).mono ?_;rintro e w' ⟨rfl,rfl⟩)|(go_at_call 104;refine(qge _ _).mono ?_;rintro e w' ⟨rfl,rfl⟩))
     go_round
     case rel=>exact⟨j+1,Zo,by go_num,.inr (by rw[show(((j+1:Nat):Int) - 1)=(j:Int) by omega];omega)⟩
     case measure=>simp[intOf];omega
   ·obtain rfl:j=4:=Zo
    have ha:=waa (hbig (by rcases hl with h|h;exact absurd h Zo;exact h));clear hat hbig;go_wp2
    go_ret;exact⟨qbz ha.out.symm,rfl⟩
 ·have hs:∀w,Calls Tryz.prog 238 #[.int .i64 n] w λe w'=>e= .returned (.bool false)/\w=w':=λw=>by
   have:=qtm n w
   rwa [decide_eq_false h] at this
  rw[qra h];clear h;go_enter Tryz.func180,Tryz.ntmps180;go_wp2_with (go_at_call 238;refine(hs _).mono ?_;rintro e w' ⟨rfl,rfl⟩)
  go_ret;exact⟨rfl,rfl⟩
theorem qxt(n:Int)(w:World):Calls Tryz.prog 183 #[.int .i64 n] w λe w'=>e= .returned (.int .i64 (spN n))/\w=w':=by
 by_cases h:16<=n/\n<=255
 ·have hs:∀w,Calls Tryz.prog 180 #[.int .i64 n] w λe w'=>e= .returned (.int .i64 4)/\w=w':=λw=>by
   have:=qow n w
   rwa [qh1 h] at this
  rw[show spN n=(n+64)/64 from if_pos h];obtain⟨n0,n1⟩:=h;go_enter Tryz.func183,Tryz.ntmps183;go_wp2_with (first|(go_at_call 239;refine(qig _ _ Zo n1).mono ?_;rintro e w' ⟨rfl,rfl⟩)|(go_at_call 180;refine(hs _).mono ?_;rintro e w' ⟨rfl,rfl⟩))
  go_ret;exact⟨qbz Zo,rfl⟩
 ·have hn:clN n≠4:=λx=>h (qo8 x)
  rw[qp1 hn];have hl:=qow n;generalize hc:clN n=a at hn hl;clear hc h;go_enter Tryz.func183,Tryz.ntmps183;go_wp2_with (go_at_call 180;refine(hl _).mono ?_;rintro e w' ⟨rfl,rfl⟩)
  go_ret;exact⟨rfl,rfl⟩
theorem qi9(c:Int)(w:World):Calls Tryz.prog 137 #[.int .i64 c] w λe w'=>e= .returned (.int .i64 (szN c))/\Below w.heap.size w w':=by
 have hB:=(wac w.heap.size w).alloc (wab _) (.cells #[.int .i64 2,.int .i64 4,.int .i64 8,.int .i64 16] 3);by_cases h0:c<0
 ·rw[qth Zo]
  go_enter Tryz.func137,Tryz.ntmps137;go_wp2
  go_ret;exact⟨rfl,hB⟩
 ·by_cases h1:3<c
  ·rw[qth Zo]
   go_enter Tryz.func137,Tryz.ntmps137;go_wp2
   go_ret;exact⟨rfl,hB⟩
  ·have h4:c=0\/c=1\/c=2\/c=3:=Zo
   rcases h4 with rfl|rfl|rfl|rfl;all_goals
    clear h0 h1;go_enter Tryz.func137,Tryz.ntmps137;go_wp2
    go_ret;exact⟨rfl,hB⟩
abbrev HD:=Int×Int×Int
abbrev BL:=Int×Int×Int×Int
def hdB(h:HD):Bool:=qav h.1 h.2.1 h.2.2
def hdsB(s l r:Int)(hs:List HD):Bool:=mayB s l r&&(decide ((hs.length:Int)=s)&&hs.all hdB)
theorem hdsB_iff{s l r:Int}{hs:List HD}:hdsB s l r hs=true↔mayB s l r=true/\(hs.length:Int)=s/\∀h∈hs,hdB h=true:=by simp[hdsB,List.all_eq_true]
def qdk:Nat->Nat->List HD->Bool
 |_,0,_=>true
 |_,_+1,[]=>false
 |k,n+1,h::t=>decide (h.1=3/\h.2.2=(k:Int))&&qdk (k+1) n t
theorem qeo(k n:Nat)(h:HD)(t:List HD):qdk k (n+1) (h::t)=(decide (h.1=3/\h.2.2=(k:Int))&&qdk (k+1) n t):=rfl
theorem qs0:∀(n k:Nat) (t:List HD),runB (k:Int) ((k+n:Nat):Int) (t.take n)=qdk k n t
 |0,k,t=>by
  show decide (((k+0:Nat):Int)<=(k:Int))=true
  exact decide_eq_true Zo
 |n+1,k,[]=>by
  show decide (((k+(n+1):Nat):Int)<=(k:Int))=false
  exact decide_eq_false Zo
 |n+1,k,h::t=>by
  rw[wcf,qeo];by_cases h3:h.1=3/\h.2.2=(k:Int)
  ·rw[qqi h3.1 Zo h3.2,decide_eq_true h3,wcv,<-qs0 n (k+1) t]
   rw[show((k+(n+1):Nat):Int)=((k+1+n:Nat):Int) by omega];rfl
  ·rw[decide_eq_false h3,wdg]
   by_cases h1:h.1=3
   ·exact qic (.inl ⟨h1,λx=>h3 ⟨h1,x.2⟩⟩)
   ·exact qic (.inr ⟨h1,Zo⟩)
theorem qja:∀{n k:Nat} {t:List HD},t.length<n->qdk k n t=false
 |0,_,_,h=>by omega
 |_+1,_,[],_=>rfl
 |n+1,k,a::t,h=>by rw[qeo,qja (n:=n) (by simpa using h),wev]
def whoB(hs:List HD)(i:Nat):Bool:=match hs.drop i with
 |[]=>false
 |h::t=>if h.1=1 then true else if h.1=2 then qdk 1 (h.2.2.toNat - 1) t else false
def whoI(hs:List HD)(i:Int):Bool:=if 0<=i then whoB hs i.toNat else false
theorem qn7{hs t:List HD}{h:HD}{i:Nat}(hd:hs.drop i=h::t):whoB hs i=if h.1=1 then true else if h.1=2 then qdk 1 (h.2.2.toNat - 1) t else false:=by rw[whoB,hd]
theorem qsr{hs:List HD}{i:Nat}(h:hs.length<=i):whoB hs i=false:=by rw[whoB,wbn h]
theorem qgo{hs t:List HD}{h:HD}{i:Nat}(hd:hs.drop i=h::t)(h1:h.1=1):whoB hs i=true:=by rw[qn7 hd,if_pos h1]
theorem qey{hs t:List HD}{h:HD}{i:Nat}(hd:hs.drop i=h::t)(h1:h.1=2):whoB hs i=qdk 1 (h.2.2.toNat - 1) t:=by rw[qn7 hd,if_neg Zo,if_pos h1]
theorem qeb{hs t:List HD}{h:HD}{i:Nat}(hd:hs.drop i=h::t)(h1:h.1≠1)(h2:h.1≠2):whoB hs i=false:=by rw[qn7 hd,if_neg h1,if_neg h2]
theorem qiy(hs:List HD)(i:Nat):whoI hs (i:Int)=whoB hs i:=by rw[whoI,if_pos Zo,wam]
theorem qk1{hs:List HD}{i:Int}(h:i<0\/(hs.length:Int)<=i):whoI hs i=false:=by
 unfold whoI;split
 ·exact qsr Zo
 ·rfl
theorem qaar{h:HD}{t:List HD}{m:Nat}(h2:h.1=2)(hm:h.2.2=(m:Int))(h1:1<=m):runB 0 0 (h::t.take (m - 1))=qdk 1 (h.2.2.toNat - 1) t:=by
 rw[qnr h2 Zo,hm,wam,<-qs0 (m - 1) 1 t,show((1+(m - 1):Nat):Int)=(m:Int) by omega];rfl
theorem q8f{h:HD}{t:List HD}{m q:Nat}(h1:1<=m)(hq:q=m\/(q=t.length+1/\q<=m)):(h::t).take q=h::t.take (m - 1):=by
 rcases hq with rfl|⟨rfl,h2⟩
 ·obtain⟨k,rfl⟩:∃k,q=k+1:=⟨q - 1,Zo⟩
  rw[wcf];rfl
 ·rw[wcf,wa2 (wab _),wa2 Zo]
def adNb(h:HD):Int:=if h.1=2 then 1 else bkN h.2.1
def adWd(h:HD):Int:=if h.1=2 then h.2.2*64 else szN h.2.1
theorem qack(c:Int):0<=bkN c/\bkN c<=32:=by unfold bkN;(repeat' split)<;>omega
theorem qh9(h:HD):0<=adNb h/\adNb h<=32:=by unfold adNb;split;exact⟨Zo,Zo⟩;exact qack _
theorem qib{h:HD}(hm:hdB h=true):0<=adWd h/\adWd h<=256:=by
 have:=qd6 (k:=h.1) (c:=h.2.1) (n:=h.2.2) hm
 unfold adWd;split
 ·omega
 ·have:=qmm h.2.1;omega
theorem qiv{h:HD}(hm:hdB h=true)(h1:h.1=1):adNb h*adWd h=64/\2<=adWd h:=by
 have:=(hmay_iff (k:=h.1) (c:=h.2.1) (n:=h.2.2)).1 hm
 unfold adNb adWd;rw[if_neg Zo,if_neg Zo];rcases(by omega:h.2.1=0\/h.2.1=1\/h.2.1=2\/h.2.1=3) with e|e|e|e<;>rw[e]<;>decide
theorem qe8{h:HD}(hm:hdB h=true)(h1:h.1=2):adNb h=1/\adWd h=h.2.2*64/\1<=h.2.2/\h.2.2<=4:=by
 have:=(hmay_iff (k:=h.1) (c:=h.2.1) (n:=h.2.2)).1 hm
 unfold adNb adWd;rw[if_pos h1,if_pos h1];omega
def bls(a sp wd:Int)(n:Nat):List BL:=(List.range n).map λ(i:Nat)=>(a+(i:Int)*wd,sp,(i:Int),wd)
theorem qg7(a sp wd:Int)(n:Nat):bls a sp wd (n+1)=bls a sp wd n++[(a+(n:Int)*wd,sp,(n:Int),wd)]:=by simp[bls,List.range_succ]
theorem qv4(a sp wd:Int)(n:Nat):(bls a sp wd n).length=n:=by simp[bls]
theorem qwf{a sp wd:Int}{n:Nat}{b:BL}(h:b∈bls a sp wd n):∃i:Nat,i<n/\b=(a+(i:Int)*wd,sp,(i:Int),wd):=by
 obtain⟨i,hi,rfl⟩:=wav.1 h;exact⟨i,wcc.1 hi,rfl⟩
def qc6(s l r:Int)(hs:List HD)(j:Nat):List BL:=if whoB hs j=true then(match hs[j]? with|some h=>bls (qby s l r j) j (adWd h) (adNb h).toNat|none=>[]) else[]
theorem qhk{s l r:Int}{hs:List HD}{j:Nat}(h:whoB hs j=false):qc6 s l r hs j=[]:=if_neg (by rw[h];decide)
theorem qfn{s l r:Int}{hs:List HD}{j:Nat}{x:HD}(h:whoB hs j=true)(hx:hs[j]? =some x):qc6 s l r hs j=bls (qby s l r j) j (adWd x) (adNb x).toNat:=by
 rw[qc6,if_pos h,hx]
theorem qgm{s l r:Int}{hs:List HD}{j:Nat}{b:BL}(hb:b∈qc6 s l r hs j):∃h,hs[j]? =some h/\whoB hs j=true/\∃i:Nat,(i:Int)<adNb h/\b=(qby s l r j+(i:Int)*adWd h,(j:Int),(i:Int),adWd h):=by
 cases hw:whoB hs j with
 |false=>rw[qhk hw] at hb;cases hb
 |true=>
  cases hx:hs[j]? with
  |none=>rw[qc6,if_pos hw,hx] at hb;cases hb
  |some h=>
   rw[qfn hw hx] at hb;obtain⟨i,hi,rfl⟩:=qwf hb;exact⟨h,rfl,rfl,i,Zo,rfl⟩
theorem qy0(s l r:Int)(hs:List HD)(j:Nat):(qc6 s l r hs j).length<=32:=by
 unfold qc6;split
 ·split
  ·rename_i h _
   rw[qv4];have:=qh9 h
   omega
  ·simp
 ·simp
def qas(s l r:Int)(hs:List HD)(j:Nat):List BL:=(List.range j).flatMap (qc6 s l r hs)
theorem qdz(s l r:Int)(hs:List HD)(j:Nat):qas s l r hs (j+1)=qas s l r hs j++qc6 s l r hs j:=by simp[qas,List.range_succ]
theorem qm4(s l r:Int)(hs:List HD)(j:Nat):(qas s l r hs j).length<=32*j:=by
 induction j with
 |zero=>simp[qas]
 |succ j ih=>
  rw[qdz,was];have:=qy0 s l r hs j
  omega
theorem qyd{s l r:Int}{hs:List HD}{j n:Nat}(h:j<=n):qas s l r hs j<+:qas s l r hs n:=by
 induction n with
 |zero=>
   obtain rfl:j=0:=Zo
   exact wee _
 |succ n ih=>
  by_cases hj:j<=n
  ·rw[qdz]
   exact(ih hj).trans (wg5 _ _)
  ·obtain rfl:j=n+1:=Zo
   exact wee _
theorem q9u(a sp wd:Int){i n:Nat}(h:i<=n):bls a sp wd i<+:bls a sp wd n:=by
 induction n with
 |zero=>
   obtain rfl:i=0:=Zo
   exact wee _
 |succ n ih=>
  by_cases hj:i<=n
  ·rw[qg7]
   exact(ih hj).trans (wg5 _ _)
  ·obtain rfl:i=n+1:=Zo
   exact wee _
def qbd(s l r:Int)(hs:List HD):List BL:=if hdsB s l r hs=true then qas s l r hs hs.length else[]
theorem qd9{s l r:Int}{hs:List HD}(h:hdsB s l r hs=true):qbd s l r hs=qas s l r hs hs.length:=if_pos h
theorem qg9{s l r:Int}{hs:List HD}(h:hdsB s l r hs=false):qbd s l r hs=[]:=if_neg (by rw[h];decide)
theorem qfb(s l r:Int)(hs:List HD):(qbd s l r hs).length<=512:=by
 cases h:hdsB s l r hs with
 |false=>rw[qg9 h];simp
 |true=>
  rw[qd9 h];obtain⟨h0,h1,-⟩:=hdsB_iff.1 h;have:=mayB_iff.1 h0
  have:=qm4 s l r hs hs.length
  omega
theorem q5m{s l r:Int}{hs:List HD}{j i:Nat}{x:HD}(hj:j<hs.length)(hw:whoB hs j=true)(hx:hs[j]? =some x)(hi:(i:Int)<=adNb x):qas s l r hs j++bls (qby s l r j) j (adWd x) i<+:qas s l r hs hs.length:=by
 refine List.IsPrefix.trans ?_ (qyd (show j+1<=hs.length by omega));rw[qdz,qfn hw hx];exact(List.prefix_append_right_inj _).2 (q9u _ _ _ Zo)
theorem qrx{s l r:Int}{hs:List HD}{j:Nat}{x:HD}(hw:whoB hs j=true)(hx:hs[j]? =some x){i:Nat}(hi:(i:Int)=adNb x):qas s l r hs j++bls (qby s l r j) j (adWd x) i=qas s l r hs (j+1):=by
 rw[qdz,qfn hw hx,<-hi,wam]
theorem qnc{s l r:Int}{hs:List HD}{n:Nat}{b:BL}(hb:b∈qas s l r hs n):∃j,j<n/\b∈qc6 s l r hs j:=by
 obtain⟨j,hj,h⟩:=wdk.1 hb;exact⟨j,wcc.1 hj,h⟩
theorem qo3{s l r:Int}{hs:List HD}{b:BL}(hb:b∈qbd s l r hs):hdsB s l r hs=true/\∃j,j<hs.length/\b∈qc6 s l r hs j:=by
 cases h:hdsB s l r hs with
 |false=>rw[qg9 h] at hb;cases hb
 |true=>rw[qd9 h] at hb;exact⟨rfl,qnc hb⟩
theorem qf1{s l r:Int}{j:Nat}(hm:mayB s l r=true)(hj:(j:Int)<s):qby s l r j=16+40*l+8*s+64*(j:Int):=if_pos ⟨hm,Zo,hj⟩
theorem q9o{h:HD}(hm:hdB h=true){i:Nat}(hi:(i:Int)<adNb h)(h0:0<=adWd h):(i:Int)*adWd h+adWd h<=adNb h*adWd h:=by
 have:((i:Int)+1)*adWd h<=adNb h*adWd h:=wef Zo h0
 rw[wdh,weg] at this;exact this
theorem qp5{p:BL->Bool}{L:List BL}(h:∀b∈L,p b=false):L.find? p=none:=wed.2 (λb hb=>by rw[h b hb];decide)
theorem qrq{p:BL->Bool}{L pre:List BL}{b:BL}(hp:pre++[b]<+:L)(h0:∀x∈pre,p x=false)(h1:p b=true):L.find? p=some b:=by
 obtain⟨r,rfl⟩:=hp;rw[List.find?_append,List.find?_append,qp5 h0];simp[h1]
def pAt(a:Int)(b:BL):Bool:=decide (b.1=a)
def qxh:Option BL->Ending
 |some b=> .returned (.tuple #[.agg #[.int .i64 b.2.1,.int .i64 b.2.2.1,.int .i64 b.2.2.2],.bool true])
 |none=> .returned (.tuple #[.agg #[.int .i64 0,.int .i64 0,.int .i64 0],.bool false])
def qbs(r s n:Int):Bool:=decide (1<=n/\n<=255/\0<=s/\s<=n/\0<=r/\r<=65535)
theorem bmay_iff{r s n:Int}:qbs r s n=true↔1<=n/\n<=255/\0<=s/\s<=n/\0<=r/\r<=65535:=by simp[qbs]
def qdt(r s n:Int):Bool:=decide (r=0/\s=0/\n=0)
theorem bzero_iff{r s n:Int}:qdt r s n=true↔r=0/\s=0/\n=0:=by simp[qdt]
theorem q53{r s n:Int}(h:qbs r s n=true):qdt r s n=false:=by
 rw[<-wby,bzero_iff];have:=bmay_iff.1 h
 omega
def bW(r s n:Int):Nat:=(r+65536*s+16777216*n).toNat
theorem qh4{r s n:Int}(h:qbs r s n=true):((bW r s n:Nat):Int)=r+65536*s+16777216*n:=by
 have:=bmay_iff.1 h
 unfold bW;omega
theorem q9r{r s n:Int}(h:qbs r s n=true):bW r s n<4294967296/\0<bW r s n:=by
 have:=bmay_iff.1 h
 have:=qh4 h
 omega
theorem qw2{r s n:Int}(h:qbs r s n=true):((bW r s n%65536:Nat):Int)=r/\((bW r s n/65536%256:Nat):Int)=s/\((bW r s n/16777216%256:Nat):Int)=n:=by
 have h1:=bmay_iff.1 h;have h2:=qh4 h;generalize bW r s n=x at h2 ⊢;omega
theorem qyx{a b c:Nat}(ha:a<65536)(hb:b<256)(hc:c<256):qda 0 0 [16,8,8] [a,b,c]=some (a+65536*b+16777216*c):=by
 have e1:=qbw (x:=0) (a:=0) (ws:=[8,8]) (vs:=[b,c]) (k:=16) (qb7 Zo Zo) (show a<2 ^ 16 from ha);rw[qcv Zo Zo ha] at e1;have e2:=qbw (x:=0+a*2 ^ 0) (a:=0+16) (ws:=[8]) (vs:=[c]) (k:=8) (qb7 Zo Zo) (show b<2 ^ 8 from hb);rw[qcv Zo Zo hb] at e2;have e3:=qbw (x:=0+a*2 ^ 0+b*2 ^ (0+16)) (a:=0+16+8) (ws:=[]) (vs:=[]) (k:=8) (qb7 Zo Zo) (show c<2 ^ 8 from hc);rw[qcv Zo Zo hc] at e3;refine e1.trans (e2.trans (e3.trans ?_));show some _=some _
 congr 1
 omega
theorem qqd:endL 0 [16,8,8]=some 32:=by decide
theorem qv1{x:Nat}(h:x<4294967296):qdg x [16,8,8]=some [x%65536,x/65536%256,x/16777216%256]:=by
 rw[qff qqd (wgx h)];simp[qd4,getN]
theorem qn6{x:Nat}(h:¬x<4294967296):qdg x [16,8,8]=none:=by
 refine qhv qqd ?_;have e:(2:Nat) ^ 32=4294967296:=by decide
 rw[e];omega
def BHit(x:Nat)(c r s n:Int):Prop:=(x=0/\qdt r s n=true)\/(qbs r s n=true/\bW r s n=x/\clN n=c)
theorem BHit.told{x:Nat}{c r s n:Int}(h:BHit x c r s n):x<4294967296/\((x%65536:Nat):Int)=r/\((x/65536%256:Nat):Int)=s/\((x/16777216%256:Nat):Int)=n:=by
 rcases h with ⟨rfl,h⟩|⟨h1,rfl,_⟩
 ·have:=bzero_iff.1 h
  omega
 ·have:=qw2 h1
  have:=q9r h1
  omega
theorem BHit.one{x:Nat}{c r s n r' s' n':Int}(h:BHit x c r s n)(h':BHit x c r' s' n'):r'=r/\s'=s/\n'=n:=by
 obtain⟨-,a,b,d⟩:=h.told;obtain⟨-,a',b',d'⟩:=h'.told;exact⟨a'.symm.trans a,b'.symm.trans b,d'.symm.trans d⟩
theorem BHit.no{x:Nat}{c:Int}(h:¬BHit x c ((x%65536:Nat):Int) ((x/65536%256:Nat):Int) ((x/16777216%256:Nat):Int)):∀r s n,¬BHit x c r s n:=λr s n hh=>by
 obtain⟨-,a,b,d⟩:=hh.told;rw[a,b,d] at h;exact h hh
theorem BHit.big{x:Nat}{c:Int}(h:¬x<4294967296):∀r s n,¬BHit x c r s n:=λr s n hh=>h hh.told.1
theorem BHit.zero(c:Int):BHit 0 c 0 0 0:= .inl ⟨rfl,by decide⟩
theorem BHit.fields{x:Nat}{c:Int}(hx:x<4294967296)(h:qbs ((x%65536:Nat):Int) ((x/65536%256:Nat):Int) ((x/16777216%256:Nat):Int)=true)(hc:clN ((x/16777216%256:Nat):Int)=c):BHit x c ((x%65536:Nat):Int) ((x/65536%256:Nat):Int) ((x/16777216%256:Nat):Int):=by
 refine .inr ⟨h,?_,hc⟩;have:=qh4 h
 omega
theorem BHit.nofields{x:Nat}{c r s n:Int}(hz:qdt r s n=false)(h:qbs r s n=false\/clN n≠c):¬BHit x c r s n:=by
 rintro(⟨_,h1⟩|⟨h1,_,h2⟩)
 ·rw[hz] at h1;cases h1
 ·rcases h with h|h
  ·rw[h] at h1;cases h1
  ·exact h h2
theorem qv0{x:Nat}(hx:x<4294967296)(h:qdt ((x%65536:Nat):Int) ((x/65536%256:Nat):Int) ((x/16777216%256:Nat):Int)=true):x=0:=by
 have:=bzero_iff.1 h
 omega
def BlockE(x:Nat)(c:Int)(e:Ending):Prop:=(∃r s n,BHit x c r s n/\e= .returned (.tuple #[.agg #[.int .i64 r,.int .i64 s,.int .i64 n],.int .i64 0]))\/((∀r s n,¬BHit x c r s n)/\e= .returned (.tuple #[.agg #[.int .i64 0,.int .i64 0,.int .i64 0],.int .i64 11]))
def RBlockE(x:Nat)(c:Int)(e:Ending):Prop:=(∃r s n,BHit x c r s n/\e= .returned (.tuple #[.agg #[.int .i64 r,.int .i64 s,.int .i64 n],.bool true]))\/((∀r s n,¬BHit x c r s n)/\e= .returned (.tuple #[.agg #[.int .i64 0,.int .i64 0,.int .i64 0],.bool false]))
theorem BlockE.is{x:Nat}{e:Ending}{c r s n:Int}(h:BlockE x c e)(hh:BHit x c r s n):e= .returned (.tuple #[.agg #[.int .i64 r,.int .i64 s,.int .i64 n],.int .i64 0]):=by
 rcases h with ⟨r',s',n',h',rfl⟩|⟨h',_⟩
 ·obtain⟨rfl,rfl,rfl⟩:=hh.one h';rfl
 ·exact absurd hh (h' r s n)
theorem BlockE.isno{x:Nat}{c:Int}{e:Ending}(h:BlockE x c e)(hh:∀r s n,¬BHit x c r s n):e= .returned (.tuple #[.agg #[.int .i64 0,.int .i64 0,.int .i64 0],.int .i64 11]):=by
 rcases h with ⟨r',s',n',h',rfl⟩|⟨_,h'⟩
 ·exact absurd h' (hh r' s' n')
 ·exact h'
theorem RBlockE.is{x:Nat}{e:Ending}{c r s n:Int}(h:RBlockE x c e)(hh:BHit x c r s n):e= .returned (.tuple #[.agg #[.int .i64 r,.int .i64 s,.int .i64 n],.bool true]):=by
 rcases h with ⟨r',s',n',h',rfl⟩|⟨h',_⟩
 ·obtain⟨rfl,rfl,rfl⟩:=hh.one h';rfl
 ·exact absurd hh (h' r s n)
theorem RBlockE.isno{x:Nat}{c:Int}{e:Ending}(h:RBlockE x c e)(hh:∀r s n,¬BHit x c r s n):e= .returned (.tuple #[.agg #[.int .i64 0,.int .i64 0,.int .i64 0],.bool false]):=by
 rcases h with ⟨r',s',n',h',rfl⟩|⟨_,h'⟩
 ·exact absurd h' (hh r' s' n')
 ·exact h'
def slN(s n:Int):Int:=max 0 (min s n)
theorem qabn{r s n:Int}(h:qbs r s n=true):slN s n=s:=by
 have:=bmay_iff.1 h
 unfold slN;omega
def fR(x:Nat):Int:=((x%65536:Nat):Int)
def fS(x:Nat):Int:=((x/65536%256:Nat):Int)
def fN(x:Nat):Int:=((x/16777216%256:Nat):Int)
def objB(x:Nat)(h:HD):Bool:=decide (qbs (fR x) (fS x) (fN x)=true/\bW (fR x) (fS x) (fN x)=x/\clN (fN x)=h.2.1/\(h.1=2->spN (fN x)=h.2.2))
theorem objB_iff{x:Nat}{h:HD}:objB x h=true↔qbs (fR x) (fS x) (fN x)=true/\bW (fR x) (fS x) (fN x)=x/\clN (fN x)=h.2.1/\(h.1=2->spN (fN x)=h.2.2):=by unfold objB;rw[decide_eq_true_eq]
def lvOf(x:Nat)(b:BL):LV:=⟨b.1,fR x,fS x,fN x,b.2.1,b.2.2.1,b.2.2.2⟩
def obB(l:Int)(hs:List HD)(ws:List Nat)(b:BL):Option LV:=match hs[b.2.1.toNat]? with
 |none=>none
 |some h=>if hasB (ws.getD (hdAt l b.2.1.toNat+1) 0) b.2.2.1=true/\objB (ws.getD b.1.toNat 0) h=true then some (lvOf (ws.getD b.1.toNat 0) b) else none
def obO(s l r:Int)(hs:List HD)(ws:List Nat)(x:Nat):Option LV:=((qbd s l r hs).find? (pAt (x:Int))).bind (obB l hs ws)
def slW(ws:List Nat)(o:LV):List Nat:=(ws.drop (o.ad+1)).take o.s.toNat
def kdO(s l r:Int)(hs:List HD)(ws:List Nat)(x:Nat):List Nat:=match obO s l r hs ws x with
 |none=>[]
 |some o=>slW ws o
def rtL(r:Int)(ws:List Nat):List Nat:=(ws.drop 8).take r.toNat
theorem qml{s l r:Int}{hs:List HD}{ws:List Nat}{x:Nat}{o:LV}(h:obO s l r hs ws x=some o):kdO s l r hs ws x=slW ws o:=by rw[kdO,h]
theorem ql5{l:Int}{hs:List HD}{ws:List Nat}{b:BL}{o:LV}(h:obB l hs ws b=some o):∃h',hs[b.2.1.toNat]? =some h'/\hasB (ws.getD (hdAt l b.2.1.toNat+1) 0) b.2.2.1=true/\objB (ws.getD b.1.toNat 0) h'=true/\o=lvOf (ws.getD b.1.toNat 0) b:=by
 unfold obB at h;cases hh:hs[b.2.1.toNat]? with
 |none=>rw[hh] at h;cases h
 |some h'=>
  rw[hh] at h;simp only at h;split at h
  ·rename_i hc
   injection h with h;exact⟨h',rfl,hc.1,hc.2,h.symm⟩
  ·cases h
theorem qej{s l r:Int}{hs:List HD}{b:BL}(hb:b∈qbd s l r hs):hdsB s l r hs=true/\0<=b.2.1/\b.2.1<s/\0<=b.2.2.1/\b.2.2.1<32/\2<=b.2.2.2/\b.2.2.2<=256/\16+40*l+8*s<=b.1/\b.1+b.2.2.2<=16+40*l+72*s/\
  ∃h,hs[b.2.1.toNat]? =some h/\hdB h=true/\b.2.2.2=adWd h/\((h.1=1/\0<=h.2.1/\h.2.1<4)\/(h.1=2/\h.2.1=4/\1<=h.2.2/\h.2.2<=4/\b.2.2.2=h.2.2*64/\b.2.2.1=0/\b.1=qby s l r b.2.1/\b.2.1+h.2.2<=s)):=by
 obtain⟨hd,j,hj,hbj⟩:=qo3 hb;obtain⟨g0,g1,g2⟩:=hdsB_iff.1 hd;obtain⟨h,hx,hw,i,hi,rfl⟩:=qgm hbj;have hm:=g2 h (waq hx);have hbd:=qcc g0;have hwd:=qib hm;have hnb:=qh9 h;have hp:=q9o hm hi hwd.1;have hq:0<=(i:Int)*adWd h:=we3 Zo hwd.1;have hsp:=qf1 (j:=j) g0 Zo;have hmm:=(hmay_iff (k:=h.1) (c:=h.2.1) (n:=h.2.2)).1 hm;have hdrop:hs.drop j=h::hs.drop (j+1):=by
  obtain⟨a1,a2⟩:=wan.1 hx;rw[<-a2];exact wbc a1
 by_cases hk:h.1=2
 ·obtain⟨a1,a2,a3,a4⟩:=qe8 hm hk
  have hi0:i=0:=Zo
  subst hi0;have hmore:=hw;rw[qey hdrop hk] at hmore;have hlen:¬(hs.drop (j+1)).length<h.2.2.toNat - 1:=λhlt=>by rw[qja hlt] at hmore;cases hmore
  rw[wbu] at hlen;have e0:((0:Nat):Int)*adWd h=0:=by simp
  simp only[wam] at*;refine⟨hd,Zo,Zo,Zo,Zo,Zo,Zo,Zo,Zo,h,hx,hm,rfl,.inr ⟨hk,Zo,a3,a4,a2,Zo,Zo,Zo⟩⟩
 ·have hk1:h.1=1:=by
   by_cases hk1:h.1=1
   ·exact hk1
   ·rw[qeb hdrop hk1 hk] at hw;cases hw
  obtain⟨b1,b2⟩:=qiv hm hk1;simp only[wam] at*;refine⟨hd,Zo,Zo,Zo,Zo,Zo,Zo,Zo,Zo,h,hx,hm,rfl,.inl ⟨hk1,Zo,Zo⟩⟩
theorem q7f{x:Nat}{h:HD}(ho:objB x h=true)(hm:hdB h=true)(hk:h.1=1\/h.1=2):0<=fS x/\fS x<=fN x/\1<=fN x/\fN x<=255/\0<=fR x/\fR x<=65535/\fN x+1<=adWd h:=by
 obtain⟨h1,h2,h3,h4⟩:=objB_iff.1 ho;have hb:=bmay_iff.1 h1;have hmm:=(hmay_iff (k:=h.1) (c:=h.2.1) (n:=h.2.2)).1 hm;refine⟨Zo,Zo,Zo,Zo,Zo,Zo,?_⟩;unfold adWd;rcases hk with hk|hk
 ·rw[if_neg Zo]
  unfold clN at h3;rw[if_pos Zo] at h3;unfold szN;repeat' split at h3
  all_goals(repeat' split)<;>omega
 ·rw[if_pos hk]
  have h5:=h4 hk;unfold spN at h5;split at h5<;>omega
theorem qnj{s l r:Int}{hs:List HD}{ws:List Nat}{x:Nat}{o:LV}(h:obO s l r hs ws x=some o):∃b∈qbd s l r hs,(qbd s l r hs).find? (pAt (x:Int))=some b/\obB l hs ws b=some o/\b.1=(x:Int)/\o=lvOf (ws.getD x 0) b:=by
 unfold obO at h;cases hf:(qbd s l r hs).find? (pAt (x:Int)) with
 |none=>rw[hf] at h;cases h
 |some b=>
  rw[hf] at h;have hb1:b.1=(x:Int):=by simpa[pAt] using wdr hf
  have h':obB l hs ws b=some o:=h;obtain⟨h'',e1,e2,e3,e4⟩:=ql5 h';exact⟨b,wec hf,rfl,h',hb1,by rw[e4,hb1,wam]⟩
theorem qev{s l r:Int}{hs:List HD}{ws:List Nat}{x:Nat}{o:LV}(h:obO s l r hs ws x=some o):o.a=(x:Int)/\o.ad=x/\0<=o.s/\o.s<=o.n/\1<=o.n/\o.n<=255/\0<=o.r/\o.r<=65535/\16+40*l+8*s<=o.a/\o.a+1+o.n<=o.a+o.wd/\o.a+o.wd<=16+40*l+72*s/\0<=o.sp/\o.sp<s/\0<=o.ix/\o.ix<32:=by
 obtain⟨b,hb,hf,hob,hbx,rfl⟩:=qnj h;obtain⟨hd,b1,b2,b3,b4,b5,b6,b7,b8,h',hx,hm,hwd,hk⟩:=qej hb;obtain⟨h'',e1,e2,e3,e4⟩:=ql5 hob;rw[hx] at e1;injection e1 with e1;subst e1;rw[hbx,wam] at e3;obtain⟨r1,r2,r3,r4,r5,r6,r7⟩:=q7f e3 hm (by rcases hk with hk|hk;exact .inl hk.1;exact .inr hk.1);refine⟨hbx,?_,r1,r2,r3,r4,r5,r6,?_,?_,?_,b1,b2,b3,b4⟩
 ·show b.1.toNat=x
  rw[hbx,wam]
 ·show _<=b.1
  exact b7
 ·show b.1+1+fN _<=b.1+b.2.2.2
  omega
 ·show b.1+b.2.2.2<=_
  exact b8
theorem qor{s l r:Int}{hs:List HD}{ws:List Nat}{x:Nat}{q:LV}(h:obO s l r hs ws x=some q):x∈(qbd s l r hs).map λb=>b.1.toNat:=by
 obtain⟨b,hb,-,-,hbx,-⟩:=qnj h;exact wav.2 ⟨b,hb,by rw[hbx,wam]⟩
theorem q91{s l r:Int}{hs:List HD}{ws:List Nat}(hm:mayB s l r=true):obO s l r hs ws 0=none:=by
 cases h:obO s l r hs ws 0 with
 |none=>rfl
 |some o=>
  have:=qev h
  have:=qcc hm
  omega
theorem qw7{s l r:Int}{hs:List HD}{ws:List Nat}{x:Nat}{o:LV}(h:obO s l r hs ws x=some o)(hn:(ws.length:Int)=16+40*l+72*s):(slW ws o).length=o.s.toNat/\∀k,k<o.s.toNat->(slW ws o)[k]? =ws[o.ad+1+k]?:=by
 have hb:=qev h;refine⟨?_,λk hk=>?_⟩
 ·rw[slW,war,wbu];omega
 ·rw[slW,wbf hk,wbd]
def lvV(o:LV):List Value:=[.int .i64 o.a,.int .i64 o.r,.int .i64 o.s,.int .i64 o.n,.int .i64 o.sp,.int .i64 o.ix,.int .i64 o.wd]
def lsV(l:List LV):List Value:=l.flatMap lvV
theorem qaa3(l:List LV):(lsV l).length=l.length*7:=by
 induction l with
 |nil=>rfl
 |cons e r ih=>
  show(lvV e++lsV r).length=_
  rw[was,ih];show 7+_=_
  simp only[way];omega
theorem qacm{l:List LV}{j:Nat}{o:LV}(h:l[j]? =some o){k:Nat}(hk:k<7):(lsV l)[j*7+k]? =(lvV o)[k]?:=by
 induction l generalizing j with
 |nil=>simp at h
 |cons f r ih=>
  have hl:(lvV f).length=7:=rfl;show(lvV f++lsV r)[j*7+k]? =_
  cases j with
  |zero=>
   obtain rfl:f=o:=by simpa using h
   rw[Nat.zero_mul,wa4,wbk Zo]
  |succ i=>
   rw[wbt Zo,hl,show(i+1)*7+k - 7=i*7+k by omega];exact ih (by simpa using h)
def LvAt(w:World)(q:Addr)(o:LV):Prop:=w.cell? q=some (.int .i64 o.a)/\w.cell? ⟨q.block,q.off+1,none⟩=some (.int .i64 o.r)/\w.cell? ⟨q.block,q.off+2,none⟩=some (.int .i64 o.s)/\w.cell? ⟨q.block,q.off+3,none⟩=some (.int .i64 o.n)/\w.cell? ⟨q.block,q.off+4,none⟩=some (.int .i64 o.sp)/\w.cell? ⟨q.block,q.off+5,none⟩=some (.int .i64 o.ix)/\w.cell? ⟨q.block,q.off+6,none⟩=some (.int .i64 o.wd)
theorem LvAt.below{w w':World}{q:Addr}{o:LV}(h:LvAt w q o)(hB:Below w.heap.size w w'):LvAt w' q o:=by
 obtain⟨h0,h1,h2,h3,h4,h5,h6⟩:=h;have hl:=wak w _ h0;exact⟨(hB.cell hl).trans h0,(hB.cell (p:=⟨q.block,q.off+1,none⟩) hl).trans h1,(hB.cell (p:=⟨q.block,q.off+2,none⟩) hl).trans h2,(hB.cell (p:=⟨q.block,q.off+3,none⟩) hl).trans h3,(hB.cell (p:=⟨q.block,q.off+4,none⟩) hl).trans h4,(hB.cell (p:=⟨q.block,q.off+5,none⟩) hl).trans h5,(hB.cell (p:=⟨q.block,q.off+6,none⟩) hl).trans h6⟩
def LsRd(w:World)(A:Option Addr)(n:Nat)(l:List LV):Prop:=l.length=n/\(0<n->∃p,A=some p/\∀j o,l[j]? =some o->LvAt w (p.add (j*7)) o)
theorem LsRd.below{w w':World}{A:Option Addr}{n:Nat}{l:List LV}(h:LsRd w A n l)(hB:Below w.heap.size w w'):LsRd w' A n l:=
 ⟨h.1,λhn=>by
  obtain⟨p,e,hp⟩:=h.2 hn;exact⟨p,e,λj o ho=>(hp j o ho).below hB⟩⟩
theorem LsRd.at_{w:World}{A:Option Addr}{n k:Nat}{l:List LV}(h:LsRd w A n l)(hk:k<n):∃p o,A=some p/\l[k]? =some o/\LvAt w (p.add (k*7)) o:=by
 obtain⟨p,e,hp⟩:=h.2 Zo;have hl:k<l.length:=by rw[h.1];exact hk
 exact⟨p,l[k],e,waj hl,hp k _ (waj hl)⟩
theorem LsRd.of_own{w:World}{base n:Nat}{v:Value}{l:List LV}(h:w.ownsRow base 166 7 v n (lsV l)):∃A cap,v= .slice A n cap/\LsRd w A n l:=by
 have hl:l.length=n:=by have:=h.1;rw[qaa3] at this;omega
 rcases h.2 with ⟨rfl,h0⟩|⟨g,cap,cur,rfl,hb,hg,hn,hc,hs,ht⟩
 ·subst h0
  exact⟨none,0,rfl,hl,λh=>absurd h Zo⟩
 ·refine⟨_,_,rfl,hl,λ_=>⟨_,rfl,λj o ho=>?_⟩⟩
  have hj:j<n:=by rw[<-hl];exact(wan.1 ho).1
  have ha:∀i,i<n*7->cur[i]? =(lsV l)[i]?:=λi hi=>by rw[<-ht,wbh,if_pos hi,wb9]
  have e0:(⟨g,0,none⟩:Addr).add (j*7)=⟨g,j*7,none⟩:=by unfold Addr.add;split<;>simp_all
  rw[e0];have hc:∀k,k<7->w.cell? ⟨g,j*7+k,none⟩=(lvV o)[k]?:=λk hk=>by rw[qaa hg,ha (j*7+k) Zo,qacm ho hk]
  exact⟨hc 0 Zo,hc 1 Zo,hc 2 Zo,hc 3 Zo,hc 4 Zo,hc 5 Zo,hc 6 Zo⟩
theorem qo1:(Tryz.prog.info? 166).map (λi=>(i.zero,i.size,i.bytes))=some (some (.agg #[.int .i64 0,.int .i64 0,.int .i64 0,.int .i64 0,.int .i64 0,.int .i64 0,.int .i64 0]),7,56):=by kernel_rfl
def Lb(V:World)(b:Nat)(o:LV):Prop:=V.heap[b]? =some (.cells (lvV o).toArray 166 (0,0))
theorem Lb.below{V V':World}{b B:Nat}{o:LV}(h:Lb V b o)(hb:Below B V V')(hB:b<B):Lb V' b o:=(hb.block b hB).trans h
theorem Lb.lt{V:World}{b:Nat}{o:LV}(h:Lb V b o):b<V.heap.size:=(wal.1 h).1
theorem Lb.cells{V:World}{b:Nat}{o:LV}(h:Lb V b o):LvAt V ⟨b,0,none⟩ o/\(∀k,V.frozen? ⟨b,k,none⟩=false):=
 ⟨⟨by rw[qaa h];rfl,by rw[qaa h];rfl,by rw[qaa h];rfl,by rw[qaa h];rfl,by rw[qaa h];rfl,by rw[qaa h];rfl,by rw[qaa h];rfl⟩,λk=>qaj h k⟩
theorem Lb.new(W:World)(o:LV):Lb (W.alloc (.cells (lvV o).toArray 166)) W.heap.size o:=World.alloc_heap_new W _
theorem qfl(w:World)(o:LV):Below w.heap.size w (w.alloc (.cells (lvV o).toArray 166)):=(wac _ w).alloc (wab _) _
def fndI(L:List LV)(a:Int):Int:=match L.findIdx? (λo=>decide (o.a=a)) with
 |some j=>(j:Int)
 |none=>-1
end Go.Proofs.YtocncmbeinmiaaaGreat
