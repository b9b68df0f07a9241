/- Parts. No condition. -/
import Derived.Test.YtocncmbeinmiaaaGreatJoinU07
set_option linter.unusedVariables false
set_option maxRecDepth 100000
set_option maxHeartbeats 8000000
namespace Go.Proofs.YtocncmbeinmiaaaGreat
open Go
theorem q3t(l:List Nat):qbo l≠0:=by unfold qbo;omega
end Go.Proofs.YtocncmbeinmiaaaGreat
namespace Go.Proofs.YtocncmbeinmiaaaGreat
open Go Go.RowKit
theorem q4k{ws:List Nat}(h:ws.length<2147483648):qa9 (qbo ws)=ws.length:=by
 unfold qa9 qbo;have:=qf0 ws
 rw[wdd h];omega
theorem q7i{s n:Nat}{ws:List Nat}(h1:1<=n)(h2:n<=16)(h3:2*n<=ws.length)(h:qbo (ws.take (2*n))=s):qbh s ws=if qe2 (ws.take (2*n))=true then some (qa2 (ws.take (2*n))) else none:=by
 have hl:(ws.take (2*n)).length=2*n:=by rw[war];omega
 have hm:qa9 s=2*n:=by rw[<-h,q4k Zo,hl]
 have h0:s≠0:=by rw[<-h];exact q3t _
 unfold qbh;rw[if_neg h0,hm];by_cases hg:qe2 (ws.take (2*n))=true
 ·rw[if_pos ⟨h3,Zo,hg,h⟩,if_pos hg]
 ·rw[if_neg (λc=>hg c.2.2.1),if_neg hg]
theorem qqh{s:Nat}{ws:List Nat}(h0:s≠0)(h:∀n,1<=n->n<=16->2*n<=ws.length->qbo (ws.take (2*n))≠s):qbh s ws=none:=by
 cases hr:qbh s ws with
 |none=>rfl
 |some l=>
  obtain⟨a,b,c,d,e⟩:=qk3 h0 hr;obtain⟨h1,h2,-⟩:=logB_iff.1 a;exact absurd (by rw[<-d,b];exact c) (h l.length h1 h2 Zo)
theorem qxf{ws:List Nat}(k:Nat)(h:ws.length%2=0):qbe k (qa2 ws)=ws↔okF k ws=true:=by
 match ws with
 |[]=>simp[qa2,qbe,okF]
 |[a]=>simp at h
 |a::x::r=>
  have hr:=qxf (ws:=r) (k+1) (by simp only[way] at h;omega);rw[qa2,qbe,okF,wce,decide_eq_true_eq,<-hr];simp only[wam,List.cons.injEq,true_and];constructor
  ·rintro⟨a1,a2⟩;exact⟨Zo,a2⟩
  ·rintro⟨a1,a2⟩;exact⟨Zo,a2⟩
theorem q9d{ws r:List Nat}{j a x:Nat}(h:ws.drop (2*j)=a::x::r):okF j (ws.drop (2*j))=(decide (a/4294967296=j)&&okF (j+1) (ws.drop (2*(j+1)))):=by
 rw[(qkj h).2,h,okF]
end Go.Proofs.YtocncmbeinmiaaaGreat
namespace Go.Proofs.YtocncmbeinmiaaaGreat
open Go
theorem q75(i:Int)(k:Nat):(only i).testBit k=decide ((k:Int)=i/\k<64):=by
 unfold only;split
 ·rename_i h
  rw[Nat.zero_testBit,eq_comm,decide_eq_false_iff_not];omega
 ·rename_i h
  rw[Nat.testBit_two_pow];apply decide_eq_decide.2
  omega
theorem qpi(m:Nat)(i:Int)(k:Nat):(qcy m i).testBit k=(m.testBit k||decide ((k:Int)=i/\k<64)):=by
 unfold qcy;rw[wgv,q75]
theorem qaa7(m k:Nat)(hm:m<18446744073709551616)(hk:k<64)(h:m.testBit k=false):m+2 ^ k=m|||2 ^ k:=by
 have hp:=qir hk;have h1:m&&&2 ^ k=0:=by
  rw[nat_bit];rw[wgu] at h;have:m/2 ^ k%2=0:=by have:=of_decide_eq_false h;omega
  rw[this,Nat.zero_mul]
 have h2:=BitVec.add_eq_or_of_and_eq_zero (BitVec.ofNat 65 m) (BitVec.ofNat 65 (2 ^ k)) (by
  apply BitVec.eq_of_toNat_eq
  rw[BitVec.toNat_and,wgg,wgg,wdd Zo,wdd Zo,h1];rfl)
 have h3:=congrArg BitVec.toNat h2;rw[BitVec.toNat_add,BitVec.toNat_or,wgg,wgg,wdd (a:=m) Zo,wdd (a:=2 ^ k) Zo,wdd Zo] at h3;exact h3
theorem q94(m:Nat)(hm:m<18446744073709551616){i:Int}(h0:0<=i)(h:i<64)(hn:hasB m i=false):m+2 ^ i.toNat=qcy m i:=by
 rw[qom m h0 h] at hn;unfold qcy;rw[qh7 h0 h,qaa7 _ _ hm Zo hn]
theorem qkk(m:Nat){i:Int}(h:(i<0\/64<=i)\/hasB m i=true):qcy m i=m:=by
 apply wdy
 intro k;rw[qpi];by_cases hk:(k:Int)=i/\k<64
 ·obtain⟨rfl,hk⟩:=hk
  rcases h with h|h
  ·omega
  ·rw[qtu m hk] at h;simp[h]
 ·simp[hk]
end Go.Proofs.YtocncmbeinmiaaaGreat
namespace Go.Proofs.YtocncmbeinmiaaaGreat
open Go Go.RowKit
theorem q9c(n:Nat)(w:World)(hn:n<64):
  Calls Tryz.prog 158 #[.int .i64 (n:Int)] w λe w'=>e= .returned (.int .u64 (only n:Nat))/\w=w':=by
 have ho:Hid (only n=2 ^ n):=by
  have:=qh7 (i:=(n:Int)) Zo Zo
  exact waa (by simpa using this)
 go_enter Tryz.func158,Tryz.ntmps158;go_wp2
 go_loop [3,4] (λx k=>∃j y:Nat,j<=n/\Hid (y=2 ^ j)/\k= .int .i64 j/\x= .int .u64 y) (λ_ k=>n - (intOf k).toNat)
 case atStart=>exact⟨0,1,wau _,waa rfl,rfl,rfl⟩
 case round=>
  obtain⟨j,y,hj,hy,rfl,rfl⟩:=hrel;by_cases hlt:j<n
  ·have hp:=qir (k:=j+1) Zo
   have hs:2 ^ (j+1)=y*2:=by rw[hy.out,Nat.pow_succ]
   rw[hs] at hp;have hs':=waa hs;clear hs;go_wp2
   go_round
   case rel=>exact⟨j+1,y*2,Zo,waa hs'.out.symm,by go_num,by go_num⟩
   case measure=>simp[intOf];omega
  ·have e:j=n:=Zo
   have e':=waa e;clear e;go_wp2
   go_ret;exact⟨qb9 (by rw[ho.out,<-e'.out,<-hy.out]),rfl⟩
theorem q51(i:Int)(w:World)(h0:0<=i)(h1:i<64):
  Calls Tryz.prog 158 #[.int .i64 i] w λe w'=>e= .returned (.int .u64 (only i:Nat))/\w=w':=by
 obtain⟨n,rfl⟩:=waz h0;exact q9c n w Zo
theorem q1g(m:Nat)(i:Int)(w:World)(hm:m<18446744073709551616)(h0:-9223372036854775808<=i)(h1:i<=9223372036854775807):
  Calls Tryz.prog 116 #[.int .u64 (m:Int),.int .i64 i] w λe w'=>e= .returned (.int .u64 (qcy m i:Nat))/\w=w':=by
 by_cases hi:i<0
 ·have hs:=waa (qkk m (i:=i) (.inl (.inl hi)))
  go_enter wgh,wgi;go_wp2_with fail;go_ret;exact⟨qb9 (by rw[hs.out]),rfl⟩
 ·by_cases hj:i<64
  ·cases hb:hasB m i with
   |true=>
    have hs:=waa (qkk m (i:=i) (.inr hb));go_enter wgh,wgi;go_wp2_with (go_at_call 95;refine(qjk _ _ _ hm h0 h1).mono ?_;rintro e w' ⟨rfl,rfl⟩)
    go_ret;exact⟨qb9 (by rw[hs.out]),rfl⟩
   |false=>
    have hs:Hid (m+only i=qcy m i):=waa (by rw[qh7 Zo hj];exact q94 m hm Zo hj hb);have hl:=qsx m hm i;go_enter wgh,wgi;go_wp2_with (first|(go_at_call 95;refine(qjk _ _ _ hm h0 h1).mono ?_;rintro e w' ⟨rfl,rfl⟩)|(go_at_call 158;refine(q51 _ _ Zo Zo).mono ?_;rintro e w' ⟨rfl,rfl⟩))
    go_ret;refine⟨qb9 ?_,rfl⟩;have:=hs.out
    rw[wa5];omega
  ·have hs:=waa (qkk m (i:=i) (.inl (.inr Zo)))
   go_enter wgh,wgi;go_wp2_with fail;go_ret;exact⟨qb9 (by rw[hs.out]),rfl⟩
theorem q4b(A:Option Addr)(cap:Nat)(l:List (Int×Nat))(w:World)(h:EsRd w A l.length l)(hm:l.length<=9223372036854775807):
  Calls Tryz.prog 155 #[.slice A l.length cap] w λe w'=>e= .returned (.bool (logB l))/\w=w':=by
 have hl:logB l=(l.all entB&&(decide (1<=l.length)&&decide (l.length<=16))):=by unfold logB;rw[Bool.and_comm]
 rw[hl];generalize hv:l.all entB=b;have hv':=waa hv;clear hv hl;go_enter Tryz.func155,Tryz.ntmps155;go_wp2
 go_loopw [3] (λk wr=>∃(j:Nat),k= .int .i64 (j:Int)/\j<=l.length/\Hid ((l.drop j).all entB=b)/\w=wr) (λk _=>l.length - (intOf k).toNat)
 case atStart=>exact⟨0,rfl,wau _,hv',rfl⟩
 case round=>
  obtain⟨j,rfl,hj,hr,rfl⟩:=hrel;by_cases hlt:j<l.length
  ·obtain⟨p,a,x,rfl,hd,-,c0,c1⟩:=h.at_ hlt
   rw[hd,wdc] at hr;clear hd;have hz:(0:Int)<=(j:Int):=Zo
   have hz2:(j:Int)<(l.length:Int):=Zo
   by_cases h0:a<0
   ·have hr':Hid (b=false):=waa (by
     rw[<-hr.out];have:entB (a,x)=false:=by unfold entB;exact decide_eq_false (by simp only;omega)
     rw[this];rfl)
    clear hr;go_wp2
    go_ret;exact⟨qab (by rw[hr'.out];rfl),rfl⟩
   ·by_cases h1:16383<a
    ·have hr':Hid (b=false):=waa (by
      rw[<-hr.out];have:entB (a,x)=false:=by unfold entB;exact decide_eq_false (by simp only;omega)
      rw[this];rfl)
     clear hr;go_wp2
     go_ret;exact⟨qab (by rw[hr'.out];rfl),rfl⟩
    ·have hr':Hid ((l.drop (j+1)).all entB=b):=waa (by
      rw[<-hr.out];have:entB (a,x)=true:=by rw[entB_iff];simp only;omega
      rw[this];rfl)
     clear hr;go_wp2
     go_roundw
     case rel=>exact⟨j+1,by go_num,Zo,hr',trivial⟩
     case measure=>simp[intOf];omega
  ·have hr':Hid (b=true):=waa (by rw[<-hr.out,wbn Zo];rfl)
   clear hr;by_cases h1:1<=l.length
   ·by_cases h2:l.length<=16
    ·go_wp2
     go_ret;exact⟨qab (by rw[hr'.out,wb8];simp;omega),rfl⟩
    ·go_wp2
     go_ret;exact⟨qab (by rw[hr'.out,wb8];simp;omega),rfl⟩
   ·go_wp2
    go_ret;exact⟨rfl,rfl⟩
theorem qut{A:Option Addr}{c n:Nat}{l:List Nat}{w:World}(hr:Rd w A n (u64V l))(hn:Keep (l.length=n))(hm:n<=300)(hl:Keep (∀b∈l,b<18446744073709551616)):
  Calls Tryz.prog 97 #[.slice A n c] w λe w'=>e= .returned (.int .u64 (qbo l:Nat))/\Below w.heap.size w w':=by
 have e1:=hn.out;subst e1;exact qli A c l w hr Zo hl.out
theorem q2q(s l r i:Int)(w:World):Calls Tryz.prog 113 #[.agg #[.int .i64 s,.int .i64 l,.int .i64 r],.int .i64 i] w λe w'=>e= .returned (.int .i64 (qf6 s l r i))/\Below w.heap.size w w':=by
 cases hm:mayB s l r with
 |false=>
  have ht:qf6 s l r i= -1:=if_neg (by rw[hm];simp);rw[ht];clear ht;go_enter wgj,wgk;go_wp2_with fail;refine(qa1 s l r _).mono ?_;rintro e w1 ⟨rfl,hB⟩;obtain⟨hc,hf⟩:=qam hB;go_wp2_with fail;go_ret;exact⟨rfl,((wac _ w).alloc (wab _) _).trans (hB.mono Zs)⟩
 |true=>
  obtain⟨⟨s0,s1⟩,⟨l0,l1⟩,r0,r1⟩:=mayB_iff.1 hm;by_cases h0:i<0
  ·have ht:qf6 s l r i= -1:=if_neg Zo
   rw[ht];clear ht;go_enter wgj,wgk;go_wp2_with fail;refine(qa1 s l r _).mono ?_;rintro e w1 ⟨rfl,hB⟩;obtain⟨hc,hf⟩:=qam hB;go_wp2_with fail;go_ret;exact⟨rfl,((wac _ w).alloc (wab _) _).trans (hB.mono Zs)⟩
  ·by_cases h1:i<r
   ·have ht:qf6 s l r i=8+i:=if_pos ⟨hm,Zo,h1⟩
    rw[ht];clear ht;go_enter wgj,wgk;go_wp2_with fail;refine(qa1 s l r _).mono ?_;rintro e w1 ⟨rfl,hB⟩;obtain⟨hc,hf⟩:=qam hB;go_wp2_with fail;go_ret;exact⟨rfl,((wac _ w).alloc (wab _) _).trans (hB.mono Zs)⟩
   ·have ht:qf6 s l r i= -1:=if_neg Zo
    rw[ht];clear ht;go_enter wgj,wgk;go_wp2_with fail;refine(qa1 s l r _).mono ?_;rintro e w1 ⟨rfl,hB⟩;obtain⟨hc,hf⟩:=qam hB;go_wp2_with fail;go_ret;exact⟨rfl,((wac _ w).alloc (wab _) _).trans (hB.mono Zs)⟩
theorem qo4(s l r i:Int)(w:World):Calls Tryz.prog 77 #[.agg #[.int .i64 s,.int .i64 l,.int .i64 r],.int .i64 i] w λe w'=>e= .returned (.int .i64 (qbl s l r i))/\Below w.heap.size w w':=by
 cases hm:mayB s l r with
 |false=>
  have ht:qbl s l r i= -1:=if_neg (by rw[hm];simp);rw[ht];clear ht;go_enter wgl,wgm;go_wp2_with fail;refine(qa1 s l r _).mono ?_;rintro e w1 ⟨rfl,hB⟩;obtain⟨hc,hf⟩:=qam hB;go_wp2_with fail;go_ret;exact⟨rfl,((wac _ w).alloc (wab _) _).trans (hB.mono Zs)⟩
 |true=>
  obtain⟨⟨s0,s1⟩,⟨l0,l1⟩,r0,r1⟩:=mayB_iff.1 hm;by_cases h0:i<0
  ·have ht:qbl s l r i= -1:=if_neg Zo
   rw[ht];clear ht;go_enter wgl,wgm;go_wp2_with fail;refine(qa1 s l r _).mono ?_;rintro e w1 ⟨rfl,hB⟩;obtain⟨hc,hf⟩:=qam hB;go_wp2_with fail;go_ret;exact⟨rfl,((wac _ w).alloc (wab _) _).trans (hB.mono Zs)⟩
  ·by_cases h1:i<l
   ·have ht:qbl s l r i=16+40*i:=if_pos ⟨hm,Zo,h1⟩
    rw[ht];clear ht;go_enter wgl,wgm;go_wp2_with fail;refine(qa1 s l r _).mono ?_;rintro e w1 ⟨rfl,hB⟩;obtain⟨hc,hf⟩:=qam hB;go_wp2_with fail;go_ret;exact⟨rfl,((wac _ w).alloc (wab _) _).trans (hB.mono Zs)⟩
   ·have ht:qbl s l r i= -1:=if_neg Zo
    rw[ht];clear ht;go_enter wgl,wgm;go_wp2_with fail;refine(qa1 s l r _).mono ?_;rintro e w1 ⟨rfl,hB⟩;obtain⟨hc,hf⟩:=qam hB;go_wp2_with fail;go_ret;exact⟨rfl,((wac _ w).alloc (wab _) _).trans (hB.mono Zs)⟩
theorem qzb(s l r a:Int)(w:World)(a0:-9223372036854775808<=a)(a1:a<=9223372036854775807):Calls Tryz.prog 112 #[.agg #[.int .i64 s,.int .i64 l,.int .i64 r],.int .i64 a] w λe w'=>e= .returned (plV (plc s l r a))/\Below w.heap.size w w':=by
 cases hm:mayB s l r with
 |false=>
  have hp:plc s l r a=(5,-1,0):=if_pos (by rw[hm];simp);rw[hp];clear hp;go_enter wc8,wc9;go_wp2_with fail;refine(qa1 s l r _).mono ?_;rintro e w1 ⟨rfl,hB⟩;obtain⟨hc,hf⟩:=qam hB;have hz:w.heap.size+1<w1.heap.size:=by have:=hB.size;simp at this;omega
  have hB1:=(((wac _ w).alloc (wab _) (.cells #[.int .i64 s,.int .i64 l,.int .i64 r] 23)).alloc Zs (.cells #[.int .i64 0,.int .i64 0,.int .i64 0] 193)).trans (hB.mono Zx);go_wp2_with fail;refine bodyPost_ret (v:= .agg #[.int .i64 (5),.int .i64 (-1),.int .i64 (0)]) (by simp[results,Tryz.results112,go_sem,hc]) rfl ⟨rfl,?_⟩;iterate 3 refine wa7 ?_ Zs _
  exact hB1
 |true=>
  obtain⟨⟨s0,s1⟩,⟨l0,l1⟩,r0,r1⟩:=mayB_iff.1 hm;have ht:totN s l r=16+40*l+72*s:=if_pos hm;have hT:∀W,Calls Tryz.prog 62 #[.agg #[.int .i64 s,.int .i64 l,.int .i64 r]] W λe w'=>e= .returned (.int .i64 (16+40*l+72*s))/\Below W.heap.size W w':=λW=>by
   have:=qfr s l r W
   rwa [ht] at this
  clear ht;by_cases h0:a<0
  ·have hp:plc s l r a=(5,-1,0):=if_pos Zo
   rw[hp];clear hp;go_enter wc8,wc9;go_wp2_with fail;refine(qa1 s l r _).mono ?_;rintro e w1 ⟨rfl,hB⟩;obtain⟨hc,hf⟩:=qam hB;have hz:w.heap.size+1<w1.heap.size:=by have:=hB.size;simp at this;omega
   have hB1:=(((wac _ w).alloc (wab _) (.cells #[.int .i64 s,.int .i64 l,.int .i64 r] 23)).alloc Zs (.cells #[.int .i64 0,.int .i64 0,.int .i64 0] 193)).trans (hB.mono Zx);go_wp2_with fail;refine bodyPost_ret (v:= .agg #[.int .i64 (5),.int .i64 (-1),.int .i64 (0)]) (by simp[results,Tryz.results112,go_sem,hc]) rfl ⟨rfl,?_⟩;iterate 3 refine wa7 ?_ Zs _
   exact hB1
  ·by_cases h1:16+40*l+72*s<=a
   ·have hp:plc s l r a=(5,-1,0):=if_pos Zo
    rw[hp];clear hp;go_enter wc8,wc9;go_wp2_with fail;refine(qa1 s l r _).mono ?_;rintro e w1 ⟨rfl,hB⟩;obtain⟨hc,hf⟩:=qam hB;have hz:w.heap.size+1<w1.heap.size:=by have:=hB.size;simp at this;omega
    have hB1:=(((wac _ w).alloc (wab _) (.cells #[.int .i64 s,.int .i64 l,.int .i64 r] 23)).alloc Zs (.cells #[.int .i64 0,.int .i64 0,.int .i64 0] 193)).trans (hB.mono Zx);go_wp2_with fail;refine(hT _).mono ?_;rintro e w2 ⟨rfl,hB2⟩;have hB3:=hB1.trans (hB2.mono hB1.size);have hz2:w.heap.size+1<w2.heap.size:=by have:=hB2.size;omega
    obtain⟨hc2,hf2⟩:=qam hB2;have hz3:w.heap.size<w1.heap.size:=Zo
    go_wp2_with fail;refine bodyPost_ret (v:= .agg #[.int .i64 (5),.int .i64 (-1),.int .i64 (0)]) (by simp[results,Tryz.results112,go_sem,hc2,hc,hz]) rfl ⟨rfl,?_⟩;iterate 3 refine wa7 ?_ Zs _
    exact hB3
   ·have hk:plc s l r a=(if a<8 then(0,0,a) else if a<8+r then(1,a - 8,0) else if a<16 then(1,-1,a - 8) else if a - 16<40*l then(2,(a - 16)/40,(a - 16)%40) else if a - 16 - 40*l<8*s then(3,(a - 16 - 40*l)/8,(a - 16 - 40*l)%8) else(4,(a - 16 - 40*l - 8*s)/64,(a - 16 - 40*l - 8*s)%64)):=if_neg (by simp only[hm,true_and];omega)
    rw[hk];clear hk;by_cases c0:a<8
    ·rw[if_pos c0]
     go_enter wc8,wc9;go_wp2_with fail;refine(qa1 s l r _).mono ?_;rintro e w1 ⟨rfl,hB⟩;obtain⟨hc,hf⟩:=qam hB;have hz:w.heap.size+1<w1.heap.size:=by have:=hB.size;simp at this;omega
     have hB1:=(((wac _ w).alloc (wab _) (.cells #[.int .i64 s,.int .i64 l,.int .i64 r] 23)).alloc Zs (.cells #[.int .i64 0,.int .i64 0,.int .i64 0] 193)).trans (hB.mono Zx);go_wp2_with fail;refine(hT _).mono ?_;rintro e w2 ⟨rfl,hB2⟩;have hB3:=hB1.trans (hB2.mono hB1.size);have hz2:w.heap.size+1<w2.heap.size:=by have:=hB2.size;omega
     obtain⟨hc2,hf2⟩:=qam hB2;have hz3:w.heap.size<w1.heap.size:=Zo
     go_wp2_with fail;refine bodyPost_ret (v:= .agg #[.int .i64 (0),.int .i64 (0),.int .i64 (a)]) (by simp[results,Tryz.results112,go_sem,hc2,hc,hz]) rfl ⟨rfl,?_⟩;iterate 3 refine wa7 ?_ Zs _
     exact hB3
    ·rw[if_neg c0]
     by_cases c1:a<8+r
     ·rw[if_pos c1]
      go_enter wc8,wc9;go_wp2_with fail;refine(qa1 s l r _).mono ?_;rintro e w1 ⟨rfl,hB⟩;obtain⟨hc,hf⟩:=qam hB;have hz:w.heap.size+1<w1.heap.size:=by have:=hB.size;simp at this;omega
      have hB1:=(((wac _ w).alloc (wab _) (.cells #[.int .i64 s,.int .i64 l,.int .i64 r] 23)).alloc Zs (.cells #[.int .i64 0,.int .i64 0,.int .i64 0] 193)).trans (hB.mono Zx);go_wp2_with fail;refine(hT _).mono ?_;rintro e w2 ⟨rfl,hB2⟩;have hB3:=hB1.trans (hB2.mono hB1.size);have hz2:w.heap.size+1<w2.heap.size:=by have:=hB2.size;omega
      obtain⟨hc2,hf2⟩:=qam hB2;have hz3:w.heap.size<w1.heap.size:=Zo
      go_wp2_with fail;refine bodyPost_ret (v:= .agg #[.int .i64 (1),.int .i64 (a - 8),.int .i64 (0)]) (by simp[results,Tryz.results112,go_sem,hc2,hc,hz]) rfl ⟨rfl,?_⟩;iterate 3 refine wa7 ?_ Zs _
      exact hB3
     ·rw[if_neg c1]
      by_cases c2:a<16
      ·rw[if_pos c2]
       go_enter wc8,wc9;go_wp2_with fail;refine(qa1 s l r _).mono ?_;rintro e w1 ⟨rfl,hB⟩;obtain⟨hc,hf⟩:=qam hB;have hz:w.heap.size+1<w1.heap.size:=by have:=hB.size;simp at this;omega
       have hB1:=(((wac _ w).alloc (wab _) (.cells #[.int .i64 s,.int .i64 l,.int .i64 r] 23)).alloc Zs (.cells #[.int .i64 0,.int .i64 0,.int .i64 0] 193)).trans (hB.mono Zx);go_wp2_with fail;refine(hT _).mono ?_;rintro e w2 ⟨rfl,hB2⟩;have hB3:=hB1.trans (hB2.mono hB1.size);have hz2:w.heap.size+1<w2.heap.size:=by have:=hB2.size;omega
       obtain⟨hc2,hf2⟩:=qam hB2;have hz3:w.heap.size<w1.heap.size:=Zo
       go_wp2_with fail;refine bodyPost_ret (v:= .agg #[.int .i64 (1),.int .i64 (-1),.int .i64 (a - 8)]) (by simp[results,Tryz.results112,go_sem,hc2,hc,hz]) rfl ⟨rfl,?_⟩;iterate 3 refine wa7 ?_ Zs _
       exact hB3
      ·rw[if_neg c2]
       by_cases c3:a - 16<40*l
       ·rw[if_pos c3]
        go_enter wc8,wc9;go_wp2_with fail;refine(qa1 s l r _).mono ?_;rintro e w1 ⟨rfl,hB⟩;obtain⟨hc,hf⟩:=qam hB;have hz:w.heap.size+1<w1.heap.size:=by have:=hB.size;simp at this;omega
        have hB1:=(((wac _ w).alloc (wab _) (.cells #[.int .i64 s,.int .i64 l,.int .i64 r] 23)).alloc Zs (.cells #[.int .i64 0,.int .i64 0,.int .i64 0] 193)).trans (hB.mono Zx);go_wp2_with fail;refine(hT _).mono ?_;rintro e w2 ⟨rfl,hB2⟩;have hB3:=hB1.trans (hB2.mono hB1.size);have hz2:w.heap.size+1<w2.heap.size:=by have:=hB2.size;omega
        obtain⟨hc2,hf2⟩:=qam hB2;have hz3:w.heap.size<w1.heap.size:=Zo
        go_wp2_with fail;refine bodyPost_ret (v:= .agg #[.int .i64 (2),.int .i64 ((a - 16)/40),.int .i64 ((a - 16)%40)]) (by simp[results,Tryz.results112,go_sem,hc2,hc,hz]) rfl ⟨rfl,?_⟩;iterate 3 refine wa7 ?_ Zs _
        exact hB3
       ·rw[if_neg c3]
        by_cases c4:a - 16 - 40*l<8*s
        ·rw[if_pos c4]
         go_enter wc8,wc9;go_wp2_with fail;refine(qa1 s l r _).mono ?_;rintro e w1 ⟨rfl,hB⟩;obtain⟨hc,hf⟩:=qam hB;have hz:w.heap.size+1<w1.heap.size:=by have:=hB.size;simp at this;omega
         have hB1:=(((wac _ w).alloc (wab _) (.cells #[.int .i64 s,.int .i64 l,.int .i64 r] 23)).alloc Zs (.cells #[.int .i64 0,.int .i64 0,.int .i64 0] 193)).trans (hB.mono Zx);go_wp2_with fail;refine(hT _).mono ?_;rintro e w2 ⟨rfl,hB2⟩;have hB3:=hB1.trans (hB2.mono hB1.size);have hz2:w.heap.size+1<w2.heap.size:=by have:=hB2.size;omega
         obtain⟨hc2,hf2⟩:=qam hB2;have hz3:w.heap.size<w1.heap.size:=Zo
         go_wp2_with fail;refine bodyPost_ret (v:= .agg #[.int .i64 (3),.int .i64 ((a - 16 - 40*l)/8),.int .i64 ((a - 16 - 40*l)%8)]) (by simp[results,Tryz.results112,go_sem,hc2,hc,hz]) rfl ⟨rfl,?_⟩;iterate 3 refine wa7 ?_ Zs _
         exact hB3
        ·rw[if_neg c4]
         go_enter wc8,wc9;go_wp2_with fail;refine(qa1 s l r _).mono ?_;rintro e w1 ⟨rfl,hB⟩;obtain⟨hc,hf⟩:=qam hB;have hz:w.heap.size+1<w1.heap.size:=by have:=hB.size;simp at this;omega
         have hB1:=(((wac _ w).alloc (wab _) (.cells #[.int .i64 s,.int .i64 l,.int .i64 r] 23)).alloc Zs (.cells #[.int .i64 0,.int .i64 0,.int .i64 0] 193)).trans (hB.mono Zx);go_wp2_with fail;refine(hT _).mono ?_;rintro e w2 ⟨rfl,hB2⟩;have hB3:=hB1.trans (hB2.mono hB1.size);have hz2:w.heap.size+1<w2.heap.size:=by have:=hB2.size;omega
         obtain⟨hc2,hf2⟩:=qam hB2;have hz3:w.heap.size<w1.heap.size:=Zo
         go_wp2_with fail;refine bodyPost_ret (v:= .agg #[.int .i64 (4),.int .i64 ((a - 16 - 40*l - 8*s)/64),.int .i64 ((a - 16 - 40*l - 8*s)%64)]) (by simp[results,Tryz.results112,go_sem,hc2,hc,hz]) rfl ⟨rfl,?_⟩;iterate 3 refine wa7 ?_ Zs _
         exact hB3
theorem qtn(A B:Option Addr)(c d n k:Nat)(w:World)(hn:n≠k)(h1:n<=9223372036854775807)(h2:k<=9223372036854775807):
  Calls Tryz.prog 19 #[.slice A n c,.slice B k d] w λe w'=>e= .returned (.bool false)/\w=w':=by
 have hne:((n:Int) !=(k:Int))=true:=bne_iff_ne.2 Zo;clear hn;go_enter Tryz.func19,Tryz.ntmps19;go_wp2_with fail;go_ret;exact⟨rfl,rfl⟩
theorem qzj(A B:Option Addr)(c d:Nat)(l m:List Nat)(w:World)(h1:Rd w A l.length (u64V l))(h2:Rd w B m.length (u64V m))(hl:l.length<=9223372036854775807)(hm:m.length<=9223372036854775807):
  Calls Tryz.prog 19 #[.slice A l.length c,.slice B m.length d] w λe w'=>e= .returned (.bool (decide (l=m)))/\∃t,w.drewN t=w':=by
 by_cases hlen:l.length=m.length
 ·have hne:((l.length:Int) !=(m.length:Int))=false:=by rw[hlen];simp
  have hlen':=waa hlen;rw[<-hlen] at h2;clear hlen;generalize hv:decide (l=m)=v;have hv':Hid (decide (l.drop 0=m.drop 0)=v):=waa (by simpa using hv);clear hv;go_enter Tryz.func19,Tryz.ntmps19;go_wp2_with fail;go_loopw [5] (λk wr=>∃(t j:Nat),wr=w.drewN t/\k= .int .i64 (j:Int)/\j<=l.length/\Hid (decide (l.drop j=m.drop j)=v)) (λk _=>l.length - (intOf k).toNat)
  case atStart=>exact⟨0,0,rfl,rfl,wau _,hv'⟩
  case round=>
   obtain⟨t,j,rfl,rfl,hj,hr⟩:=hrel;by_cases hlt:j<l.length
   ·obtain⟨p,x,rfl,hd1,-,c0⟩:=h1.u64_at hlt
    obtain⟨q,y,rfl,hd2,-,e0⟩:=h2.u64_at hlt;rw[hd1,hd2] at hr;have g0:(0:Int)<=(j:Int):=Zo
    have g1:(j:Int)<(l.length:Int):=Zo
    have g2:(j:Int)<(m.length:Int):=by have:=hlen'.out;omega
    clear hd1 hd2;by_cases hxy:x=y
    ·have hr2:Hid (decide (l.drop (j+1)=m.drop (j+1))=v):=waa (by rw[<-hr.out,hxy];simp)
     have hne2:((x:Int) !=(y:Int))=false:=by rw[hxy];simp
     clear hr hxy;go_wp2_with fail;go_quiet (fail)
     go_wp2_with fail;go_roundw
     case rel=>exact⟨_,j+1,rfl,by go_num,Zo,hr2⟩
     case measure=>simp[intOf];omega
    ·have hr2:Hid (v=false):=waa (by rw[<-hr.out];exact decide_eq_false (by simp[hxy]))
     have hne2:((x:Int) !=(y:Int))=true:=bne_iff_ne.2 Zo;clear hr hxy;go_wp2_with fail;go_quiet (fail)
     go_wp2_with fail;go_ret;exact⟨qab hr2.out.symm,_,by rw[World.drewN_drewN]⟩
   ·have hr2:Hid (v=true):=waa (by rw[<-hr.out,wbn Zo,wbn (by have:=hlen'.out;omega)];rfl)
    clear hr;go_wp2_with fail;go_ret;exact⟨qab hr2.out.symm,_,rfl⟩
 ·have hf:decide (l=m)=false:=decide_eq_false (λe=>hlen (by rw[e]))
  rw[hf];exact(qtn A B c d _ _ w hlen hl hm).mono λe w' ⟨h1,h2⟩=>⟨h1,0,h2⟩
theorem q9t{m:List Nat}(h:m.length%2=0):qe2 m=(logB (qa2 m)&&okF 0 m):=by
 unfold qe2;congr 1
 rw[wb8,decide_eq_true_eq];exact qxf 0 h
theorem qtl{w:World}{A:Option Addr}{n:Nat}{l:List Nat}(h:Rd w A n (u64V l)){k:Nat}(hk:k<=n):Rd w A k (u64V (l.take k)):=by
 have hl:l.length=n:=by rw[<-qai];exact h.1
 refine⟨by rw[qai,war];omega,λh0=>?_⟩;obtain⟨p,e,hp⟩:=h.2 Zo;refine⟨p,e,λj u hu=>hp j u ?_⟩;rw[<-hu];have hj:j<k:=by have:=(wan.1 hu).1;rw[qai,war] at this;omega
 simp[u64V,hj]
theorem q0g(A:Option Addr)(c s:Nat)(ws:List Nat)(w:World)(hr:Rd w A ws.length (u64V ws))(hcap:ws.length<=c)(hm:ws.length<=9223372036854775807)(hs:s<18446744073709551616)(hl:∀b∈ws,b<18446744073709551616):
  Calls Tryz.prog 111 #[.int .u64 (s:Int),.slice A ws.length c] w λe w'=>RReadE w.heap.size (qbh s ws) e w'/\Below w.heap.size w w':=by
 by_cases h0:s=0
 ·subst h0
  have hon:=waa (qgf ws);clear hr hl;go_enter Tryz.func111,Tryz.ntmps111;go_wp2_with fail;go_ret2;exact⟨RReadE.yes hon.out (wa9 _ _ _ _),wac _ _⟩
 have hne0:((s:Int)==0)=false:=beq_eq_false_iff_ne.2 Zo;have h0':=waa h0;have hl':=waa hl;clear h0 hl;obtain⟨i0,ii,iz0,iz1,iz2⟩:=info_parts qi5;go_enter Tryz.func111,Tryz.ntmps111;go_wp2_with fail;go_loopw [6] (λk wr=>∃(W:World) (n:Nat),W=wr/\k= .int .i64 (n:Int)/\1<=n/\n<=17/\Hid (∀i,1<=i->i<n->2*i<=ws.length->qbo (ws.take (2*i))≠s)/\Below w.heap.size w W) (λk _=>17 - (intOf k).toNat)
 case atStart=>exact⟨_,1,rfl,rfl,wab _,Zo,waa (λi h1 h2=>by omega),wac _ _⟩
 case round=>
  obtain⟨W,n,rfl,rfl,hn1,hn2,hno,hB⟩:=hrel;have kw0:IntKind.i64.wrap (2*(n:Int))=2*(n:Int):=wao _ Zo;by_cases h16:n<=16
  ·by_cases hlen:2*n<=ws.length
   ·have hz1:(n:Int)<=16:=Zo
    have hz2:2*(n:Int)<=(ws.length:Int):=Zo
    have hz3:(0:Int)<=2*(n:Int):=Zo
    have hz4:2*(n:Int)<=(c:Int):=Zo
    have kt:(2*(n:Int)).toNat=2*n:=Zo
    have hml:(ws.take (2*n)).length=2*n:=by rw[war];omega
    have hs1:=waa (qut (c:=c) (qtl (hr.below hB) hlen) (keep hml) Zo (keep (λb hb=>hl'.out b (wb0 hb))));by_cases hq:qbo (ws.take (2*n))=s
    ·have hhit:=q7i hn1 h16 hlen hq
     rw[q9t Zo] at hhit;have hrm:=qtl hr hlen;have hlm:∀b∈ws.take (2*n),b<18446744073709551616:=λb hb=>hl'.out b (wb0 hb)
     generalize hmm:ws.take (2*n)=m at hhit hs1 hq hrm hml hlm;have hlm':=waa hlm;have hhit':=waa hhit;generalize hro0:qbh s ws=o at hhit';have hro:=waa hro0;clear hro0;rw[hq] at hs1;have hqs:((s:Int) !=(s:Int))=false:=by simp
     clear hno hq hmm hhit hlm;go_wp2_with fail;refine hs1.out.mono ?_;rintro e w1 ⟨rfl,hC⟩;have hB1:=hB.trans (hC.mono hB.size);clear hC hB hs1;go_wp2_with fail;go_loopw [7,8] (λv k wr=>∃(W:World) (j:Nat),W=wr/\k= .int .i64 (j:Int)/\j<=n/\Hid (okF j (m.drop (2*j))=okF 0 m)/\W.ownsRow w.heap.size 152 2 v j (eV (qa2 (m.take (2*j))))/\Below w.heap.size w W) (λ_ k _=>n - (intOf k).toNat)
     case atStart=>exact⟨_,0,rfl,rfl,wau _,waa rfl,wa9 _ _ _ _,hB1⟩
     case round=>
      obtain⟨W2,j,rfl,rfl,hj,hok,hrow,hB2⟩:=hrel;by_cases hlt:j<n
      ·obtain⟨a,x,ha,hxx,hd⟩:=qrv (ws:=m) (j:=j) Zo
       have hal:=hlm'.out a (waq ha);have hsn:=waa (qkj hd).1;have hst:=q9d hd;have hok2:=waa (hst.symm.trans hok.out);obtain⟨p,rfl,hp⟩:=hrm.2 Zo;have b0:w.cell? (p.add (2*j))=some (.int .u64 (a:Int)):=hp _ _ (by simp[u64V,ha]);have b1:w.cell? ⟨p.block,p.off+(2*j+1),none⟩=some (.int .u64 (x:Int)):=hp (2*j+1) _ (by simp[u64V,hxx]);have hk0:=waa (show ∀V,Below w.heap.size w V->V.cell? (p.add (2*j))=some (.int .u64 (a:Int))/\V.cell? ⟨p.block,p.off+(2*j+1),none⟩=some (.int .u64 (x:Int)) from λV hV=>⟨(hV.cell (wak w _ b0)).trans b0,(hV.cell (wak w _ b1)).trans b1⟩);obtain⟨c0,c1⟩:=hk0.out W2 hB2;have y1:IntKind.i64.wrap ((a:Int).tmod 4294967296)=((a%4294967296:Nat):Int):=by
        rw[wd4 Zo,wao _ Zo];omega
       have y2:IntKind.u64.wrap ((a:Int)/4294967296)=((a/4294967296:Nat):Int):=by rw[wa5];omega
       have y3:IntKind.u64.wrap (j:Int)=(j:Int):=by rw[wa5];omega
       have hzj:(0:Int)<=2*(j:Int):=Zo
       have hzj2:2*(j:Int)<(ws.length:Int):=Zo
       have hzj3:(0:Int)<=2*(j:Int)+1:=Zo
       have hzj4:2*(j:Int)+1<(ws.length:Int):=Zo
       have kw1:IntKind.i64.wrap (2*(j:Int))=2*(j:Int):=wao _ Zo;have kw2:IntKind.i64.wrap (2*(j:Int)+1)=2*(j:Int)+1:=wao _ Zo;have kt0:(2*(j:Int)).toNat=2*j:=Zo
       have kt1:(2*(j:Int)+1).toNat=2*j+1:=Zo
       have hs2:=hB2.size;obtain⟨x0,x1⟩:W2.drew.cell? (p.add (2*j))=some (.int .u64 (a:Int))/\W2.drew.cell? ⟨p.block,p.off+(2*j+1),none⟩=some (.int .u64 (x:Int)):=⟨c0,c1⟩
       clear hok hst hd ha hxx b0 b1 hp hal;go_wp2_with fail;go_region_held3 (λV=>V.cell? (p.add (2*j))=some (.int .u64 (a:Int))/\V.cell? ⟨p.block,p.off+(2*j+1),none⟩=some (.int .u64 (x:Int)))
        (first|with_reducible exact⟨x0,x1⟩|go_keep|with_reducible exact⟨z0,z1⟩)
        ((refine step_append_lies _ Zr _ _ 138 Zr w.heap.size 152 i0 (.agg #[.int .i64 0,.int .u64 0]) 2 16 wgy ii iz0 iz1 iz2 Zr Zd _ _ _ Zr (qfa (hrow.alloc _) 1) ⟨W2.heap.size,0,none⟩ 1 1 [.int .i64 ((a%4294967296:Nat):Int),.int .u64 (x:Int)] Zr Zr (qb3 rfl _ Zr _) (by simp[Value.oneCell']) Zd (by simp only[maxLen];omega) Zo Zx _ Zr ?_;intro g cap1 w4 hown' hgrow hat hlg;have hB4:=qp3 hB2 hgrow (qa0 hrow);obtain⟨z0,z1⟩:=hk0.out w4 hB4))
       all_goals
        by_cases hz:a/4294967296=j
        ·have hok3:Hid (okF (j+1) (m.drop (2*(j+1)))=okF 0 m):=waa (by have:=hok2.out;rwa [decide_eq_true hz,wcv] at this)
         have hne:(((a:Int)/4294967296) !=(j:Int))=false:=by
          have:((a:Int)/4294967296)=(j:Int):=Zo
          rw[this];simp
         clear hz hok2;go_wp2_with fail;go_roundw
         case rel=>exact⟨_,j+1,rfl,by go_num,Zo,hok3,by rw[hsn.out,qn8];exact hown',hB4⟩
         case measure=>simp[intOf];omega
        ·have hon:=waa (show o=none by
          have h1:=hok2.out;rw[decide_eq_false hz,wdg] at h1;have h2:=hhit'.out;rw[<-h1,wev] at h2;exact h2)
         have hne:(((a:Int)/4294967296) !=(j:Int))=true:=bne_iff_ne.2 Zo;clear hz hok2;go_wp2_with fail;go_ret2;exact⟨RReadE.no (hro.out.trans hon.out) _ _,hB4⟩
      ·obtain rfl:j=n:=Zo
       have hok2:okF 0 m=true:=by have:=hok.out;rw[wbn Zo] at this;exact this.symm
       have hh:=hhit'.out;rw[hok2,Bool.and_true] at hh;rw[wa2 Zo] at hrow;have hLl:(qa2 m).length=j:=by rw[qlu];omega
       generalize qa2 m=L at hh hrow hLl;obtain⟨B,d,rfl,hes⟩:=EsRd.of_own hrow;have hma:=q4b B d L W2 (by rw[hLl];exact hes) Zo;rw[hLl] at hma;cases hb:logB L with
       |true=>
        rw[hb] at hh hma;have hon:=waa (show o=some L from hh);have hma':=waa hma;have hLl':=waa hLl;clear hh hma hb hok hhit' hok2 hLl;go_wp2_with fail;refine hma'.out.mono ?_;rintro e w5 ⟨rfl,rfl⟩;go_wp2_with fail;go_ret2;exact⟨RReadE.yes (hro.out.trans hon.out) (by rw[hLl'.out];exact hrow),hB2⟩
       |false=>
        rw[hb] at hh hma;have hon:=waa (show o=none from hh);have hma':=waa hma;clear hh hma hb hok hhit' hok2 hLl;go_wp2_with fail;refine hma'.out.mono ?_;rintro e w5 ⟨rfl,rfl⟩;go_wp2_with fail;go_ret2;exact⟨RReadE.no (hro.out.trans hon.out) _ _,hB2⟩
    ·generalize hqe:qbo (ws.take (2*n))=q at hs1 hq
     have hno2:=waa (show ∀i,1<=i->i<n+1->2*i<=ws.length->qbo (ws.take (2*i))≠s from λi h1 h2 h3=>by
      by_cases hi:i=n
      ·rw[hi,hqe];exact hq
      ·exact hno.out i h1 Zo h3)
     have hqs:((q:Int) !=(s:Int))=true:=bne_iff_ne.2 Zo;clear hno hq hqe;go_wp2_with fail;refine hs1.out.mono ?_;rintro e w1 ⟨rfl,hC⟩;have hB1:=hB.trans (hC.mono hB.size);clear hC hB hs1;go_wp2_with fail;go_roundw
     case rel=>exact⟨_,n+1,rfl,by go_num,Zo,Zo,hno2,hB1⟩
     case measure=>simp[intOf];omega
   ·have hon:=waa (qqh h0'.out (λi h1 h2 h3=>hno.out i h1 Zo h3))
    have hz2:¬2*(n:Int)<=(ws.length:Int):=Zo
    clear hno;go_wp2_with fail;go_ret2;exact⟨RReadE.no hon.out _ _,hB⟩
  ·have hon:=waa (qqh h0'.out (λi h1 h2 h3=>hno.out i h1 Zo h3))
   have hz2:¬(n:Int)<=16:=Zo
   clear hno;go_wp2_with fail;go_ret2;exact⟨RReadE.no hon.out _ _,hB⟩
theorem q22(s l r a:Int)(w:World)(a0:-9223372036854775808<=a)(a1:a<=9223372036854775807):Calls Tryz.prog 76 #[.agg #[.int .i64 s,.int .i64 l,.int .i64 r],.int .i64 a] w λe w'=>e= .returned (.bool (qbj s l r a))/\Below w.heap.size w w':=by
 have hg0:=Gi.new w s l r;have hB0:=qa7 w s l r;have hw:=λV=>qzb s l r a V a0 a1
 unfold plV at hw;have hw':=waa hw;obtain⟨x,y,z,hp⟩:∃x y z,plc s l r a=(x,y,z):=⟨_,_,_,rfl⟩
 have he:=waa (show qbj s l r a=(decide (x=1/\0<=y)||(decide (x=3/\z<2)||decide (x=4))) by rw[qbj,hp]);rw[hp] at hw;have hw':=waa hw;clear hw hp a0 a1;go_enter Tryz.func76,Tryz.ntmps76;go_wp2_with fail;generalize (w.alloc (.cells #[.int .i64 s,.int .i64 l,.int .i64 r] 23))=W1 at hg0 hB0 ⊢;obtain⟨c0,c1,c2,f⟩:=hg0.cells;go_wp2_with fail;refine(hw'.out _).mono ?_;rintro e w1 ⟨rfl,hB⟩;have hB1:=(hB0.trans (hB.mono hB0.size)).alloc (hB0.trans (hB.mono hB0.size)).size (.cells #[.int .i64 x,.int .i64 y,.int .i64 z] 193);by_cases h1:x=1
 ·subst h1
  by_cases h2:0<=y
  ·have hd:decide ((0:Int)<=y)=true:=decide_eq_true h2
   have he2:=waa (he.out.trans (show _=true by rw[decide_eq_true ⟨rfl,h2⟩];rfl));clear he h2;go_wp2_with fail;go_ret;exact⟨qab he2.out.symm,hB1⟩
  ·have hd:decide ((0:Int)<=y)=false:=decide_eq_false h2
   have he2:=waa (he.out.trans (show _=false by rw[decide_eq_false (λh=>h2 h.2),decide_eq_false Zo,decide_eq_false Zo];rfl));clear he h2;go_wp2_with fail;go_ret;exact⟨qab he2.out.symm,hB1⟩
 ·have hx1:(x==1)=false:=beq_eq_false_iff_ne.2 h1
  by_cases h3:x=3
  ·subst h3
   by_cases h2:z<2
   ·have hd:decide (z<2)=true:=decide_eq_true h2
    have he2:=waa (he.out.trans (show _=true by rw[decide_eq_false Zo,decide_eq_true ⟨rfl,h2⟩];rfl));clear he h2 h1;go_wp2_with fail;go_ret;exact⟨qab he2.out.symm,hB1⟩
   ·have hd:decide (z<2)=false:=decide_eq_false h2
    have he2:=waa (he.out.trans (show _=false by rw[decide_eq_false Zo,decide_eq_false (λh=>h2 h.2),decide_eq_false Zo];rfl));clear he h2 h1;go_wp2_with fail;go_ret;exact⟨qab he2.out.symm,hB1⟩
  ·have hx3:(x==3)=false:=beq_eq_false_iff_ne.2 h3
   by_cases h4:x=4
   ·have hx4:(x==4)=true:=beq_iff_eq.2 h4
    have he2:=waa (he.out.trans (show _=true by rw[decide_eq_false Zo,decide_eq_false Zo,decide_eq_true h4];rfl));clear he h1 h3 h4;go_wp2_with fail;go_ret;exact⟨qab he2.out.symm,hB1⟩
   ·have hx4:(x==4)=false:=beq_eq_false_iff_ne.2 h4
    have he2:=waa (he.out.trans (show _=false by rw[decide_eq_false Zo,decide_eq_false Zo,decide_eq_false h4];rfl));clear he h1 h3 h4;go_wp2_with fail;go_ret;exact⟨qab he2.out.symm,hB1⟩
end Go.Proofs.YtocncmbeinmiaaaGreat
