/- Parts. No condition. -/
import Derived.OrdersHeld
import Derived.Test.YtocncmbeinmiaaaGreatJoinU15
import Derived.Test.YtocncmbeinmiaaaGreatJoinU16
set_option linter.unusedVariables false
set_option maxRecDepth 100000
set_option maxHeartbeats 8000000
namespace Go.Proofs.YtocncmbeinmiaaaGreat
open Go Go.RowKit
theorem q6h{h:HD}{t:List HD}{z:Bool}(hr:(h::t).all hdB=z)(hh:hdB h=true):t.all hdB=z:=by rw[wdc,hh,wcv] at hr;exact hr
theorem q72{h:HD}{t:List HD}{z:Bool}(hr:(h::t).all hdB=z)(hh:hdB h=false):z=false:=by rw[wdc,hh,wdg] at hr;exact hr.symm
theorem q02(s l r:Int)(A:Option Addr)(cap:Nat)(hs:List HD)(w:World)(h:HdsRd w A hs.length hs)(hn:hs.length<=9223372036854775800):
  Calls Tryz.prog 176 #[.agg #[.int .i64 s,.int .i64 l,.int .i64 r],.slice A hs.length cap] w λe w'=>e= .returned (.bool (hdsB s l r hs))/\Below w.heap.size w w':=by
 have hg0:=Gm.new w s l r;have hB0:=qft w s l r;have hm:=λV=>qa1 s l r V
 cases hmb:mayB s l r with
 |false=>
  rw[hmb] at hm;have he:=waa (show hdsB s l r hs=false by rw[hdsB,hmb];rfl);have hm':=waa hm;clear hmb hm;go_enter Tryz.func176,Tryz.ntmps176;go_wp2_with fail;generalize (w.alloc (.cells #[.int .i64 s,.int .i64 l,.int .i64 r] 23))=W1 at hg0 hB0 ⊢;obtain⟨c0,c1,c2,f⟩:=hg0.cells;go_wp2_with fail;refine(hm'.out _).mono ?_;rintro e w1 ⟨rfl,hB⟩;have hB1:=hB0.trans (hB.mono hB0.size);go_wp2_with fail;go_ret;exact⟨qab he.out.symm,hB1⟩
 |true=>
  rw[hmb] at hm;have hm':=waa hm;by_cases hl:(hs.length:Int)=s
  ·have hhd:=waa (show hs.all hdB=hdsB s l r hs by rw[hdsB,hmb,decide_eq_true hl];rfl)
   generalize hdsB s l r hs=z at hhd ⊢;have hne:((hs.length:Int) !=s)=false:=by rw[hl];simp
   clear hmb hm hl;go_enter Tryz.func176,Tryz.ntmps176;go_wp2_with fail;generalize (w.alloc (.cells #[.int .i64 s,.int .i64 l,.int .i64 r] 23))=W1 at hg0 hB0 ⊢;obtain⟨c0,c1,c2,f⟩:=hg0.cells;go_wp2_with fail;refine(hm'.out _).mono ?_;rintro e w1 ⟨rfl,hB⟩;have hg1:=hg0.below hB hg0.lt;have hB1:=hB0.trans (hB.mono hB0.size);obtain⟨d0,d1,d2,f1⟩:=hg1.cells;clear hg0 hB0 hB c0 c1 c2 f;go_wp2_with fail;clear hg1 d0 d1 d2 f1;go_loopw [5] (λq wr=>∃(W:World) (j:Nat),W=wr/\q= .int .i64 (j:Int)/\j<=hs.length/\Hid ((hs.drop j).all hdB=z)/\Below w.heap.size w W) (λq _=>hs.length - (intOf q).toNat)
   case atStart=>exact⟨_,0,rfl,rfl,wau _,waa hhd.out,hB1⟩
   case round=>
    clear hB1;obtain⟨W,j,rfl,rfl,hj,hr,hB⟩:=hrel;by_cases hlt:j<hs.length
    ·obtain⟨p,k,c,n,rfl,hd,-,h0,h1,h2⟩:=(h.below hB).at_ hlt
     rw[hd] at hr;clear hd;have hmm:=λV=>qp6 k c n V
     rw[show qav k c n=hdB (k,c,n) from rfl] at hmm;cases hh:hdB (k,c,n) with
     |true=>
      rw[hh] at hmm;have hr2:=waa (q6h hr.out hh);have hmm':=waa hmm;clear hr hh hmm;go_wp2_with fail;refine(hmm'.out _).mono ?_;rintro e w2 ⟨rfl,hC⟩;have hB2:=hB.trans (hC.mono hB.size);go_wp2_with fail;go_roundw
      case rel=>exact⟨_,j+1,rfl,by go_num,Zo,hr2,hB2⟩
      case measure=>simp[intOf];omega
     |false=>
      rw[hh] at hmm;have hr2:=waa (q72 hr.out hh);have hmm':=waa hmm;clear hr hh hmm;go_wp2_with fail;refine(hmm'.out _).mono ?_;rintro e w2 ⟨rfl,hC⟩;have hB2:=hB.trans (hC.mono hB.size);go_wp2_with fail;try rw[wa0]
      go_ret;exact⟨qab hr2.out.symm,hB2⟩
    ·have e1:hs.drop j=[]:=wbn Zo
     rw[e1] at hr;have hr2:=waa (show z=true from hr.out.symm.trans rfl);clear hr e1;go_wp2_with fail;go_ret;exact⟨qab hr2.out.symm,hB⟩
  ·have hne:((hs.length:Int) !=s)=true:=bne_iff_ne.2 hl
   have he:=waa (show hdsB s l r hs=false by rw[hdsB,decide_eq_false hl,wdg,wev]);clear hmb hm hl;go_enter Tryz.func176,Tryz.ntmps176;go_wp2_with fail;generalize (w.alloc (.cells #[.int .i64 s,.int .i64 l,.int .i64 r] 23))=W1 at hg0 hB0 ⊢;obtain⟨c0,c1,c2,f⟩:=hg0.cells;go_wp2_with fail;refine(hm'.out _).mono ?_;rintro e w1 ⟨rfl,hB⟩;have hg1:=hg0.below hB hg0.lt;have hB1:=hB0.trans (hB.mono hB0.size);obtain⟨d0,d1,d2,f1⟩:=hg1.cells;clear hg0 hB0 hB c0 c1 c2 f;go_wp2_with fail;go_ret;exact⟨qab he.out.symm,hB1⟩
theorem q4q{k n:Nat}{h:HD}{t:List HD}{z:Bool}(hr:qdk k (n+1) (h::t)=z)(h3:h.1=3)(hk:h.2.2=(k:Int)):qdk (k+1) n t=z:=by rw[qeo,decide_eq_true ⟨h3,hk⟩,wcv] at hr;exact hr
theorem qrk{k n:Nat}{h:HD}{t:List HD}{z:Bool}(hr:qdk k (n+1) (h::t)=z)(hx:¬(h.1=3/\h.2.2=(k:Int))):z=false:=by rw[qeo,decide_eq_false hx,wdg] at hr;exact hr.symm
theorem qnz(s l r i:Int)(A:Option Addr)(cap:Nat)(hs:List HD)(w:World)(h:HdsRd w A hs.length hs)(hn:hs.length<=9223372036854775800):
  Calls Tryz.prog 136 #[.agg #[.int .i64 s,.int .i64 l,.int .i64 r],.slice A hs.length cap,.int .i64 i] w λe w'=>e= .returned (.bool (qez s l r hs i))/\Below w.heap.size w w':=by
 have hg0:=Gm.new w s l r;have hB0:=qft w s l r;have hm:=λ(V:World) (hV:Below w.heap.size w V)=>q02 s l r A cap hs V (h.below hV) hn
 cases hmb:hdsB s l r hs with
 |false=>
  rw[hmb] at hm;have he:=waa (show qez s l r hs i=false by rw[qez,hmb];rfl);have hm':=waa hm;clear hmb hm;go_enter wdv,wdw;go_wp2_with fail;generalize (w.alloc (.cells #[.int .i64 s,.int .i64 l,.int .i64 r] 23))=W1 at hg0 hB0 ⊢;obtain⟨c0,c1,c2,f⟩:=hg0.cells;go_wp2_with fail;refine(hm'.out _ hB0).mono ?_;rintro e w1 ⟨rfl,hB⟩;have hB1:=hB0.trans (hB.mono hB0.size);go_wp2_with fail;go_ret;exact⟨qab he.out.symm,hB1⟩
 |true=>
  rw[hmb] at hm;have he:=waa (show whoI hs i=qez s l r hs i by rw[qez,hmb];rfl);generalize qez s l r hs i=z at he ⊢;have hm':=waa hm;have hall:=(hdsB_iff.1 hmb).2.2;by_cases hi0:i<0
  ·have hz:=waa (he.out.symm.trans (qk1 (hs:=hs) (.inl hi0)))
   clear hmb hm he hall;go_enter wdv,wdw;go_wp2_with fail;generalize (w.alloc (.cells #[.int .i64 s,.int .i64 l,.int .i64 r] 23))=W1 at hg0 hB0 ⊢;obtain⟨c0,c1,c2,f⟩:=hg0.cells;go_wp2_with fail;refine(hm'.out _ hB0).mono ?_;rintro e w1 ⟨rfl,hB⟩;have hB1:=hB0.trans (hB.mono hB0.size);go_wp2_with fail;go_ret;exact⟨qab hz.out.symm,hB1⟩
  ·obtain⟨j,rfl⟩:=waz (show 0<=i by omega)
   by_cases hj:j<hs.length
   ·have he2:=waa ((qiy hs j).symm.trans he.out)
    clear he;obtain⟨p,k,c,n,rfl,hd,hmem,-,-,-⟩:=h.at_ hj;have hk0:=waa (show ∀V,Below w.heap.size w V->V.cell? (p.add (j*3))=some (.int .i64 k)/\V.cell? ⟨(p.add (j*3)).block,(p.add (j*3)).off+2,none⟩=some (.int .i64 n) from λV hV=>by
     obtain⟨p',k',c',n',e1,e2,-,g0,g1,g2⟩:=(h.below hV).at_ hj;injection e1 with e1;subst e1;rw[hd] at e2;injection e2 with e2 _;injection e2 with e3 e4;injection e4 with e4 e5;subst e3 e5;exact⟨g0,g2⟩)
    have hmk:=hall _ hmem;by_cases k1:k=1
    ·subst k1
     have hz:=waa (he2.out.symm.trans (qgo hd rfl));clear hmb hm hd hmem hmk hall he2;go_enter wdv,wdw;go_wp2_with fail;generalize (w.alloc (.cells #[.int .i64 s,.int .i64 l,.int .i64 r] 23))=W1 at hg0 hB0 ⊢;obtain⟨c0,c1,c2,f⟩:=hg0.cells;go_wp2_with fail;refine(hm'.out _ hB0).mono ?_;rintro e w1 ⟨rfl,hB⟩;have hB1:=hB0.trans (hB.mono hB0.size);obtain⟨x0,x2⟩:=hk0.out w1 hB1;go_wp2_with fail;go_ret;exact⟨qab hz.out.symm,hB1⟩
    ·have ek1:(k==1)=false:=beq_eq_false_iff_ne.2 k1
     by_cases k2:k=2
     ·subst k2
      obtain⟨-,-,n0,n1⟩:=qe8 hmk rfl;have n0':1<=n:=n0;have n1':n<=4:=n1;obtain⟨m,rfl⟩:=waz (show 0<=n by omega);have kj:IntKind.i64.wrap ((j:Int)+(m:Int))=(j:Int)+(m:Int):=wao _ Zo;have hz:=he2.out.symm.trans (qey hd rfl);rw[show(((2,c,(m:Int)):HD).2.2).toNat=m from wam m] at hz;by_cases hx:hs.length<j+m
      ·have hz2:=waa (hz.trans (qja (by rw[wbu];omega)))
       have hx1:(hs.length:Int)<(j:Int)+(m:Int):=Zo
       clear hmb hm hd hmem hmk hall he2 hz;go_enter wdv,wdw;go_wp2_with fail;generalize (w.alloc (.cells #[.int .i64 s,.int .i64 l,.int .i64 r] 23))=W1 at hg0 hB0 ⊢;obtain⟨c0,c1,c2,f⟩:=hg0.cells;go_wp2_with fail;refine(hm'.out _ hB0).mono ?_;rintro e w1 ⟨rfl,hB⟩;have hB1:=hB0.trans (hB.mono hB0.size);obtain⟨x0,x2⟩:=hk0.out w1 hB1;go_wp2_with fail;go_ret;exact⟨qab hz2.out.symm,hB1⟩
      ·have hx1:¬(hs.length:Int)<(j:Int)+(m:Int):=Zo
       have hz2:=waa hz.symm;clear hmb hm hd hmem hmk hall he2 hz;go_enter wdv,wdw;go_wp2_with fail;generalize (w.alloc (.cells #[.int .i64 s,.int .i64 l,.int .i64 r] 23))=W1 at hg0 hB0 ⊢;obtain⟨c0,c1,c2,f⟩:=hg0.cells;go_wp2_with fail;refine(hm'.out _ hB0).mono ?_;rintro e w1 ⟨rfl,hB⟩;have hB1:=hB0.trans (hB.mono hB0.size);obtain⟨x0,x2⟩:=hk0.out w1 hB1;go_wp2_with fail;go_loopw [7] (λq wr=>∃(W:World) (b:Nat),W=wr/\q= .int .i64 (b:Int)/\1<=b/\b<=m/\Hid (qdk b (m - b) (hs.drop (j+b))=z)/\Below w.heap.size w W) (λq _=>m - (intOf q).toNat)
       case atStart=>exact⟨_,1,rfl,rfl,wab _,Zo,waa hz2.out,hB1⟩
       case round=>
        clear hB1 x0 x2 hz2;obtain⟨W,b,rfl,rfl,hb1,hb2,hr,hB⟩:=hrel;obtain⟨x0,x2⟩:=hk0.out W hB;by_cases hlt:b<m
        ·obtain⟨p',k',c',n',e1,hd,-,g0,-,g2⟩:=(h.below hB).at_ (show j+b<hs.length by omega)
         injection e1 with e1;subst e1;rw[hd,show m - b=(m - (b+1))+1 by omega] at hr;have kb:IntKind.i64.wrap ((j:Int)+(b:Int))=(j:Int)+(b:Int):=wao _ Zo;have kt:((j:Int)+(b:Int)).toNat=j+b:=Zo
         have hb3:(j:Int)+(b:Int)<(hs.length:Int):=Zo
         have hb4:(0:Int)<=(j:Int)+(b:Int):=Zo
         by_cases h3:k'=3
         ·have e3:(k' !=3)=false:=by rw[h3];rfl
          by_cases hnb:n'=(b:Int)
          ·have enb:(n' !=(b:Int))=false:=by rw[hnb];simp
           have hr2:=waa (q4q hr.out h3 hnb);clear hr h3 hnb hd;go_wp2_with fail;go_roundw
           case rel=>exact⟨_,b+1,rfl,by go_num,Zo,Zo,hr2,hB⟩
           case measure=>simp[intOf];omega
          ·have enb:(n' !=(b:Int))=true:=bne_iff_ne.2 hnb
           have hr2:=waa (qrk hr.out (λx=>hnb x.2));clear hr h3 hnb hd;go_wp2_with fail;try rw[wa0]
           go_ret;exact⟨qab hr2.out.symm,hB⟩
         ·have e3:(k' !=3)=true:=bne_iff_ne.2 h3
          have hr2:=waa (qrk hr.out (λx=>h3 x.1));clear hr h3 hd;go_wp2_with fail;try rw[wa0]
          go_ret;exact⟨qab hr2.out.symm,hB⟩
        ·obtain rfl:b=m:=Zo
         rw[wcw] at hr;have hr2:=waa (show z=true from hr.out.symm.trans rfl);clear hr;go_wp2_with fail;go_ret;exact⟨qab hr2.out.symm,hB⟩
     ·have ek2:(k !=2)=true:=bne_iff_ne.2 k2
      have hz:=waa (he2.out.symm.trans (qeb hd k1 k2));clear hmb hm hd hmem hmk hall he2;go_enter wdv,wdw;go_wp2_with fail;generalize (w.alloc (.cells #[.int .i64 s,.int .i64 l,.int .i64 r] 23))=W1 at hg0 hB0 ⊢;obtain⟨c0,c1,c2,f⟩:=hg0.cells;go_wp2_with fail;refine(hm'.out _ hB0).mono ?_;rintro e w1 ⟨rfl,hB⟩;have hB1:=hB0.trans (hB.mono hB0.size);obtain⟨x0,x2⟩:=hk0.out w1 hB1;go_wp2_with fail;go_ret;exact⟨qab hz.out.symm,hB1⟩
   ·have hz:=waa (he.out.symm.trans (qk1 (hs:=hs) (i:=(j:Int)) (.inr Zo)))
    have hj2:(hs.length:Int)<=(j:Int):=Zo
    clear hmb hm he hall;go_enter wdv,wdw;go_wp2_with fail;generalize (w.alloc (.cells #[.int .i64 s,.int .i64 l,.int .i64 r] 23))=W1 at hg0 hB0 ⊢;obtain⟨c0,c1,c2,f⟩:=hg0.cells;go_wp2_with fail;refine(hm'.out _ hB0).mono ?_;rintro e w1 ⟨rfl,hB⟩;have hB1:=hB0.trans (hB.mono hB0.size);go_wp2_with fail;go_ret;exact⟨qab hz.out.symm,hB1⟩
def bV(l:List BL):List Value:=l.flatMap λb=>[.int .i64 b.1,.int .i64 b.2.1,.int .i64 b.2.2.1,.int .i64 b.2.2.2]
theorem qacl(l:List BL):(bV l).length=l.length*4:=by
 induction l with
 |nil=>rfl
 |cons e r ih=>
  show(Value.int .i64 e.1::Value.int .i64 e.2.1::Value.int .i64 e.2.2.1::Value.int .i64 e.2.2.2::bV r).length=_
  simp only[way,ih];omega
theorem qwh(l:List BL)(a b c d:Int):bV (l++[(a,b,c,d)])=bV l++[.int .i64 a,.int .i64 b,.int .i64 c,.int .i64 d]:=by simp[bV]
theorem qacs{l:List BL}{j:Nat}{e:BL}(h:l[j]? =some e):(bV l)[j*4]? =some (.int .i64 e.1)/\(bV l)[j*4+1]? =some (.int .i64 e.2.1)/\(bV l)[j*4+2]? =some (.int .i64 e.2.2.1)/\(bV l)[j*4+3]? =some (.int .i64 e.2.2.2):=by
 induction l generalizing j with
 |nil=>simp at h
 |cons f r ih=>
  cases j with
  |zero=>
   obtain rfl:f=e:=by simpa using h
   exact⟨rfl,rfl,rfl,rfl⟩
  |succ k=>
   have:=ih (j:=k) (by simpa using h)
   rw[show(k+1)*4=k*4+1+1+1+1 by omega];exact this
def BsRd(w:World)(A:Option Addr)(n:Nat)(l:List BL):Prop:=
 l.length=n/\(0<n->∃p,A=some p/\∀j e,l[j]? =some e->w.cell? (p.add (j*4))=some (.int .i64 e.1)/\w.cell? ⟨(p.add (j*4)).block,(p.add (j*4)).off+1,none⟩=some (.int .i64 e.2.1)/\
  w.cell? ⟨(p.add (j*4)).block,(p.add (j*4)).off+2,none⟩=some (.int .i64 e.2.2.1)/\w.cell? ⟨(p.add (j*4)).block,(p.add (j*4)).off+3,none⟩=some (.int .i64 e.2.2.2))
theorem BsRd.below{w w':World}{A:Option Addr}{n:Nat}{l:List BL}(h:BsRd w A n l)(hB:Below w.heap.size w w'):BsRd w' A n l:=
 ⟨h.1,λhn=>by
  obtain⟨p,e,hp⟩:=h.2 hn;refine⟨p,e,λj x hx=>?_⟩;obtain⟨h0,h1,h2,h3⟩:=hp j x hx;exact⟨(hB.cell (wak w _ h0)).trans h0,(hB.cell (wak w _ h1)).trans h1,(hB.cell (wak w _ h2)).trans h2,(hB.cell (wak w _ h3)).trans h3⟩⟩
theorem BsRd.at_{w:World}{A:Option Addr}{n k:Nat}{l:List BL}(h:BsRd w A n l)(hk:k<n):∃p a b c d,A=some p/\l[k]? =some (a,b,c,d)/\w.cell? (p.add (k*4))=some (.int .i64 a)/\w.cell? ⟨(p.add (k*4)).block,(p.add (k*4)).off+1,none⟩=some (.int .i64 b)/\
  w.cell? ⟨(p.add (k*4)).block,(p.add (k*4)).off+2,none⟩=some (.int .i64 c)/\w.cell? ⟨(p.add (k*4)).block,(p.add (k*4)).off+3,none⟩=some (.int .i64 d):=by
 obtain⟨p,e,hp⟩:=h.2 Zo;have hl:k<l.length:=by rw[h.1];exact hk
 obtain⟨h0,h1,h2,h3⟩:=hp k l[k] (waj hl);exact⟨p,l[k].1,l[k].2.1,l[k].2.2.1,l[k].2.2.2,e,waj hl,h0,h1,h2,h3⟩
theorem BsRd.of_own{w:World}{base n:Nat}{v:Value}{l:List BL}(h:w.ownsRow base 179 4 v n (bV l)):∃A cap,v= .slice A n cap/\BsRd w A n l:=by
 have hl:l.length=n:=by have:=h.1;rw[qacl] at this;omega
 rcases h.2 with ⟨rfl,h0⟩|⟨g,cap,cur,rfl,hb,hg,hn,hc,hs,ht⟩
 ·subst h0
  exact⟨none,0,rfl,hl,λh=>absurd h Zo⟩
 ·refine⟨_,_,rfl,hl,λ_=>⟨_,rfl,λj e he=>?_⟩⟩
  obtain⟨h0,h1,h2,h3⟩:=qacs he;have hj:j<n:=by rw[<-hl];exact(wan.1 he).1
  have ha:∀i,i<n*4->cur[i]? =(bV l)[i]?:=λi hi=>by
   rw[<-ht,wbh,if_pos hi,wb9]
  have e0:(⟨g,0,none⟩:Addr).add (j*4)=⟨g,j*4,none⟩:=by unfold Addr.add;split<;>simp_all
  rw[e0];exact⟨by rw[qaa hg,ha (j*4) Zo];exact h0,by rw[qaa hg,ha (j*4+1) Zo];exact h1,by rw[qaa hg,ha (j*4+2) Zo];exact h2,by rw[qaa hg,ha (j*4+3) Zo];exact h3⟩
theorem qxu:(Tryz.prog.info? 179).map (λi=>(i.zero,i.size,i.bytes))=some (some (.agg #[.int .i64 0,.int .i64 0,.int .i64 0,.int .i64 0]),4,32):=by kernel_rfl
theorem qko{L:List BL}{j:Nat}{b:BL}(h:L[j]? =some b):L.take (j+1)=L.take j++[b]:=by rw[wb4,h];rfl
theorem qw0{i:Nat}{wd:Int}(h:0<wd):((i:Int)*wd).tdiv wd=(i:Int):=by
 rw[wew (we3 Zo Zo),Int.mul_ediv_cancel _ Zo]
theorem qz0{s l r:Int}{hs t:List HD}{j:Nat}{x:HD}(hd:hs.drop j=x::t)(hm:hdB x=true)(hw:whoB hs j=true):2<=adWd x/\0<=adNb x/\adNb x<=32/\adWd x<=256/\((x.1=2/\adNb x=1/\adWd x=x.2.2*64/\1<=x.2.2/\x.2.2<=4)\/(x.1≠2/\adNb x*adWd x=64/\adWd x=szN x.2.1)):=by
 have h1:=qh9 x;have h2:=qib hm;by_cases k2:x.1=2
 ·obtain⟨a1,a2,a3,a4⟩:=qe8 hm k2
  exact⟨Zo,h1.1,h1.2,h2.2,.inl ⟨k2,a1,a2,a3,a4⟩⟩
 ·by_cases k1:x.1=1
  ·obtain⟨a1,a2⟩:=qiv hm k1
   exact⟨a2,h1.1,h1.2,h2.2,.inr ⟨k2,a1,if_neg k2⟩⟩
  ·rw[qeb hd k1 k2] at hw
   cases hw
theorem qq9{s l r:Int}{hs:List HD}{j i:Nat}{sp wd:Int}(hj:j<16)(hi:i<=32):(qas s l r hs j++bls sp (j:Int) wd i).length<=32*j+32:=by
 rw[was,qv4];have:=qm4 s l r hs j
 omega
theorem qpw(s l r:Int)(A:Option Addr)(cap:Nat)(hs:List HD)(w:World)(h:HdsRd w A hs.length hs)(hn:hs.length<=9223372036854775800):
  Calls Tryz.prog 94 #[.agg #[.int .i64 s,.int .i64 l,.int .i64 r],.slice A hs.length cap] w λe w'=>∃v,e= .returned v/\w'.ownsRow w.heap.size 179 4 v (qbd s l r hs).length (bV (qbd s l r hs))/\Below w.heap.size w w':=by
 obtain⟨i0,ii,iz0,iz1,iz2⟩:=info_parts qxu;have hg0:=Gm.new w s l r;have hB0:=qft w s l r;cases hmb:hdsB s l r hs with
 |false=>
  rw[qg9 hmb];have hw:=waa (λ(V:World) (hV:Below w.heap.size w V) (j:Nat)=>show Calls Tryz.prog 136 #[.agg #[.int .i64 s,.int .i64 l,.int .i64 r],.slice A hs.length cap,.int .i64 (j:Int)] V λe w'=>e= .returned (.bool false)/\Below V.heap.size V w' from by
   have:=qnz s l r (j:Int) A cap hs V (h.below hV) hn
   rw[show qez s l r hs (j:Int)=false by rw[qez,hmb];rfl] at this;exact this)
  clear hmb;go_enter Tryz.func94,Tryz.ntmps94;go_wp2_with fail;generalize (w.alloc (.cells #[.int .i64 s,.int .i64 l,.int .i64 r] 23))=W1 at hg0 hB0 ⊢;have hgl:=hg0.lt;have hsz:=waa hgl;clear hgl;go_wp2_with fail;go_loopw [5,6,9] (λv q _ wr=>∃(W:World) (j:Nat),W=wr/\v= .slice none 0 0/\q= .int .i64 (j:Int)/\j<=hs.length/\Gm W w.heap.size s l r/\Below w.heap.size w W) (λ_ q _ _=>hs.length - (intOf q).toNat)
  case atStart=>exact⟨_,0,rfl,rfl,rfl,wau _,hg0,hB0⟩
  case round=>
   clear hg0 hB0;obtain⟨W,j,rfl,rfl,rfl,hj,hg,hB⟩:=hrel;by_cases hlt:j<hs.length
   ·obtain⟨c0,c1,c2,f⟩:=hg.cells
    go_wp2_with fail;refine(hw.out _ hB j).mono ?_;rintro e w2 ⟨rfl,hC⟩;have hg2:=hg.below hC hg.lt;have hB2:=hB.trans (hC.mono hB.size);go_wp2_with fail;go_roundw
    case rel=>exact⟨_,j+1,rfl,rfl,by go_num,Zo,hg2,hB2⟩
    case measure=>simp[intOf];omega
   ·go_wp2_with fail
    go_ret;exact⟨_,rfl,wa9 _ _ _ _,hB⟩
 |true=>
  rw[qd9 hmb];obtain⟨hma,hlen,hall⟩:=hdsB_iff.1 hmb;have hl16:hs.length<=16:=by have:=mayB_iff.1 hma;omega
  have hw:=waa (λ(V:World) (hV:Below w.heap.size w V) (j:Nat)=>show Calls Tryz.prog 136 #[.agg #[.int .i64 s,.int .i64 l,.int .i64 r],.slice A hs.length cap,.int .i64 (j:Int)] V λe w'=>e= .returned (.bool (whoB hs j))/\Below V.heap.size V w' from by
   have:=qnz s l r (j:Int) A cap hs V (h.below hV) hn
   rw[show qez s l r hs (j:Int)=whoB hs j by rw[qez,hmb,qiy];rfl] at this;exact this)
  have hall':=waa hall;have hsb:=waa (show ∀j,j<hs.length->0<=qby s l r (j:Int)/\qby s l r (j:Int)<=4000 from λj hj=>by
   have a3:=qf1 (j:=j) hma Zo;have:=mayB_iff.1 hma
   omega)
  have hend:=waa (show qas s l r hs hs.length=qas s l r hs hs.length from rfl);clear hall hmb hma hlen;go_enter Tryz.func94,Tryz.ntmps94;go_wp2_with fail;generalize (w.alloc (.cells #[.int .i64 s,.int .i64 l,.int .i64 r] 23))=W1 at hg0 hB0 ⊢;go_wp2_with fail;go_loopw [5,6,9] (λv q _ wr=>∃(W:World) (j:Nat),W=wr/\W.ownsRow w.heap.size 179 4 v (qas s l r hs j).length (bV (qas s l r hs j))/\q= .int .i64 (j:Int)/\j<=hs.length/\Gm W w.heap.size s l r/\Below w.heap.size w W) (λ_ q _ _=>hs.length - (intOf q).toNat)
  case atStart=>exact⟨_,0,rfl,wa9 _ _ _ _,rfl,wau _,hg0,hB0⟩
  case round=>
   clear hg0 hB0;obtain⟨W,j,rfl,hrow,rfl,hj,hg,hB⟩:=hrel;by_cases hlt:j<hs.length
   ·obtain⟨c0,c1,c2,f⟩:=hg.cells
    have hwj:=hw.out W hB j;cases hwb:whoB hs j with
    |false=>
     rw[hwb] at hwj;have hu:qas s l r hs (j+1)=qas s l r hs j:=by rw[qdz,qhk hwb,wbl]
     rw[<-hu] at hrow;have hwj':=waa hwj;clear hu hwb hwj;go_wp2_with fail;refine hwj'.out.mono ?_;rintro e w2 ⟨rfl,hC⟩;have hg2:=hg.below hC hg.lt;have hB2:=hB.trans (hC.mono hB.size);have hr2:=qaf hrow hC;go_wp2_with fail;go_roundw
     case rel=>exact⟨_,j+1,rfl,hr2,by go_num,Zo,hg2,hB2⟩
     case measure=>simp[intOf];omega
    |true=>
     rw[hwb] at hwj;have hwj':=waa hwj;obtain⟨p,k,c,m,rfl,hd,hmem,d0,d1,d2⟩:=(h.below hB).at_ hlt;have hk0:=waa (show ∀V,Below w.heap.size w V->V.cell? (p.add (j*3))=some (.int .i64 k)/\V.cell? ⟨(p.add (j*3)).block,(p.add (j*3)).off+1,none⟩=some (.int .i64 c)/\V.cell? ⟨(p.add (j*3)).block,(p.add (j*3)).off+2,none⟩=some (.int .i64 m) from λV hV=>by
      obtain⟨p',k',c',n',e1,e2,-,g0,g1,g2⟩:=(h.below hV).at_ hlt;injection e1 with e1;subst e1;rw[hd] at e2;injection e2 with e2 _;injection e2 with e3 e4;injection e4 with e4 e5;subst e3 e4 e5;exact⟨g0,g1,g2⟩)
     have hx:hs[j]? =some (k,c,m):=by
      have:=wbc hlt
      rw[hd] at this;injection this with e1 e2;rw[waj hlt,e1]
     obtain⟨p1,p2,p3,p4,p5⟩:=qz0 (s:=s) (l:=l) (r:=r) hd (hall'.out _ hmem) hwb;obtain⟨sp,hsp⟩:∃sp,sp=qby s l r (j:Int):=⟨_,rfl⟩
     have hsb2:=hsb.out j hlt;obtain⟨nb,hnb⟩:∃nb,nb=adNb (k,c,m):=⟨_,rfl⟩
     obtain⟨wd,hwd⟩:∃wd,wd=adWd (k,c,m):=⟨_,rfl⟩
     have hup:=λ(i:Nat) (hi:(i:Int)=nb)=>qrx (s:=s) (l:=l) (r:=r) hwb hx (hnb▸hi)
     have hsc:=λU=>q1f s l r (j:Int) U
     rw[<-hsp] at hup hsb2 hsc;rw[<-hwd] at hup;rw[<-hnb] at p2 p3 p5;rw[<-hwd] at p1 p4 p5;have hup':=waa hup;have hsc':=waa hsc;clear hup hsc hsp hnb hwd hx hmem hwb hwj hd d0 d1 d2;obtain⟨en,hen,hen2⟩:∃en:Int,Hid (nb*wd=en)/\en<=8192:=⟨nb*wd,rfl,Int.le_trans (wg6 p3 p4 Zo Zo) Zo⟩
     have hin:=waa (show ∀(x:Value) (U:World) (i:Nat),U.ownsRow w.heap.size 179 4 x (qas s l r hs j++bls sp (j:Int) wd i).length (bV (qas s l r hs j++bls sp (j:Int) wd i))->True from λ_ _ _ _=>trivial);go_wp2_with fail;refine hwj'.out.mono ?_;rintro e w2 ⟨rfl,hC⟩;have hg2:Gm w2 w.heap.size s l r:=hg.below hC hg.lt;have hB2:=hB.trans (hC.mono hB.size);have hr2:=qaf hrow hC;obtain⟨d0,d1,d2⟩:=hk0.out w2 hB2;clear hwj' hC hrow hg hB c0 c1 c2 f;go_wp2_with fail;refine(qi9 c _).mono ?_;rintro e w3 ⟨rfl,hC⟩;have hg3:Gm w3 w.heap.size s l r:=hg2.below hC hg2.lt;have hB3:=hB2.trans (hC.mono hB2.size);have hr3:=qaf hr2 hC;obtain⟨x0,x1,x2⟩:=hk0.out w3 hB3;clear hC hr2 hg2 hB2 d0 d1 d2;rcases p5 with ⟨k2,q1,q2,q3,q4⟩|⟨k2,q1,q2⟩
     ·have k2':k=2:=k2
      subst k2';have q2':wd=m*64:=q2;have q3':1<=m:=q3;have q4':m<=4:=q4;have kw:IntKind.i64.wrap (64*m)=wd:=by rw[wao _ Zo];omega
      obtain rfl:wd=en:=by rw[<-hen.out,q1];omega
      clear q1 q2 q3 q4 q2' k2;go_wp2_with fail;go_loopw [5,9] (λv q wr=>∃(U:World) (i:Nat) (off:Int),U=wr/\U.ownsRow w.heap.size 179 4 v (qas s l r hs j++bls sp (j:Int) wd i).length (bV (qas s l r hs j++bls sp (j:Int) wd i))/\q= .int .i64 off/\Hid (off=(i:Int)*wd)/\0<=off/\off<=wd/\(i:Int)<=nb/\Gm U w.heap.size s l r/\Below w.heap.size w U) (λ_ q _=>(wd:Int).toNat - (intOf q).toNat)
      case atStart=>exact⟨_,0,0,rfl,by simpa[bls] using hr3,rfl,waa Zs,Zo,Zo,p2,hg3,hB3⟩
      case round=>
       clear hr3 hg3 hB3;obtain⟨U,i,off,rfl,hrow,rfl,hoff,ho0,ho1,hi,hg,hB⟩:=hrel;by_cases hil:off<wd
       ·have hib:(i:Int)<nb:=by
         rcases wf6 (i:Int) nb with hh|hh
         ·exact hh
         ·exfalso
          have h1:=hoff.out;rw[show(i:Int)=nb by omega,hen.out] at h1;omega
        have hoff2:off+wd<=wd:=by
         have h1:((i:Int)+1)*wd<=nb*wd:=wef Zo Zo;rw[wdh,weg,hen.out,<-hoff.out] at h1;exact h1
        have kq:off.tdiv wd=(i:Int):=by rw[hoff.out];exact qw0 Zo
        have kwi:IntKind.i64.wrap (i:Int)=(i:Int):=wao _ Zo;have kw1:IntKind.i64.wrap (sp+off)=sp+off:=wao _ Zo;have kw2:IntKind.i64.wrap (off+wd)=off+wd:=wao _ Zo;have hw0:¬wd=0:=Zo
        have hw1:(wd==0)=false:=beq_eq_false_iff_ne.2 hw0;have hoff3:=waa (show off+wd=((i+1:Nat):Int)*wd by rw[hoff.out,wcg,wdh];simp);have hlen:=waa (qq9 (s:=s) (l:=l) (r:=r) (hs:=hs) (j:=j) (i:=i) (sp:=sp) (wd:=wd) Zo Zo);have hsn:=waa (show bV (qas s l r hs j++bls sp (j:Int) wd (i+1))=bV (qas s l r hs j++bls sp (j:Int) wd i)++[.int .i64 (sp+off),.int .i64 (j:Int),.int .i64 (i:Int),.int .i64 wd]/\(qas s l r hs j++bls sp (j:Int) wd (i+1)).length=(qas s l r hs j++bls sp (j:Int) wd i).length+1 from by
         rw[qg7,<-wbm,qwh,<-hoff.out];exact⟨rfl,by rw[was];rfl⟩)
        generalize bV (qas s l r hs j++bls sp (j:Int) wd i)=vs at hrow hsn;generalize (qas s l r hs j++bls sp (j:Int) wd i).length=nn at hrow hsn hlen;obtain⟨z0,z1,z2,zf⟩:U.drew.cell? ⟨w.heap.size,0,none⟩=some (.int .i64 s)/\U.drew.cell? ⟨w.heap.size,1,none⟩=some (.int .i64 l)/\U.drew.cell? ⟨w.heap.size,2,none⟩=some (.int .i64 r)/\(∀o,U.drew.frozen? ⟨w.heap.size,o,none⟩=false):=hg.cells;have hnn:nn<=544:=by have:=hlen.out;omega
        go_wp2_with fail;go_region_held3 (λV=>V.cell? ⟨w.heap.size,0,none⟩=some (.int .i64 s)/\V.cell? ⟨w.heap.size,1,none⟩=some (.int .i64 l)/\V.cell? ⟨w.heap.size,2,none⟩=some (.int .i64 r))
         (first|with_reducible exact⟨z0,z1,z2⟩|go_keep|with_reducible exact⟨y0,y1,y2⟩|with_reducible exact⟨x0',x1',x2'⟩)
         (first
          |(go_at_call 138
            refine(hsc'.out _).mono ?_;rintro e w4 ⟨rfl,hC⟩;have hBx:Below U.heap.size U w4:=(wac U.heap.size U).drew.trans hC;have hg4:Gm w4 w.heap.size s l r:=hg.below hBx hg.lt;have hB4:=hB.trans (hBx.mono hB.size);have ho4:=qaf hrow hBx;have hs4:=hB4.size;obtain⟨y0,y1,y2,yf⟩:=hg4.cells)
          |((refine step_append_lies _ Zr _ _ 176 Zr w.heap.size 179 i0 (.agg #[.int .i64 0,.int .i64 0,.int .i64 0,.int .i64 0]) 4 32 Tryz.underlying176 ii iz0 iz1 iz2 Zr Zd _ _ _ Zr (ho4.alloc _) ⟨w4.heap.size,0,none⟩ 1 1 [.int .i64 (sp+off),.int .i64 (j:Int),.int .i64 (i:Int),.int .i64 wd] Zr Zr (qb3 rfl _ Zr _) (by simp[Value.oneCell']) Zd (by simp only[maxLen];omega) Zo Zx _ Zr ?_;intro g cap1 w5 hown' hgrow hat hlg;have hB5:=(hB4.alloc hs4 (.cells #[.int .i64 (sp+off),.int .i64 (j:Int),.int .i64 (i:Int),.int .i64 wd] 179)).grown hgrow Zx (qa0 ho4);have hg5:Gm w5 w.heap.size s l r:=qb1 hg4 Zd ho4 hgrow;obtain⟨x0',x1',x2',-⟩:=hg5.cells)))
        all_goals
         go_wp2_with fail;go_roundw
         case rel=>exact⟨_,i+1,off+wd,rfl,by rw[hsn.out.1,hsn.out.2];exact hown',rfl,hoff3,Zo,hoff2,Zo,hg5,hB5⟩
         case measure=>simp[intOf];omega
       ·have hib:(i:Int)=nb:=by
         rcases wf6 (i:Int) nb with hh|hh
         ·exfalso
          have h1:((i:Int)+1)*wd<=nb*wd:=wef Zo Zo;rw[wdh,weg,hen.out,<-hoff.out] at h1;omega
         ·omega
        have he:=hup'.out i hib;rw[he] at hrow;clear he;go_wp2_with fail;go_roundw
        case rel=>exact⟨_,j+1,rfl,hrow,by go_num,Zo,hg,hB⟩
        case measure=>simp[intOf];omega
     ·have k2':(k==2)=false:=beq_eq_false_iff_ne.2 k2
      have q2':szN c=wd:=q2.symm;obtain rfl:en=64:=by rw[<-hen.out];exact q1
      clear q1 q2 k2;go_wp2_with fail;go_loopw [5,9] (λv q wr=>∃(U:World) (i:Nat) (off:Int),U=wr/\U.ownsRow w.heap.size 179 4 v (qas s l r hs j++bls sp (j:Int) wd i).length (bV (qas s l r hs j++bls sp (j:Int) wd i))/\q= .int .i64 off/\Hid (off=(i:Int)*wd)/\0<=off/\off<=64/\(i:Int)<=nb/\Gm U w.heap.size s l r/\Below w.heap.size w U) (λ_ q _=>(64:Int).toNat - (intOf q).toNat)
      case atStart=>exact⟨_,0,0,rfl,by simpa[bls] using hr3,rfl,waa Zs,Zo,Zo,p2,hg3,hB3⟩
      case round=>
       clear hr3 hg3 hB3;obtain⟨U,i,off,rfl,hrow,rfl,hoff,ho0,ho1,hi,hg,hB⟩:=hrel;by_cases hil:off<64
       ·have hib:(i:Int)<nb:=by
         rcases wf6 (i:Int) nb with hh|hh
         ·exact hh
         ·exfalso
          have h1:=hoff.out;rw[show(i:Int)=nb by omega,hen.out] at h1;omega
        have hoff2:off+wd<=64:=by
         have h1:((i:Int)+1)*wd<=nb*wd:=wef Zo Zo;rw[wdh,weg,hen.out,<-hoff.out] at h1;exact h1
        have kq:off.tdiv wd=(i:Int):=by rw[hoff.out];exact qw0 Zo
        have kwi:IntKind.i64.wrap (i:Int)=(i:Int):=wao _ Zo;have kw1:IntKind.i64.wrap (sp+off)=sp+off:=wao _ Zo;have kw2:IntKind.i64.wrap (off+wd)=off+wd:=wao _ Zo;have hw0:¬wd=0:=Zo
        have hw1:(wd==0)=false:=beq_eq_false_iff_ne.2 hw0;have hoff3:=waa (show off+wd=((i+1:Nat):Int)*wd by rw[hoff.out,wcg,wdh];simp);have hlen:=waa (qq9 (s:=s) (l:=l) (r:=r) (hs:=hs) (j:=j) (i:=i) (sp:=sp) (wd:=wd) Zo Zo);have hsn:=waa (show bV (qas s l r hs j++bls sp (j:Int) wd (i+1))=bV (qas s l r hs j++bls sp (j:Int) wd i)++[.int .i64 (sp+off),.int .i64 (j:Int),.int .i64 (i:Int),.int .i64 wd]/\(qas s l r hs j++bls sp (j:Int) wd (i+1)).length=(qas s l r hs j++bls sp (j:Int) wd i).length+1 from by
         rw[qg7,<-wbm,qwh,<-hoff.out];exact⟨rfl,by rw[was];rfl⟩)
        generalize bV (qas s l r hs j++bls sp (j:Int) wd i)=vs at hrow hsn;generalize (qas s l r hs j++bls sp (j:Int) wd i).length=nn at hrow hsn hlen;obtain⟨z0,z1,z2,zf⟩:U.drew.cell? ⟨w.heap.size,0,none⟩=some (.int .i64 s)/\U.drew.cell? ⟨w.heap.size,1,none⟩=some (.int .i64 l)/\U.drew.cell? ⟨w.heap.size,2,none⟩=some (.int .i64 r)/\(∀o,U.drew.frozen? ⟨w.heap.size,o,none⟩=false):=hg.cells;have hnn:nn<=544:=by have:=hlen.out;omega
        go_wp2_with fail;go_region_held3 (λV=>V.cell? ⟨w.heap.size,0,none⟩=some (.int .i64 s)/\V.cell? ⟨w.heap.size,1,none⟩=some (.int .i64 l)/\V.cell? ⟨w.heap.size,2,none⟩=some (.int .i64 r))
         (first|with_reducible exact⟨z0,z1,z2⟩|go_keep|with_reducible exact⟨y0,y1,y2⟩|with_reducible exact⟨x0',x1',x2'⟩)
         (first
          |(go_at_call 138
            refine(hsc'.out _).mono ?_;rintro e w4 ⟨rfl,hC⟩;have hBx:Below U.heap.size U w4:=(wac U.heap.size U).drew.trans hC;have hg4:Gm w4 w.heap.size s l r:=hg.below hBx hg.lt;have hB4:=hB.trans (hBx.mono hB.size);have ho4:=qaf hrow hBx;have hs4:=hB4.size;obtain⟨y0,y1,y2,yf⟩:=hg4.cells)
          |((refine step_append_lies _ Zr _ _ 176 Zr w.heap.size 179 i0 (.agg #[.int .i64 0,.int .i64 0,.int .i64 0,.int .i64 0]) 4 32 Tryz.underlying176 ii iz0 iz1 iz2 Zr Zd _ _ _ Zr (ho4.alloc _) ⟨w4.heap.size,0,none⟩ 1 1 [.int .i64 (sp+off),.int .i64 (j:Int),.int .i64 (i:Int),.int .i64 wd] Zr Zr (qb3 rfl _ Zr _) (by simp[Value.oneCell']) Zd (by simp only[maxLen];omega) Zo Zx _ Zr ?_;intro g cap1 w5 hown' hgrow hat hlg;have hB5:=(hB4.alloc hs4 (.cells #[.int .i64 (sp+off),.int .i64 (j:Int),.int .i64 (i:Int),.int .i64 wd] 179)).grown hgrow Zx (qa0 ho4);have hg5:Gm w5 w.heap.size s l r:=qb1 hg4 Zd ho4 hgrow;obtain⟨x0',x1',x2',-⟩:=hg5.cells)))
        all_goals
         go_wp2_with fail;go_roundw
         case rel=>exact⟨_,i+1,off+wd,rfl,by rw[hsn.out.1,hsn.out.2];exact hown',rfl,hoff3,Zo,hoff2,Zo,hg5,hB5⟩
         case measure=>simp[intOf];omega
       ·have hib:(i:Int)=nb:=by
         rcases wf6 (i:Int) nb with hh|hh
         ·exfalso
          have h1:((i:Int)+1)*wd<=nb*wd:=wef Zo Zo;rw[wdh,weg,hen.out,<-hoff.out] at h1;omega
         ·omega
        have he:=hup'.out i hib;rw[he] at hrow;clear he;go_wp2_with fail;go_roundw
        case rel=>exact⟨_,j+1,rfl,hrow,by go_num,Zo,hg,hB⟩
        case measure=>simp[intOf];omega
   ·obtain rfl:j=hs.length:=Zo
    go_wp2_with fail;go_ret;exact⟨_,rfl,hrow,hB⟩
def qmj(md:Region.Mode)(ops:Array Oper)(listed:Array Bool)(i:Nat):Bool:=Region.noSelect ops&&(Region.free md ops listed i&&(Region.ready md ops listed).contains i)
section
variable {P:Program} {md:Region.Mode} {ops:Array Oper} {Q:Exit->Act->World->Prop} {S:World->Prop} {oi:Oper} {fuel:Nat} {listed:Array Bool} {a:Act} {w:World}
end
end Go.Proofs.YtocncmbeinmiaaaGreat
namespace Go.Proofs.YtocncmbeinmiaaaGreat
open Go Go.RowKit
open List renaming setIfInBounds_toArray → pA, set_cons_zero → pB, set_cons_succ → pC, getElem_toArray → pD, getElem_cons_zero → pE, getElem_cons_succ → pF
def lv0:LV:=⟨0,0,0,0,0,0,0⟩
theorem Lb.set{V:World}{b:Nat}{o:LV}(h:Lb V b o)(q:LV):Lb (((((((V.setCell ⟨b,0,none⟩ (.int .i64 q.a)).setCell ⟨b,1,none⟩ (.int .i64 q.r)).setCell ⟨b,2,none⟩ (.int .i64 q.s)).setCell ⟨b,3,none⟩ (.int .i64 q.n)).setCell ⟨b,4,none⟩ (.int .i64 q.sp)).setCell ⟨b,5,none⟩ (.int .i64 q.ix)).setCell ⟨b,6,none⟩ (.int .i64 q.wd)) b q:=by
 have h0:=qah h 0 (.int .i64 q.a);have h1:=qah h0 1 (.int .i64 q.r);have h2:=qah h1 2 (.int .i64 q.s);have h3:=qah h2 3 (.int .i64 q.n);have h4:=qah h3 4 (.int .i64 q.sp);have h5:=qah h4 5 (.int .i64 q.ix);unfold Lb;rw[qah h5 6 (.int .i64 q.wd)];simp[lvV]
theorem Lb.below_set{W V:World}{b B:Nat}(h:Below B W V)(hB:B<=b)(q:LV):Below B W (((((((V.setCell ⟨b,0,none⟩ (.int .i64 q.a)).setCell ⟨b,1,none⟩ (.int .i64 q.r)).setCell ⟨b,2,none⟩ (.int .i64 q.s)).setCell ⟨b,3,none⟩ (.int .i64 q.n)).setCell ⟨b,4,none⟩ (.int .i64 q.sp)).setCell ⟨b,5,none⟩ (.int .i64 q.ix)).setCell ⟨b,6,none⟩ (.int .i64 q.wd)):=
 ((((((h.setCell (p:=⟨b,0,none⟩) hB _).setCell (p:=⟨b,1,none⟩) hB _).setCell (p:=⟨b,2,none⟩) hB _).setCell (p:=⟨b,3,none⟩) hB _).setCell (p:=⟨b,4,none⟩) hB _).setCell (p:=⟨b,5,none⟩) hB _).setCell (p:=⟨b,6,none⟩) hB _
def Kb(V:World)(b:Nat)(a sp ix wd:Int):Prop:=V.heap[b]? =some (.cells #[.int .i64 a,.int .i64 sp,.int .i64 ix,.int .i64 wd] 179 (0,0))
theorem Kb.cells{V:World}{b:Nat}{a sp ix wd:Int}(h:Kb V b a sp ix wd):V.cell? ⟨b,0,none⟩=some (.int .i64 a)/\V.cell? ⟨b,1,none⟩=some (.int .i64 sp)/\V.cell? ⟨b,2,none⟩=some (.int .i64 ix)/\V.cell? ⟨b,3,none⟩=some (.int .i64 wd):=
 ⟨by rw[qaa h];rfl,by rw[qaa h];rfl,by rw[qaa h];rfl,by rw[qaa h];rfl⟩
theorem Kb.lt{V:World}{b:Nat}{a sp ix wd:Int}(h:Kb V b a sp ix wd):b<V.heap.size:=(wal.1 h).1
def ObjE(o:Option LV)(e:Ending):Prop:=match o with
 |none=>e= .returned (.tuple #[.agg (lvV lv0).toArray,.bool false])
 |some o=>e= .returned (.tuple #[.agg (lvV o).toArray,.bool true])
theorem ObjE.no{o:Option LV}(h:o=none):ObjE o (.returned (.tuple #[.agg (lvV lv0).toArray,.bool false])):=by rw[h];exact rfl
theorem ObjE.yes{o:Option LV}{q:LV}(h:o=some q):ObjE o (.returned (.tuple #[.agg (lvV q).toArray,.bool true])):=by rw[h];exact rfl
end Go.Proofs.YtocncmbeinmiaaaGreat
