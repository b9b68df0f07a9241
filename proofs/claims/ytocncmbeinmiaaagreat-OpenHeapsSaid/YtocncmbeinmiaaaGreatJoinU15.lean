/- Parts. No condition. -/
import Derived.RangeFuncNested
import Derived.RangeFuncBound
import Derived.RangeFuncCalls
import Derived.RangeFuncLeaves
import Derived.Shelf.RegionOpen
import Derived.OwnWalkIn
import Derived.TacticsInMore
import Derived.LoopNIn
import Derived.LoopIn
import Derived.Laws.EntriesVeiled
import Derived.RangeFuncFrom
import Derived.Test.YtocncmbeinmiaaaGreatJoinU14
set_option linter.unusedVariables false
set_option maxRecDepth 100000
set_option maxHeartbeats 8000000
namespace Go.Proofs.YtocncmbeinmiaaaGreat
open Go Go.RowKit
theorem qy2(k c n:Int)(w:World):Calls Tryz.prog 410 #[.agg #[.int .i64 k,.int .i64 c,.int .i64 n]] w λe w'=>e= .returned (.bool (!hdB (k,c,n)))/\Below w.heap.size w w':=by
 have hg0:=Hd.new w k c n;have hB0:=qat w k c n;cases hm:qav k c n with
 |false=>
  have hw:=waa (λV=>qog k c n V hm);have he:=waa (show(!hdB (k,c,n))=true by show(!qav k c n)=true;rw[hm];rfl);clear hm;go_enter Tryz.func410,Tryz.ntmps410;go_wp2_with fail;generalize (w.alloc (.cells #[.int .i64 k,.int .i64 c,.int .i64 n] 82))=W1 at hg0 hB0 ⊢;obtain⟨c0,c1,c2,f⟩:=hg0.cells;go_wp2_with fail;refine(hw.out _).mono ?_;rintro e w1 ⟨rfl,hB⟩;have hB1:=hB0.trans (hB.mono hB0.size);go_wp2_with fail;go_ret;exact⟨qab he.out.symm,hB1⟩
 |true=>
  have hw:=waa (λV=>qio k c n V hm);have he:=waa (show(!hdB (k,c,n))=false by show(!qav k c n)=false;rw[hm];rfl);clear hm;generalize qce k c n=x at hw;go_enter Tryz.func410,Tryz.ntmps410;go_wp2_with fail;generalize (w.alloc (.cells #[.int .i64 k,.int .i64 c,.int .i64 n] 82))=W1 at hg0 hB0 ⊢;obtain⟨c0,c1,c2,f⟩:=hg0.cells;go_wp2_with fail;refine(hw.out _).mono ?_;rintro e w1 ⟨rfl,hB⟩;have hB1:=hB0.trans (hB.mono hB0.size);go_wp2_with fail;go_ret;exact⟨qab he.out.symm,hB1⟩
def badN:Nat->List HD->Int
 |_,[]=>-1
 |k,h::t=>if hdB h=true then badN (k+1) t else(k:Int)
theorem qwn{k:Nat}{h:HD}{t:List HD}(hh:hdB h=true):badN k (h::t)=badN (k+1) t:=if_pos hh
theorem q4h{k:Nat}{h:HD}{t:List HD}(hh:hdB h=false):badN k (h::t)=(k:Int):=if_neg (by rw[hh];decide)
theorem qw4:∀(k:Nat) (hs:List HD),decide (0<=badN k hs)=!hs.all hdB
 |_,[]=>rfl
 |k,h::t=>by
  cases hh:hdB h with
  |true=>rw[qwn hh,qw4 (k+1) t,wdc,hh,wcv]
  |false=>rw[q4h hh,wdc,hh,wdg];exact decide_eq_true Zo
theorem qzf(A:Option Addr)(cap:Nat)(hs:List HD)(w:World)(h:HdsRd w A hs.length hs)(hn:hs.length<=9223372036854775806):
  Calls Tryz.prog 144 #[.slice A hs.length cap,.func (.func 410) #[] #[]] w λe w'=>e= .returned (.int .i64 (badN 0 hs))/\Below w.heap.size w w':=by
 go_enter Tryz.func144,Tryz.ntmps144;go_wp2_with fail;go_loopw [8] (λq wr=>∃(W:World) (j:Nat),W=wr/\q= .int .i64 (j:Int)/\j<=hs.length/\Hid (badN j (hs.drop j)=badN 0 hs)/\Below w.heap.size w W) (λq _=>hs.length - (intOf q).toNat)
 case atStart=>exact⟨w,0,rfl,rfl,wau _,waa rfl,wac _ _⟩
 case round=>
  obtain⟨W,j,rfl,rfl,hj,hr,hB⟩:=hrel;by_cases hlt:j<hs.length
  ·obtain⟨p,k,c,n,rfl,hd,-,h0,h1,h2⟩:=(h.below hB).at_ hlt
   rw[hd] at hr;clear hd;have hm:=waa (λV=>qy2 k c n V);cases hh:hdB (k,c,n) with
   |true=>
    rw[hh] at hm;have hr2:=waa ((qwn hh).symm.trans hr.out);clear hr hh;go_wp2_with fail;refine(hm.out _).mono ?_;rintro e w1 ⟨rfl,hC⟩;have hB1:=hB.trans (hC.mono hB.size);go_wp2_with fail;go_roundw
    case rel=>exact⟨_,j+1,rfl,by go_num,Zo,hr2,hB1⟩
    case measure=>simp[intOf];omega
   |false=>
    rw[hh] at hm;have hr2:=waa ((q4h hh).symm.trans hr.out);clear hr hh;go_wp2_with fail;refine(hm.out _).mono ?_;rintro e w1 ⟨rfl,hC⟩;have hB1:=hB.trans (hC.mono hB.size);go_wp2_with fail;try rw[wa0]
    go_ret;exact⟨qbz hr2.out,hB1⟩
  ·have e1:hs.drop j=[]:=wbn Zo
   rw[e1] at hr;have hr2:=waa (hr.out.symm.trans (show badN j []= -1 from rfl));clear hr e1;go_wp2_with fail;go_ret;exact⟨qbz hr2.out.symm,hB⟩
theorem qq0(A:Option Addr)(cap:Nat)(hs:List HD)(w:World)(h:HdsRd w A hs.length hs)(hn:hs.length<=9223372036854775806):
  Calls Tryz.prog 101 #[.slice A hs.length cap,.func (.func 410) #[] #[]] w λe w'=>e= .returned (.bool (!hs.all hdB))/\Below w.heap.size w w':=by
 have hi:=waa (qzf A cap hs w h hn);have hb:=waa (qw4 0 hs);clear h;generalize badN 0 hs=x at hi hb;go_enter Tryz.func101,Tryz.ntmps101;go_wp2_with fail;refine hi.out.mono ?_;rintro e w1 ⟨rfl,hB⟩;go_wp2_with fail;go_ret;exact⟨qab hb.out,hB⟩
def rgtV(s l r:Int)(A:Option Addr)(cap:Nat)(hs:List HD):Value:=if hdsB s l r hs=true then .slice A hs.length cap else .slice none 0 0
theorem qsk{s l r:Int}{A:Option Addr}{cap:Nat}{hs:List HD}(h:hdsB s l r hs=true):rgtV s l r A cap hs= .slice A hs.length cap:=if_pos h
theorem qkx{s l r:Int}{A:Option Addr}{cap:Nat}{hs:List HD}(h:hdsB s l r hs=false):rgtV s l r A cap hs= .slice none 0 0:=if_neg (by rw[h];decide)
theorem qmo{a b:Value}(h:a=b):Ending.returned a= .returned b:=by rw[h]
theorem qft(w:World)(s l r:Int):Below w.heap.size w (w.alloc (.cells #[.int .i64 s,.int .i64 l,.int .i64 r] 23)):=(wac _ w).alloc (wab _) _
def Gm(V:World)(b:Nat)(s l r:Int):Prop:=V.heap[b]? =some (.cells #[.int .i64 s,.int .i64 l,.int .i64 r] 23 (0,0))
theorem Gm.below{V V':World}{b B:Nat}{s l r:Int}(h:Gm V b s l r)(hb:Below B V V')(hB:b<B):Gm V' b s l r:=(hb.block b hB).trans h
theorem Gm.lt{V:World}{b:Nat}{s l r:Int}(h:Gm V b s l r):b<V.heap.size:=(wal.1 h).1
theorem Gm.cells{V:World}{b:Nat}{s l r:Int}(h:Gm V b s l r):V.cell? ⟨b,0,none⟩=some (.int .i64 s)/\V.cell? ⟨b,1,none⟩=some (.int .i64 l)/\V.cell? ⟨b,2,none⟩=some (.int .i64 r)/\(∀o,V.frozen? ⟨b,o,none⟩=false):=
 ⟨by rw[qaa h];rfl,by rw[qaa h];rfl,by rw[qaa h];rfl,λo=>qaj h o⟩
theorem Gm.new(W:World)(s l r:Int):Gm (W.alloc (.cells #[.int .i64 s,.int .i64 l,.int .i64 r] 23)) W.heap.size s l r:=World.alloc_heap_new W _
theorem Gm.other{V:World}{b b' o:Nat}{s l r:Int}{v:Value}(h:Gm V b s l r)(hne:b≠b'):Gm (V.setCell ⟨b',o,none⟩ v) b s l r:=(wat _ _ _ _ hne).trans h
theorem q49(s l r:Int)(A:Option Addr)(cap:Nat)(hs:List HD)(w:World)(h:HdsRd w A hs.length hs)(hn:hs.length<=9223372036854775806):
  Calls Tryz.prog 370 #[.agg #[.int .i64 s,.int .i64 l,.int .i64 r],.slice A hs.length cap] w λe w'=>e= .returned (rgtV s l r A cap hs)/\Below w.heap.size w w':=by
 have hg0:=Gm.new w s l r;have hB0:=qft w s l r;have hm:=λV=>qd7 s l r V
 cases hmb:mayB s l r with
 |false=>
  rw[hmb] at hm;have he:=waa (qkx (A:=A) (cap:=cap) (show hdsB s l r hs=false by rw[hdsB,hmb];rfl));have hm':=waa hm;clear hmb hm;go_enter wfz,wf0;go_wp2_with fail;generalize (w.alloc (.cells #[.int .i64 s,.int .i64 l,.int .i64 r] 23))=W1 at hg0 hB0 ⊢;obtain⟨c0,c1,c2,f⟩:=hg0.cells;go_wp2_with fail;refine(hm'.out _).mono ?_;rintro e w1 ⟨rfl,hB⟩;have hB1:=hB0.trans (hB.mono hB0.size);go_wp2_with fail;go_ret;exact⟨qmo he.out.symm,hB1⟩
 |true=>
  rw[hmb] at hm;have hm':=waa hm;by_cases hl:(hs.length:Int)=s
  ·have hc:=waa (λ(V:World) (hV:Below w.heap.size w V)=>qq0 A cap hs V (h.below hV) hn)
   have hhd:hdsB s l r hs=hs.all hdB:=by rw[hdsB,hmb,decide_eq_true hl];rfl
   have hne:((hs.length:Int) !=s)=false:=by rw[hl];simp
   cases hal:hs.all hdB with
   |false=>
    rw[hal] at hc hhd;have he:=waa (qkx (A:=A) (cap:=cap) hhd);clear hmb hm hl hhd hal;go_enter wfz,wf0;go_wp2_with fail;generalize (w.alloc (.cells #[.int .i64 s,.int .i64 l,.int .i64 r] 23))=W1 at hg0 hB0 ⊢;obtain⟨c0,c1,c2,f⟩:=hg0.cells;go_wp2_with fail;refine(hm'.out _).mono ?_;rintro e w1 ⟨rfl,hB⟩;have hg1:=hg0.below hB hg0.lt;have hB1:=hB0.trans (hB.mono hB0.size);obtain⟨d0,d1,d2,f1⟩:=hg1.cells;clear hg0 hB0 hB c0 c1 c2 f;go_wp2_with fail;refine(hc.out _ hB1).mono ?_;rintro e w2 ⟨rfl,hB⟩;have hB2:=hB1.trans (hB.mono hB1.size);go_wp2_with fail;go_ret;exact⟨qmo he.out.symm,hB2⟩
   |true=>
    rw[hal] at hc hhd;have he:=waa (qsk (A:=A) (cap:=cap) hhd);clear hmb hm hl hhd hal;go_enter wfz,wf0;go_wp2_with fail;generalize (w.alloc (.cells #[.int .i64 s,.int .i64 l,.int .i64 r] 23))=W1 at hg0 hB0 ⊢;obtain⟨c0,c1,c2,f⟩:=hg0.cells;go_wp2_with fail;refine(hm'.out _).mono ?_;rintro e w1 ⟨rfl,hB⟩;have hg1:=hg0.below hB hg0.lt;have hB1:=hB0.trans (hB.mono hB0.size);obtain⟨d0,d1,d2,f1⟩:=hg1.cells;clear hg0 hB0 hB c0 c1 c2 f;go_wp2_with fail;refine(hc.out _ hB1).mono ?_;rintro e w2 ⟨rfl,hB⟩;have hB2:=hB1.trans (hB.mono hB1.size);go_wp2_with fail;go_ret;exact⟨qmo he.out.symm,hB2⟩
  ·have hne:((hs.length:Int) !=s)=true:=bne_iff_ne.2 hl
   have he:=waa (qkx (A:=A) (cap:=cap) (show hdsB s l r hs=false by rw[hdsB,decide_eq_false hl,wdg,wev]));clear hmb hm hl;go_enter wfz,wf0;go_wp2_with fail;generalize (w.alloc (.cells #[.int .i64 s,.int .i64 l,.int .i64 r] 23))=W1 at hg0 hB0 ⊢;obtain⟨c0,c1,c2,f⟩:=hg0.cells;go_wp2_with fail;refine(hm'.out _).mono ?_;rintro e w1 ⟨rfl,hB⟩;have hg1:=hg0.below hB hg0.lt;have hB1:=hB0.trans (hB.mono hB0.size);obtain⟨d0,d1,d2,f1⟩:=hg1.cells;clear hg0 hB0 hB c0 c1 c2 f;go_wp2_with fail;go_ret;exact⟨qmo he.out.symm,hB1⟩
theorem qyn(v:Value)(w:World)(A:Option Addr)(n c:Nat)(hv:v= .slice A n c):Calls Tryz.prog 369 #[v] w λe w'=>e= .returned (.func (.func 408) #[] #[.pointer (some ⟨w.heap.size,0,none⟩)])/\w.alloc (.cells #[v] 75)=w':=by
 have hmf:∀(fn:Fn) (first cap:Array Value) (w:World),(Instr.makeFunc fn first cap).run Tryz.prog w= .ok (.func fn first cap) w:=λ_ _ _ _=>rfl
 subst hv;go_enter Tryz.func369,Tryz.ntmps369;go_wp2_with fail;go_ret;exact⟨rfl,rfl⟩
theorem q2n(k c n:Int)(w:World)(hm:hdB (k,c,n)=true):Calls Tryz.prog 423 #[.agg #[.int .i64 k,.int .i64 c,.int .i64 n]] w λe w'=>e= .returned (.tuple #[.int .i64 (adNb (k,c,n)),.int .i64 (adWd (k,c,n))])/\Below w.heap.size w w':=by
 have hg0:=Hd.new w k c n;have hB0:=qat w k c n;have hbd:=qd6 (k:=k) (c:=c) (n:=n) hm;clear hm;by_cases h2:k=2
 ·subst h2
  have e1:adNb (2,c,n)=1:=if_pos rfl;have e2:adWd (2,c,n)=n*64:=if_pos rfl;have hw:IntKind.i64.wrap (n*64)=n*64:=wao _ Zo;rw[e1,e2];clear e1 e2;go_enter Tryz.func423,Tryz.ntmps423;go_wp2_with fail;generalize (w.alloc (.cells #[.int .i64 2,.int .i64 c,.int .i64 n] 82))=W1 at hg0 hB0 ⊢;obtain⟨c0,c1,c2,f⟩:=hg0.cells;go_wp2_with fail;go_quiet (fail)
  go_wp2_with fail;exact bodyPost_ret (by simp[results,Tryz.results423,go_sem]) rfl ⟨rfl,qad hB0 _⟩
 ·have e1:adNb (k,c,n)=bkN c:=if_neg h2
  have e2:adWd (k,c,n)=szN c:=if_neg h2;have ek:(k==2)=false:=beq_eq_false_iff_ne.2 h2;rw[e1,e2];clear e1 e2;go_enter Tryz.func423,Tryz.ntmps423;go_wp2_with fail;generalize (w.alloc (.cells #[.int .i64 k,.int .i64 c,.int .i64 n] 82))=W1 at hg0 hB0 ⊢;obtain⟨c0,c1,c2,f⟩:=hg0.cells;go_wp2_with fail;go_quiet (first|(go_at_call 96;exact qau (qhx _ _))|(go_at_call 104;exact qau (qge _ _)))
  go_wp2_with fail;exact bodyPost_ret (by simp[results,Tryz.results423,go_sem]) rfl ⟨rfl,qad hB0 _⟩
theorem q97(w:World)(A:Option Addr):HdsRd w A 0 []:=⟨rfl,λh=>absurd h Zo⟩
theorem q4m(p:Addr)(j i:Nat):(p.add (j*3)).add (i*3)=p.add ((j+i)*3):=by
 unfold Addr.add;by_cases h1:j=0
 ·subst h1;simp
 ·by_cases h2:i=0
  ·subst h2;simp
  ·rw[if_neg Zo,if_neg Zo,if_neg Zo]
   simp only[Addr.mk.injEq,true_and,and_true];omega
theorem qabe{w:World}{p:Addr}{n j q:Nat}{hs:List HD}(h:HdsRd w (some p) n hs)(hq:j+q<=n):HdsRd w (some (p.add (j*3))) q ((hs.drop j).take q):=by
 refine⟨by rw[war,wbu,h.1];omega,λhq0=>⟨_,rfl,λi x hx=>?_⟩⟩;obtain⟨p',e,hp⟩:=h.2 Zo;obtain rfl:p=p':=by injection e
 have hi:i<q:=by have:=(wan.1 hx).1;rw[war] at this;omega
 rw[wbf hi,wbd] at hx;rw[q4m];exact hp (j+i) x hx
theorem qu6(i:Int)(A:Option Addr)(cap:Nat)(hs:List HD)(B:Nat)(w:World)(hb:Boxed w B 75 (.slice A hs.length cap))(h:HdsRd w A hs.length hs)(hm:∀x∈hs,hdB x=true)(hc:hs.length<=cap)(hn:hs.length<=9223372036854775800):
  Calls Tryz.prog 408 #[.int .i64 i,.pointer (some ⟨B,0,none⟩)] w λe w'=>e= .returned (.bool (whoI hs i))/\Below w.heap.size w w':=by
 have hbc:=hb.cell;by_cases hi0:i<0
 ·have e:=waa (qk1 (hs:=hs) (.inl hi0))
  go_enter weh,wei;go_wp2_with fail;go_ret;exact⟨qab e.out.symm,wac _ _⟩
 ·obtain⟨j,rfl⟩:=waz (show 0<=i by omega)
  by_cases hj:j<hs.length
  ·rw[qiy]
   obtain⟨p,k,c,n,rfl,hd,hmem,h0,h1,h2⟩:=h.at_ hj;have hmk:=hm _ hmem;have hB1:=qat w k c n;have hg:=Hd.new w k c n;by_cases k1:k=1
   ·subst k1
    have e:=waa (qgo hd rfl);clear hd hmem hmk;go_enter weh,wei;go_wp2_with fail;generalize (w.alloc (.cells #[.int .i64 1,.int .i64 c,.int .i64 n] 82))=W1 at hB1 hg ⊢;obtain⟨c0,c1,c2,f⟩:=hg.cells;go_wp2_with fail;go_ret;exact⟨qab e.out.symm,hB1⟩
   ·have ek1:(k==1)=false:=beq_eq_false_iff_ne.2 k1
    by_cases k2:k=2
    ·subst k2
     have hl:=qe8 hmk rfl;obtain⟨-,-,n0,n1⟩:=hl;have n0':1<=n:=n0;have n1':n<=4:=n1;obtain⟨m,rfl⟩:=waz (show 0<=n by omega);obtain⟨q,hq,hq2⟩:∃q,(q=m\/(q=(hs.drop (j+1)).length+1/\q<=m))/\j+q=min (j+m) hs.length:=by
      rw[wbu];by_cases hx:j+m<=hs.length
      ·exact⟨m,.inl rfl,Zo⟩
      ·exact⟨hs.length - (j+1)+1,.inr ⟨rfl,Zo⟩,Zo⟩
     have ht:=q8f (h:=(2,c,(m:Int))) (t:=hs.drop (j+1)) Zo hq;rw[<-hd] at ht;have hsub:=qabe h (show j+q<=hs.length by omega);rw[ht] at hsub;have hlen:(((2,c,(m:Int)):HD)::(hs.drop (j+1)).take (m - 1)).length=q:=hsub.1;have hrun:=λ(V:World) (hV:Below w.heap.size w V)=>qaaj (some (p.add (j*3))) (cap - j) (((2,c,(m:Int)):HD)::(hs.drop (j+1)).take (m - 1)) V (by rw[hlen];exact hsub.below hV) (by rw[hlen];omega)
     rw[hlen,qaar rfl rfl Zo,<-qey hd rfl] at hrun;have hrun':=waa hrun;have kj:IntKind.i64.wrap ((j:Int)+(m:Int))=(j:Int)+(m:Int):=wao _ Zo;have hbc2:=(hb.alloc (.cells #[.int .i64 2,.int .i64 c,.int .i64 (m:Int)] 82)).cell;have hcj:¬cap=j:=Zo
     have hqj:j+q - j=q:=Zo
     clear hd hmem hmk ht hsub hlen hrun hq;by_cases hx:hs.length<j+m
     ·have hx1:(hs.length:Int)<(j:Int)+(m:Int):=Zo
      have hq3:hs.length - j=q:=Zo
      have hq4:(hs.length:Int).toNat - j=q:=Zo
      clear hq2;go_enter weh,wei;go_wp2_with fail;generalize (w.alloc (.cells #[.int .i64 2,.int .i64 c,.int .i64 (m:Int)] 82))=W1 at hB1 hg hbc2 ⊢;obtain⟨c0,c1,c2,f⟩:=hg.cells;go_wp2_with fail;refine(hrun'.out _ hB1).mono ?_;rintro e w2 ⟨rfl,hC⟩;go_wp2_with fail;go_ret;exact⟨rfl,hB1.trans (hC.mono hB1.size)⟩
     ·have hx1:¬(hs.length:Int)<(j:Int)+(m:Int):=Zo
      have hq3:((j:Int)+(m:Int)).toNat - j=q:=Zo
      have hq4:j+m - j=q:=Zo
      have hq5:(j:Int)+(m:Int)<=(cap:Int):=Zo
      clear hq2;go_enter weh,wei;go_wp2_with fail;generalize (w.alloc (.cells #[.int .i64 2,.int .i64 c,.int .i64 (m:Int)] 82))=W1 at hB1 hg hbc2 ⊢;obtain⟨c0,c1,c2,f⟩:=hg.cells;go_wp2_with fail;refine(hrun'.out _ hB1).mono ?_;rintro e w2 ⟨rfl,hC⟩;go_wp2_with fail;go_ret;exact⟨rfl,hB1.trans (hC.mono hB1.size)⟩
    ·have ek2:(k==2)=false:=beq_eq_false_iff_ne.2 k2
     have e:=waa (qeb hd k1 k2);clear hd hmem hmk;go_enter weh,wei;go_wp2_with fail;generalize (w.alloc (.cells #[.int .i64 k,.int .i64 c,.int .i64 n] 82))=W1 at hB1 hg ⊢;obtain⟨c0,c1,c2,f⟩:=hg.cells;go_wp2_with fail;go_ret;exact⟨qab e.out.symm,hB1⟩
  ·have e:=waa (qk1 (hs:=hs) (i:=(j:Int)) (.inr Zo))
   have hj2:(hs.length:Int)<=(j:Int):=Zo
   go_enter weh,wei;go_wp2_with fail;go_ret;exact⟨qab e.out.symm,wac _ _⟩
def qez(s l r:Int)(hs:List HD)(i:Int):Bool:=hdsB s l r hs&&whoI hs i
end Go.Proofs.YtocncmbeinmiaaaGreat
namespace Go.Proofs.YtocncmbeinmiaaaGreat
open Go Go.RowKit Go.Shelf
attribute [local go_sem] wcy
def Cap(W:World)(bh bi bg bw:Nat)(s l r:Int)(v:Value):Prop:=
 Boxed W bh 75 v/\Boxed W bi 92 (.func (.func 408) #[] #[.pointer (some ⟨bw,0,none⟩)])/\Gm W bg s l r/\Boxed W bw 75 v
theorem Cap.below{W W':World}{bh bi bg bw:Nat}{s l r:Int}{v:Value}(h:Cap W bh bi bg bw s l r v)(hB:Below W.heap.size W W'):Cap W' bh bi bg bw s l r v:=
 ⟨(hB.block _ h.1.lt).trans h.1,(hB.block _ h.2.1.lt).trans h.2.1,(hB.block _ h.2.2.1.lt).trans h.2.2.1,(hB.block _ h.2.2.2.lt).trans h.2.2.2⟩
def qe9(n0:Nat)(bh bi bg bw:Nat)(s l r:Int)(v:Value)(W W':World):Prop:=(Cap W bh bi bg bw s l r v->Cap W' bh bi bg bw s l r v)/\Below n0 W W'
theorem q4f{n0 bh bi bg bw:Nat}{s l r:Int}{v:Value}:∀{X Y Z:World},qe9 n0 bh bi bg bw s l r v X Y->qe9 n0 bh bi bg bw s l r v Y Z->qe9 n0 bh bi bg bw s l r v X Z:=λh k=>⟨λx=>k.1 (h.1 x),h.2.trans k.2⟩
theorem qdd{W:World}{B l:Nat}{o o':Obj}{C:Array Value}{t:TypeId}{fr:Nat×Nat}(h:W.heap[B]? =some (.cells C t fr))(hl:W.heap[l]? =some o)(ho:o.isCells=false):(W.putObj l o').heap[B]? =some (.cells C t fr):=by
 refine(World.putObj_heap_other (λe=>?_)).trans h;subst e;rw[h] at hl;cases hl
 cases ho
theorem q5h{n0 bh bi bg bw D:Nat}{s l r:Int}{v:Value}(hn:n0<=D)(W:World)(k:Nat)(o o':Obj)(hk:D<=k)(hl:W.heap[k]? =some o)(ho:o.isCells=false)(_:o.isWalk=false):qe9 n0 bh bi bg bw s l r v W (W.putObj k o'):=
 ⟨λh=>⟨qdd h.1 hl ho,qdd h.2.1 hl ho,qdd h.2.2.1 hl ho,qdd h.2.2.2 hl ho⟩,
  (wac n0 W).grown (grownBy_putObj' W k o') (by have:=(wal.1 hl).1;omega) (λj e=>by cases e;omega)⟩
def encB(b:BL):Array Value:=#[.int .i64 b.1,.agg #[.int .i64 b.2.1,.int .i64 b.2.2.1,.int .i64 b.2.2.2]]
theorem qxl(s l r:Int)(A:Option Addr)(cap:Nat)(hs:List HD)(w:World)(h:HdsRd w A hs.length hs)(hn:hs.length<=9223372036854775800):
  Calls Tryz.prog 407 #[.agg #[.int .i64 s,.int .i64 l,.int .i64 r],.slice A hs.length cap] w λe w'=>∃bi bw,e= .returned (.func (.func 422) #[] #[.pointer (some ⟨w.heap.size+1,0,none⟩),.pointer (some ⟨bi,0,none⟩),.pointer (some ⟨w.heap.size,0,none⟩)])/\
   Cap w' (w.heap.size+1) bi w.heap.size bw s l r (rgtV s l r A cap hs)/\w.heap.size<bi/\w.heap.size<bw/\Below w.heap.size w w':=by
 have hmf:∀(fn:Fn) (first cap:Array Value) (w:World),(Instr.makeFunc fn first cap).run Tryz.prog w= .ok (.func fn first cap) w:=λ_ _ _ _=>rfl
 have hr:=waa (λ(V:World) (hV:Below w.heap.size w V)=>q49 s l r A cap hs V (h.below hV) Zo);obtain⟨B,nn,cc,hv⟩:∃B nn cc,rgtV s l r A cap hs= .slice B nn cc:=by unfold rgtV;split;exact⟨_,_,_,rfl⟩;exact⟨_,_,_,rfl⟩
 rw[hv] at hr ⊢;have hw:=waa (λ(V:World)=>qyn (.slice B nn cc) V B nn cc rfl);clear hv h;have hg0:=Gm.new w s l r;have hB0:=qft w s l r;have hs0:=waa (show(w.alloc (.cells #[.int .i64 s,.int .i64 l,.int .i64 r] 23)).heap.size=w.heap.size+1 by simp);have hg1:=hg0.below ((wac _ _).alloc (wab _) (.cells #[.slice A hs.length cap] 75)) hg0.lt;have hx1:=Boxed.new (w.alloc (.cells #[.int .i64 s,.int .i64 l,.int .i64 r] 23)) 75 (.slice A hs.length cap);rw[hs0.out] at hx1;have hB1:=hB0.alloc hB0.size (.cells #[.slice A hs.length cap] 75);have hne:=waa hg1.lt;clear hg0 hB0;go_enter Tryz.func407,Tryz.ntmps407;go_wp2_with fail;generalize (w.alloc (.cells #[.int .i64 s,.int .i64 l,.int .i64 r] 23)).alloc (.cells #[.slice A hs.length cap] 75)=W1 at hg1 hx1 hB1 hne ⊢;obtain⟨c0,c1,c2,f⟩:=hg1.cells;have hc1:=hx1.cell;go_wp2_with fail;refine(hr.out _ hB1).mono ?_;rintro e w1 ⟨rfl,hB⟩;have hl1:=hx1.lt;have hg2:Gm w1 w.heap.size s l r:=hg1.below hB hg1.lt;have hx2:Boxed w1 (w.heap.size+1) 75 (.slice A hs.length cap):=(hB.block _ hx1.lt).trans hx1;have hB2:=hB1.trans (hB.mono hB1.size);have hx3:=hx2.set (.slice B nn cc);have hg3:=hg2.other (b':=w.heap.size+1) (o:=0) (v:= .slice B nn cc) Zo;have hB3:=hB2.setCell (p:=⟨w.heap.size+1,0,none⟩) (by show w.heap.size<=w.heap.size+1;omega) (.slice B nn cc);have hc2:=hx2.cell;have hf2:=hx2.frozen;have hl2:w.heap.size+1<(w1.setCell ⟨w.heap.size+1,0,none⟩ (.slice B nn cc)).heap.size:=hx3.lt;clear hB hg1 hx1 hB1 c0 c1 c2 f hc1 hg2 hx2 hB2;go_wp2_with fail;generalize w1.setCell ⟨w.heap.size+1,0,none⟩ (.slice B nn cc)=W2 at hx3 hg3 hB3 hl2 ⊢;have hc3:=hx3.cell;clear hc2 hf2;go_wp2_with fail;refine(hw.out _).mono ?_;rintro e w2 ⟨rfl,rfl⟩;have hBa:=(wac W2.heap.size W2).alloc (wab _) (.cells #[.slice B nn cc] 75);have hx4:Boxed _ (w.heap.size+1) 75 (.slice B nn cc):=hx3.alloc (.cells #[.slice B nn cc] 75);have hg4:=hg3.below hBa hg3.lt;have hw4:=Boxed.new W2 75 (.slice B nn cc);have hB4:=hB3.trans (hBa.mono hB3.size);have hlw:w.heap.size<W2.heap.size:=Zo
 generalize hw':W2.heap.size=bw at hw4 hlw ⊢;clear hBa hx3 hg3 hB3 hc3;generalize W2.alloc (.cells #[.slice B nn cc] 75)=W3 at hx4 hg4 hw4 hB4 ⊢;have hBb:=(wac W3.heap.size W3).alloc (wab _) (.cells #[.func (.func 408) #[] #[.pointer (some ⟨bw,0,none⟩)]] 92);have hx5:=hx4.alloc (.cells #[.func (.func 408) #[] #[.pointer (some ⟨bw,0,none⟩)]] 92);have hg5:=hg4.below hBb hg4.lt;have hw5:=hw4.alloc (.cells #[.func (.func 408) #[] #[.pointer (some ⟨bw,0,none⟩)]] 92);have hi5:=Boxed.new W3 92 (.func (.func 408) #[] #[.pointer (some ⟨bw,0,none⟩)]);have hB5:=hB4.trans (hBb.mono hB4.size);have hli:w.heap.size<W3.heap.size:=hg4.lt;clear hx4 hg4 hw4 hB4 hBb;go_wp2_with fail;go_ret;exact⟨_,bw,rfl,⟨hx5,hi5,hg5,hw5⟩,hli,hlw,hB5⟩
theorem qm5(n:Nat)(hn:1<=n)(y bh bi bg bw:Nat)(s l r:Int)(A:Option Addr)(cap:Nat)(hs:List HD)(w0:World)(hH:HdsRd w0 A hs.length hs)(hr:hs=[]\/hdsB s l r hs=true)(hcap:hs.length<=cap)(J Jx:List BL->World->Prop)(hJ:∀pre W W',J pre W->Below W.heap.size W W'->J pre W')(hY:∀pre x W,J pre W->pre.length<600->YieldAt Fence.wide (n - 1) Tryz.prog y (encB x) W λe W'=>
   (e= .returned (.bool true)/\J (pre++[x]) W'/\qe9 w0.heap.size bh bi bg bw s l r (.slice A hs.length cap) W W')\/(e= .returned (.bool false)/\Jx (pre++[x]) W'))(W:World)(hc:Cap W bh bi bg bw s l r (.slice A hs.length cap))(hB0:Below w0.heap.size w0 W)(h0:J [] W):
  CallsIn Fence.wide n Tryz.prog 422 #[.func (.yield y) #[] #[],.pointer (some ⟨bh,0,none⟩),.pointer (some ⟨bi,0,none⟩),.pointer (some ⟨bg,0,none⟩)] W λe W'=>(∃v,e= .returned v)/\
   ((∃ys,ys=qas s l r hs hs.length/\J ys W')\/(∃pre,pre<+:qas s l r hs hs.length/\Jx pre W')):=by
 have hlen:hs.length<=16:=by
  rcases hr with rfl|hr
  ·simp
  ·obtain⟨a,b,-⟩:=hdsB_iff.1 hr
   have:=mayB_iff.1 a
   omega
 have hall:∀x∈hs,hdB x=true:=by
  rcases hr with rfl|hr
  ·simp
  ·exact(hdsB_iff.1 hr).2.2
 have hbc:=hc.1.cell;refine callsIn_of_wp Tryz.func422 rfl trivial ?_ rfl;simp only[Tryz.ntmps422,wbj,way,wbq,Nat.reduceAdd,Nat.reduceSub,wci,wcj,wck,wcl,wba,wcb];gi_wp2
 gi_loopw [13,31] (λp _ wr=>∃(V:World) (j:Nat),V=wr/\p= .int .i64 (j:Int)/\j<=hs.length/\Cap V bh bi bg bw s l r (.slice A hs.length cap)/\Below w0.heap.size w0 V/\J (qas s l r hs j) V)
  (λp _ _=>hs.length - (intOf p).toNat)
 case atStart=>
  exact⟨_,0,rfl,rfl,wau _,hc,hB0,h0⟩
 case round=>
  obtain⟨V,j,rfl,rfl,hj,hcV,hB,hJs⟩:=hrel;by_cases hlt:j<hs.length
  ·obtain⟨p,k,c,m,rfl,hd,hmem,d0,d1,d2⟩:=(hH.below hB).at_ hlt
   have hrr:hdsB s l r hs=true:=by
    rcases hr with rfl|hr
    ·simp at hlt
    ·exact hr
   have hx:hs[j]? =some (k,c,m):=by
    have:=wbc hlt
    rw[hd] at this;injection this with e1 e2;rw[waj hlt,e1]
   have hw:=λ(U:World) (hU:Below w0.heap.size w0 U) (hx:Boxed U bw 75 (.slice (some p) hs.length cap))=>callsIn_wide (n:=n - 1)|>.2 (qu6 (j:Int) (some p) cap hs bw U hx (hH.below hU) hall hcap Zo)
   rw[qiy] at hw;have hB1:=(wac V.heap.size V).alloc (wab _) (.cells #[.int .i64 k,.int .i64 c,.int .i64 m] 82);have hg:=Hd.new V k c m;have hcA:=hcV.below hB1;have hi1:=hcA.2.1.cell;cases hwb:whoB hs j with
   |false=>
    have hu:qas s l r hs (j+1)=qas s l r hs j:=by rw[qdz,qhk hwb,wbl]
    rw[hwb] at hw;rw[<-hu] at hJs;have hw':=waa hw;clear hu hwb hw hd hx hmem;gi_wp2_with fail
    refine⟨trivial,(hw'.out _ (hB.trans (hB1.mono hB.size)) hcA.2.2.2).mono ?_⟩;rintro e W2 ⟨rfl,hC⟩;have hB2:=hB1.trans (hC.mono hB1.size);have hc2:=hcV.below hB2;have hJ2:=hJ _ _ _ hJs hB2;have hB3:=hB.trans (hB2.mono hB.size);gi_wp2_with fail
    go_roundw
    case rel=>exact⟨_,j+1,rfl,by go_num,Zo,hc2,hB3,hJ2⟩
    case measure=>simp[intOf];omega
   |true=>
    rw[hwb] at hw;have hw':=waa hw;obtain⟨sp,hsp⟩:∃sp,sp=qby s l r (j:Int):=⟨_,rfl⟩
    obtain⟨nb,hnb⟩:∃nb,nb=adNb (k,c,m):=⟨_,rfl⟩
    obtain⟨wd,hwd⟩:∃wd,wd=adWd (k,c,m):=⟨_,rfl⟩
    have hpre:=λ(i:Nat) (hi:(i:Int)<=nb)=>q5m (s:=s) (l:=l) (r:=r) hlt hwb hx (hnb▸hi)
    have hend:=λ(i:Nat) (hi:(i:Int)=nb)=>qrx (s:=s) (l:=l) (r:=r) hwb hx (hnb▸hi)
    rw[<-hsp,<-hwd] at hpre hend;have hmk:=hall _ hmem;have hnb1:=qh9 (k,c,m);have hwd1:=qib hmk;rw[<-hnb] at hnb1;rw[<-hwd] at hwd1;have hsb:0<=sp/\sp<=4000:=by
     obtain⟨a1,a2,-⟩:=hdsB_iff.1 hrr;have a3:=qf1 (j:=j) a1 Zo;have:=mayB_iff.1 a1
     omega
    have hsc:=λU=>callsIn_wide (n:=n - 1)|>.2 (qrc s l r (j:Int) U)
    have hsh:=λU=>callsIn_wide (n:=n - 1)|>.2 (q2n k c m U hmk)
    rw[<-hsp] at hsc;rw[<-hnb,<-hwd] at hsh;have hsc':=waa hsc;have hsh':=waa hsh;have hpre':=waa hpre;have hend':=waa hend;have hmx:=waa (show(qas s l r hs hs.length).length<=512 by rw[<-qd9 hrr];exact qfb s l r hs);clear hwb hw hd hx hmem hpre hend hsc hsh hsp hnb hwd hmk hrr;gi_wp2_with fail
    refine⟨trivial,(hw'.out _ (hB.trans (hB1.mono hB.size)) hcA.2.2.2).mono ?_⟩;rintro e W2 ⟨rfl,hC⟩;have hB2:=hB1.trans (hC.mono hB1.size);have hc2:=hcV.below hB2;have hg2:Hd W2 V.heap.size k c m:=hg.below hC hg.lt;obtain⟨q0,q1,q2,qf⟩:=hc2.2.2.1.cells;clear hB1 hg hcA hi1 hC d0 d1 d2;gi_wp2_with fail
    refine⟨trivial,(hsc'.out _).mono ?_⟩;rintro e W3 ⟨rfl,hC⟩;have hg3:Hd W3 V.heap.size k c m:=hg2.below hC hg2.lt;have hB3:=hB2.trans (hC.mono hB2.size);obtain⟨x0,x1,x2,xf⟩:=hg3.cells;clear hB2 hc2 hg2 q0 q1 q2 qf hC;gi_wp2_with fail
    refine⟨trivial,(hsh'.out _).mono ?_⟩;rintro e W4 ⟨rfl,hC⟩;have hB4:=hB3.trans (hC.mono hB3.size);have hc4:=hcV.below hB4;have hB5:=hB.trans (hB4.mono hB.size);have hJ4:=hJ _ _ _ hJs hB4;clear hB3 hg3 x0 x1 x2 xf hC hJs hB4;gi_wp2_with fail
    gi_loopw [31] (λq wr=>∃(U:World) (i:Nat),U=wr/\q= .int .i64 (i:Int)/\(i:Int)<=nb/\Cap U bh bi bg bw s l r (.slice (some p) hs.length cap)/\Below w0.heap.size w0 U/\J (qas s l r hs j++bls sp (j:Int) wd i) U)
     (λq _=>nb.toNat - (intOf q).toNat)
    case atStart=>
     exact⟨_,0,rfl,rfl,Zo,hc4,hB5,by simpa[bls] using hJ4⟩
    case round=>
     clear hc4 hB5 hJ4;obtain⟨U,i,rfl,rfl,hi,hcU,hBU,hJU⟩:=hrel;by_cases hil:(i:Int)<nb
     ·have hprod:0<=(i:Int)*wd/\(i:Int)*wd<=32*256:=⟨we3 Zo hwd1.1,wg6 Zo hwd1.2 hwd1.1 Zo⟩
      have kw1:IntKind.i64.wrap ((i:Int)*wd)=(i:Int)*wd:=wao _ Zo;have kw2:IntKind.i64.wrap (sp+(i:Int)*wd)=sp+(i:Int)*wd:=wao _ Zo;have hp1:=waa (hpre'.out (i+1) Zo);have hll:(qas s l r hs j++bls sp (j:Int) wd i).length<600:=by
       have:=(hpre'.out i hi).length_le
       have:=hmx.out
       omega
      obtain⟨fn,tmps,assign,body,hy,hR⟩:=hY _ (sp+(i:Int)*wd,(j:Int),(i:Int),wd) U hJU hll;dsimp only[encB] at hy;rw[wbm,<-qg7] at hR;clear hll hprod;gi_wp2_with fail
      refine hR.mono ?_;rintro e U3 (⟨rfl,hJ3,hk3⟩|⟨rfl,hJx3⟩)
      ·have hc3:=hk3.1 hcU
       have hB3:=hBU.trans hk3.2;clear hp1;gi_wp2_with fail
       go_roundw
       case rel=>exact⟨_,i+1,rfl,by go_num,Zo,hc3,hB3,hJ3⟩
       case measure=>simp[intOf];omega
      ·gi_wp2_with fail
       refine bodyPost_ret (results_none rfl _ _ _) rfl ?_;exact⟨⟨_,rfl⟩,.inr ⟨_,hp1.out,hJx3⟩⟩
     ·have he:=hend'.out i Zo
      rw[he] at hJU;clear he;gi_wp2_with fail
      go_roundw
      case rel=>exact⟨_,j+1,rfl,by go_num,Zo,hcU,hBU,hJU⟩
      case measure=>simp[intOf];omega
  ·obtain rfl:j=hs.length:=Zo
   gi_wp2_with fail
   go_end0
   exact⟨⟨_,rfl⟩,.inl ⟨_,rfl,hJs⟩⟩
theorem qrm(n:Nat)(hn:1<=n)(bh bi bg bw:Nat)(s l r:Int)(A:Option Addr)(cap:Nat)(hs:List HD)(w0 w:World)(hH:HdsRd w0 A hs.length hs)(hcap:hs.length<=cap)(hc:Cap w bh bi bg bw s l r (rgtV s l r A cap hs))(hB0:Below w0.heap.size w0 w):
  SeqStopsK Fence.wide n Tryz.prog 422 #[.pointer (some ⟨bh,0,none⟩),.pointer (some ⟨bi,0,none⟩),.pointer (some ⟨bg,0,none⟩)] encB (qe9 w0.heap.size bh bi bg bw s l r (rgtV s l r A cap hs)) (λys=>ys=qbd s l r hs) (λpre=>pre<+:qbd s l r hs) 600 w:=λy J Jx W hW hJ hJx hY h0=>by
 have hJ':∀pre X Y,J pre X->Below X.heap.size X Y->J pre Y:=λpre X Y hj hb=>hJ pre X Y none hj ⟨hb.os,hb.tape,hb.output,hb.size,λk hk _=>hb.block k hk⟩ (λr e=>by cases e)
 have hcW:=hc.below hW;have hBW:=hB0.trans (hW.mono hB0.size);cases hr:hdsB s l r hs with
 |true=>
  rw[qd9 hr];rw[qsk hr] at hcW hY;exact qm5 n hn y bh bi bg bw s l r A cap hs w0 hH (.inr hr) hcap J Jx hJ' hY W hcW hBW h0
 |false=>
  rw[qg9 hr];rw[qkx hr] at hcW hY;exact qm5 n hn y bh bi bg bw s l r none 0 [] w0 (q97 _ _) (.inl rfl) (wab _) J Jx hJ' hY W hcW hBW h0
attribute [local go_sem] wcy
theorem qe3{W W':World}{row:Option Nat}{B:Nat}{C:Array Value}{t:TypeId}{fr:Nat×Nat}(h:W.heap[B]? =some (.cells C t fr))(hg:W.grownBy W' row)(hr:∀r,row=some r->∃o:Obj,W.heap[r]? =some o/\o.isCells=false):W'.heap[B]? =some (.cells C t fr):=
 (hg.block B (wal.1 h).1 (λe'=>by obtain⟨o,ho,hc⟩:=hr B e'.symm;rw[h] at ho;cases ho;cases hc)).trans h
def Sb(V:World)(b:Nat)(sp ix wd:Int):Prop:=V.heap[b]? =some (.cells #[.int .i64 sp,.int .i64 ix,.int .i64 wd] 164 (0,0))
theorem Sb.below{V V':World}{b B:Nat}{s l r:Int}(h:Sb V b s l r)(hb:Below B V V')(hB:b<B):Sb V' b s l r:=(hb.block b hB).trans h
theorem Sb.lt{V:World}{b:Nat}{s l r:Int}(h:Sb V b s l r):b<V.heap.size:=(wal.1 h).1
theorem Sb.cells{V:World}{b:Nat}{s l r:Int}(h:Sb V b s l r):V.cell? ⟨b,0,none⟩=some (.int .i64 s)/\V.cell? ⟨b,1,none⟩=some (.int .i64 l)/\V.cell? ⟨b,2,none⟩=some (.int .i64 r)/\(∀o,V.frozen? ⟨b,o,none⟩=false):=
 ⟨by rw[qaa h];rfl,by rw[qaa h];rfl,by rw[qaa h];rfl,λo=>qaj h o⟩
theorem Sb.new(W:World)(s l r:Int):Sb (W.alloc (.cells #[.int .i64 s,.int .i64 l,.int .i64 r] 164)) W.heap.size s l r:=World.alloc_heap_new W _
theorem Sb.set{V:World}{b:Nat}{k c n k' c' n':Int}(h:Sb V b k c n):Sb (((V.setCell ⟨b,0,none⟩ (.int .i64 k')).setCell ⟨b,1,none⟩ (.int .i64 c')).setCell ⟨b,2,none⟩ (.int .i64 n')) b k' c' n':=by
 have h1:=qah h 0 (.int .i64 k');have h2:=qah h1 1 (.int .i64 c');exact qah h2 2 (.int .i64 n')
theorem Sb.other{V:World}{b b':Nat}{k c n:Int}{o:Nat}{v:Value}(h:Sb V b k c n)(hne:b≠b'):Sb (V.setCell ⟨b',o,none⟩ v) b k c n:=(wat _ _ _ _ hne).trans h
theorem pAt_iff{a:Int}{b:BL}:pAt a b=true↔b.1=a:=by simp[pAt]
def NoB(p:BL->Bool)(l:List BL):Prop:=∀y∈l,p y=false
def HitS(p:BL->Bool)(W:World)(br bb:Nat)(pre:List BL):Prop:=∃pre' b,pre=pre'++[b]/\NoB p pre'/\p b=true/\Sb W br b.2.1 b.2.2.1 b.2.2.2/\Boxed W bb 4 (.bool true)
theorem qabt{p:BL->Bool}{pre:List BL}{x:BL}(h:NoB p pre)(hx:p x=false):NoB p (pre++[x]):=by
 intro y hy;rcases wa6.1 hy with hy|hy
 ·exact h y hy
 ·rw[wbx.1 hy];exact hx
theorem qrn{n0 bh bi bg bw:Nat}{s l r:Int}{v:Value}(W:World):qe9 n0 bh bi bg bw s l r v W W:=⟨id,wac _ _⟩
theorem qq1{n0 bh bi bg bw:Nat}{s l r:Int}{v:Value}{W:World}(h:n0<=W.heap.size)(o:Obj):qe9 n0 bh bi bg bw s l r v W (W.alloc o):=⟨λh=>h.below ((wac _ W).alloc (wab _) o),(wac _ W).alloc h o⟩
theorem qnl{W w:World}{br bb n0:Nat}{sp ix wd:Int}{v:Value}(h2:Sb W br sp ix wd)(h3:Boxed W bb 4 v)(hne:br≠bb)(h4:Below n0 w W)(hb1:n0<=br)(hb2:n0<=bb)(k c n:Int)(v':Value):
  Sb ((((W.setCell ⟨br,0,none⟩ (.int .i64 k)).setCell ⟨br,1,none⟩ (.int .i64 c)).setCell ⟨br,2,none⟩ (.int .i64 n)).setCell ⟨bb,0,none⟩ v') br k c n/\
  Boxed ((((W.setCell ⟨br,0,none⟩ (.int .i64 k)).setCell ⟨br,1,none⟩ (.int .i64 c)).setCell ⟨br,2,none⟩ (.int .i64 n)).setCell ⟨bb,0,none⟩ v') bb 4 v'/\
  Below n0 w ((((W.setCell ⟨br,0,none⟩ (.int .i64 k)).setCell ⟨br,1,none⟩ (.int .i64 c)).setCell ⟨br,2,none⟩ (.int .i64 n)).setCell ⟨bb,0,none⟩ v')/\
  KeepsOthers W ((((W.setCell ⟨br,0,none⟩ (.int .i64 k)).setCell ⟨br,1,none⟩ (.int .i64 c)).setCell ⟨br,2,none⟩ (.int .i64 n)).setCell ⟨bb,0,none⟩ v'):=by
 have e3:Boxed (((W.setCell ⟨br,0,none⟩ (.int .i64 k)).setCell ⟨br,1,none⟩ (.int .i64 c)).setCell ⟨br,2,none⟩ (.int .i64 n)) bb 4 v:=(wat _ _ _ _ (Ne.symm hne)).trans ((wat _ _ _ _ (Ne.symm hne)).trans ((wat _ _ _ _ (Ne.symm hne)).trans h3));exact⟨h2.set.other hne,e3.set _,(((h4.setCell (p:=⟨br,0,none⟩) hb1 _).setCell (p:=⟨br,1,none⟩) hb1 _).setCell (p:=⟨br,2,none⟩) hb1 _).setCell (p:=⟨bb,0,none⟩) hb2 _,
  (((KeepsOthers.setCell _ _ _).trans (KeepsOthers.setCell _ _ _)).trans (KeepsOthers.setCell _ _ _)).trans (KeepsOthers.setCell _ _ _)⟩
theorem q56(s l r a:Int)(A:Option Addr)(cap:Nat)(hs:List HD)(w:World)(h:HdsRd w A hs.length hs)(hcap:hs.length<=cap)(hn:hs.length<=9223372036854775800):
  Calls Tryz.prog 368 #[.agg #[.int .i64 s,.int .i64 l,.int .i64 r],.slice A hs.length cap,.int .i64 a] w λe w'=>e=qxh ((qbd s l r hs).find? (pAt a))/\Below w.heap.size w w':=by
 refine(callsIn_wide (n:=5)).1 ?_;obtain⟨W1,hW1⟩:∃W1,(((w.alloc (.cells #[.int .i64 s,.int .i64 l,.int .i64 r] 23)).alloc (.cells #[.int .i64 a] 3)).alloc (.cells #[.int .i64 0,.int .i64 0,.int .i64 0] 164)).alloc (.cells #[.bool false] 4)=W1:=⟨_,rfl⟩
 have hB:Below w.heap.size w W1:=by rw[<-hW1];exact(((wac _ w).alloc (wab _) _).alloc Zs _).alloc Zx _|>.alloc Zx _
 have hg:Gm W1 w.heap.size s l r:=by rw[<-hW1];exact qag (qag (qag (qan rfl _ _) _) _) _
 have ha:Boxed W1 (w.heap.size+1) 3 (.int .i64 a):=by rw[<-hW1];exact qag (qag (qan Zs _ _) _) _
 have hr:Sb W1 (w.heap.size+1+1) 0 0 0:=by rw[<-hW1];exact qag (qan Zs _ _) _
 have hb:Boxed W1 (w.heap.size+1+1+1) 4 (.bool false):=by rw[<-hW1];exact qan Zs _ _
 obtain⟨c0,c1,c2,f⟩:=hg.cells;have hbl:=waa (qxl s l r A cap hs W1 (h.below hB) hn);refine callsIn_of_wp_marks Tryz.func368 rfl trivial ?_ rfl;simp only[Tryz.ntmps368,wbj,way,wbq,Nat.reduceAdd,Nat.reduceSub,wci,wcj,wck,wcl,wba,wcb];gi_wp2_with fail
 have hsz:=waa (show W1.heap.size=w.heap.size+4 by rw[<-hW1];simp);clear hW1;refine⟨trivial,(callsIn_wide.2 hbl.out).mono ?_⟩;rintro e w2 ⟨bi,bw,rfl,hcp,hbi,hbw,hC⟩;have ha2:Boxed w2 (w.heap.size+1) 3 (.int .i64 a):=qao ha hC (by have:=hsz.out;omega);have hr2:Sb w2 (w.heap.size+1+1) 0 0 0:=qao hr hC (by have:=hsz.out;omega);have hb2:Boxed w2 (w.heap.size+1+1+1) 4 (.bool false):=qao hb hC (by have:=hsz.out;omega);have hB2:Below w.heap.size w w2:=hB.trans (hC.mono hB.size);have hs2:w.heap.size+4<=w2.heap.size:=by have:=hC.size;have:=hsz.out;omega
 clear hg ha hr hb c0 c1 c2 f hbl hB;gi_wp2_with fail
 refine wpIn_rangeFunc_ownH rfl Zo (gf:=422) (lb:=#[.pointer (some ⟨W1.heap.size+1,0,none⟩),.pointer (some ⟨bi,0,none⟩),.pointer (some ⟨W1.heap.size,0,none⟩)]) rfl trivial (enters_of Tryz.func422 Zk rfl)
  (qrm _ Zo (W1.heap.size+1) bi W1.heap.size bw s l r A cap hs w w2 h hcap hcp hB2) q4f (q5h hB2.size) (wac _ _) (λ_=>rfl)
  (λpre W=>((Boxed W (w.heap.size+1) 3 (.int .i64 a)/\Sb W (w.heap.size+1+1) 0 0 0/\Boxed W (w.heap.size+1+1+1) 4 (.bool false))/\Below w.heap.size w W)/\NoB (pAt a) pre)
  (λc pre W=>(c= .ret/\HitS (pAt a) W (w.heap.size+1+1) (w.heap.size+1+1+1) pre)/\Below w.heap.size w W)
  (OwnFrom.and (OwnFrom.and (Own.from (λs X Y row hs hg hr=>⟨qe3 hs.1 hg hr,qe3 hs.2.1 hg hr,qe3 hs.2.2 hg hr⟩) _) (ownFrom_below (wab _) hB2.size)) (ownFrom_pure _ _))
  (λc=>OwnFrom.and (Own.from (λs X Y row hs hg hr=>by obtain⟨hc,pre',b,h1,h2,h3,h4,h5⟩:=hs;exact⟨hc,pre',b,h1,h2,h3,qe3 h4 hg hr,qe3 h5 hg hr⟩) _) (ownFrom_below (wab _) hB2.size))
  ⟨⟨⟨ha2,hr2,hb2⟩,hB2⟩,λ_ hy=>by cases hy⟩
  (λx a' W=>∃Bx,w.heap.size+4<=Bx/\Sb W Bx x.2.1 x.2.2.1 x.2.2.2/\a'={tmps:=#[.agg #[.int .i64 s,.int .i64 l,.int .i64 r],.slice A hs.length cap,.int .i64 a,.pointer (some ⟨w.heap.size,0,none⟩),undef,.pointer (some ⟨w.heap.size+1,0,none⟩),.pointer (some ⟨w.heap.size+1+1,0,none⟩),.pointer (some ⟨w.heap.size+1+1+1,0,none⟩),.int .i64 x.1,.pointer (some ⟨Bx,0,none⟩),.agg #[.int .i64 s,.int .i64 l,.int .i64 r],.slice A hs.length cap,.func (.func 422) #[] #[.pointer (some ⟨W1.heap.size+1,0,none⟩),.pointer (some ⟨bi,0,none⟩),.pointer (some ⟨W1.heap.size,0,none⟩)],.int .i64 x.1,.agg #[.int .i64 x.2.1,.int .i64 x.2.2.1,.int .i64 x.2.2.2],undef,undef,undef,undef,undef],defers:=[]})
  (λx a' _ X Y row hs hg hr=>by obtain⟨Bx,h1,h2,h3⟩:=hs;exact⟨Bx,h1,qe3 h2 hg (λr e=>(hr r e).2),h3⟩)
  ?assign ?body ?done ?stop
 case assign=>
  rintro l0 pre ⟨b0,b1,b2,b3⟩ W K ⟨⟨⟨h1,h2,h3⟩,h4⟩,h5⟩ hK;dsimp only[encB];gi_wp2_with fail
  exact hK _ _ ((KeepsOthers.alloc _ _).from _) (qq1 h4.size _) ⟨⟨⟨qag h1 _,qag h2 _,qag h3 _⟩,h4.alloc h4.size _⟩,h5⟩ ⟨W.heap.size,by have:=h3.lt;omega,Sb.new W b1 b2 b3,rfl⟩
 case body=>
  rintro l0 pre ⟨b0,b1,b2,b3⟩ a' W hl0 ⟨rr,hrr⟩ ⟨⟨⟨h1,h2,h3⟩,h4⟩,h5⟩ ⟨Bx,hBx,hbx,rfl⟩ hlt;obtain⟨x0,x1,x2,xf⟩:=hbx.cells;obtain⟨y0,y1,y2,yf⟩:=h2.cells;have z0:=h3.cell;have zf:=h3.frozen;have u0:=h1.cell;by_cases hp:b0=a
  ·have hpe:(b0==a)=true:=beq_iff_eq.2 hp
   have hhit:pAt a (a,b1,b2,b3)=true:=pAt_iff.2 rfl;obtain⟨g1,g2,g3,g4⟩:=qnl h2 h3 Zo h4 Zo Zo b1 b2 b3 (.bool true);gi_wp2_with fail
   exact⟨g4.from _,⟨rfl,pre,_,rfl,h5,hhit,g1,g2⟩,g3⟩
  ·have hpe:(b0==a)=false:=beq_eq_false_iff_ne.2 hp
   have hno:=qabt (p:=pAt a) (x:=(b0,b1,b2,b3)) h5 (by rw[<-wby,pAt_iff];exact hp);gi_wp2_with fail
   exact⟨KeepsFrom.refl _ _,qrn _,⟨⟨h1,h2,h3⟩,h4⟩,hno⟩
 case done=>
  rintro D ys W hD rfl ⟨⟨⟨h1,h2,h3⟩,h4⟩,h5⟩ hK;have hfi:=waa (qp5 h5);obtain⟨y0,y1,y2,yf⟩:=h2.cells;have z0:=h3.cell;have zf:=h3.frozen;obtain⟨g1,g2,g3,g4⟩:=qnl h2 h3 Zo h4 Zo Zo 0 0 0 (.bool false);gi_wp2_with fail
  have hK':=g4.same D _ hK rfl;refine⟨by simp,.inl ⟨_,_,rfl,run_takeDeferred hK',?_⟩⟩;obtain⟨e0,e1,e2,-⟩:=(show Sb _ _ _ _ _ from qdd (o':= .deferred none) g1 hK' rfl).cells;have e3:=(show Boxed _ _ _ _ from qdd (o':= .deferred none) g2 hK' rfl).cell;refine⟨.tuple #[.agg #[.int .i64 0,.int .i64 0,.int .i64 0],.bool false],?_,by rw[hfi.out];rfl,g3.trans (belowK_b (w:=w) (wab _) _ D _ _ (by have:=hB2.size;omega) hK' rfl rfl)⟩;simp[results,Tryz.f368,go_sem,e0,e1,e2,e3]
 case stop=>
  rintro D c pre W hD hpre ⟨⟨rfl,pre',⟨b0,b1,b2,b3⟩,rfl,g1,g2,g3,g4⟩,h4⟩ hK;have hfi:=waa (qrq hpre g1 g2);clear g1 g2 hpre;gi_wp2_with fail
  refine⟨by simp,.inl ⟨_,_,rfl,run_takeDeferred hK,?_⟩⟩;obtain⟨e0,e1,e2,-⟩:=(show Sb _ _ _ _ _ from qdd (o':= .deferred none) g3 hK rfl).cells;have e3:=(show Boxed _ _ _ _ from qdd (o':= .deferred none) g4 hK rfl).cell;refine⟨.tuple #[.agg #[.int .i64 b1,.int .i64 b2,.int .i64 b3],.bool true],?_,by rw[hfi.out];rfl,h4.trans (belowK_b (w:=w) (wab _) W D _ _ (by have:=hB2.size;omega) hK rfl rfl)⟩;simp[results,Tryz.f368,go_sem,e0,e1,e2,e3]
end Go.Proofs.YtocncmbeinmiaaaGreat
