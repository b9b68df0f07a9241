/- Parts. No condition. -/
import Derived.Test.YtgjhkafggagniaaGreatJoinV30
set_option linter.unusedVariables false
set_option maxRecDepth 100000
set_option maxHeartbeats 8000000
namespace Go.Proofs.YtgjhkafggagniaaGreat
open Go Go.RowKit
section
variable {A:AC} {E:DP HS} {i i':Nat} {l l':List Nat} {s s':DM×HS} {F F':Nat->Prop} {v v':Value} {ws ws':List (Int×Nat)} {w w' w2:World} {base n L:Nat} {e:Ending}
theorem AIn.at_(h:AIn A E i l s F v ws w)(hV:Upd (λk=>k=E.eb) w w'):AcR A v ws w':=h.a.upd hV h.ebn.2 (λk hk e=>h.nR k hk (e▸h.ebn.1))
theorem qcp{FN:Nat}{fcaps:Array Value}{g:HS->Int×HS}(hen:∀(args:Array Value) (w:World),(callFunc FN args).run Tryz.prog w= .ok (.enter FN args) w)(h:AIn A E i l s F v ws w)(hD:DdE A E base n L)(hw:onceH g E.sp i l s≠ .wild)(hf:∀V G,Upd (λk=>k=E.eb) w V->HpX base A.hb n L A.r s.2 G V->(∀k,G k->F k)->(∀j,(s.2.2 j).length<=300000)->Calls Tryz.prog FN fcaps V λe V'=>e= .returned (.int .i64 (g s.2).1)/\(∃G',HpX base A.hb n L A.r (g s.2).2 G' V'/\Grows G G' V)/\Upd G V V'):
  Calls Tryz.prog 247 #[.pointer (some ⟨A.ab,0,none⟩),.func (.func FN) #[] fcaps] w λe w'=>E.Post (onceH g E.sp i l s) (λ(z:Int) v _=>v= .int .i64 z) F w e w':=by
 obtain⟨hx,ho⟩:=qrj hw;rw[ho] at hw ⊢;refine qwe hen h hw ?_;rw[hD.ex];exact λV G hV hX hG=>hf V G hV hX hG hx
noncomputable def bwA (A:AC) (a:Int):AP (DM×HS) Int:=onceH (λt=>(bwN A.s A.l A.r t.1 a,(t.1,t.2)))
noncomputable def takA (L:Nat) (who c:Int):AP (DM×HS) Int:=onceH (λt=>((takO L t.2 who c).getD (-1),(t.1,takS L t.2 who c)))
noncomputable def refA (L:Nat) (who c:Int):AP (DM×HS) Int:=onceH (λt=>((refN L t.2 who c:Int),(t.1,refS L t.2 who c)))
noncomputable def givA (L:Nat) (who c x:Int):AP (DM×HS) Unit:=(onceH (λt=>(0,(t.1,givS L t.2 who c x)))).bind λ_=>AP.ret ()
theorem qji(h:AIn A E i l s F v ws w)(hD:DdE A E base n L)(a:Int)(hw:bwA A a E.sp i l s≠ .wild):
  Calls Tryz.prog 311 #[.pointer (some ⟨A.ab,0,none⟩),.int .i64 a] w λe w'=>E.Post (bwA A a E.sp i l s) (λ(z:Int) v _=>v= .int .i64 z) F w e w':=by
 have hmf:∀(fn:Fn) (first cap:Array Value) (w:World),(Instr.makeFunc fn first cap).run Tryz.prog w= .ok (.func fn first cap) w:=λ_ _ _ _=>rfl
 obtain⟨W1,hW1⟩:∃W1,(w.alloc (.cells #[.pointer (some ⟨A.ab,0,none⟩)] 154)).alloc (.cells #[.int .i64 a] 3)=W1:=⟨_,rfl⟩
 have hu:Upd (λ_=>False) w W1:=by rw[<-hW1];exact(((Upd.refl _ w).alloc _).alloc _)
 have hb0:Boxed W1 (w.heap.size) 154 (.pointer (some ⟨A.ab,0,none⟩)):=by rw[<-hW1];exact qag (qad rfl _ _) _
 have hb1:Boxed W1 (w.heap.size+1) 3 (.int .i64 a):=by rw[<-hW1];exact qad Zs _ _
 have h1:=h.new hu;have heb:E.eb<w.heap.size:=h.i.lt h.ebn.1;have hwt:onceH (λt=>(bwN A.s A.l A.r t.1 a,(t.1,t.2))) E.sp i l s≠ .wild:=hw;have hon:=waa (qcp (FN:=351) (fcaps:=#[.pointer (some ⟨w.heap.size,0,none⟩),.pointer (some ⟨w.heap.size+1,0,none⟩)]) (g:=(λt=>(bwN A.s A.l A.r t.1 a,(t.1,t.2)))) (λargs w=>by simp[go_sem]) h1 hD hwt (λV G hV hX hG hx=>by
  refine(qzo hX (h1.at_ hV) (qac hb0 hV Zo) (qac hb1 hV Zo)).mono ?_;rintro e V' ⟨he,hB⟩;exact⟨he,HpX.next (hX.less hB).2,(hX.less hB).1⟩))
 have c0:=hb0.cell;replace hus:=waa hu;replace hw:=waa hw;replace hwt:=waa hwt;clear h1 hb0 hb1 heb h hu;go_enter Tryz.func311,Tryz.ntmps311;go_wp2_with fail;try rw[hW1]
 refine hon.out.mono ?_;rintro e V hpost;rcases hpost.done hwt.out with ⟨z,i',l',s',x,F',ho,rfl,rfl,hI,hg,hu⟩|⟨bl,l',s',F',ho,rfl,hO,hg,hu⟩
 ·have hfin:=waa (DP.Post.ended (t:=bwA A a) (R:=λ(z:Int) v _=>v= .int .i64 z) (v:= .int .i64 z) ho rfl rfl hI (λk hk=>(hg k hk).imp id (λe=>wam hus.out.size e)) ((hus.out.mono (λ_ e=>e.elim)).trans hu))
  clear hpost ho hI hg hu;go_wp2_with fail;go_ret;exact hfin.out
 ·exact⟨rfl,DP.Post.stopped (t:=bwA A a) ho rfl hO (λk hk=>(hg k hk).imp id (λe=>wam hus.out.size e)) ((hus.out.mono (λ_ e=>e.elim)).trans hu)⟩
theorem qfc(h:AIn A E i l s F v ws w)(hD:DdE A E base n L)(c:Int)(hw:takA L A.who c E.sp i l s≠ .wild):
  Calls Tryz.prog 301 #[.pointer (some ⟨A.ab,0,none⟩),.int .i64 c] w λe w'=>E.Post (takA L A.who c E.sp i l s) (λ(z:Int) v _=>v= .int .i64 z) F w e w':=by
 have hmf:∀(fn:Fn) (first cap:Array Value) (w:World),(Instr.makeFunc fn first cap).run Tryz.prog w= .ok (.func fn first cap) w:=λ_ _ _ _=>rfl
 obtain⟨W1,hW1⟩:∃W1,(w.alloc (.cells #[.pointer (some ⟨A.ab,0,none⟩)] 154)).alloc (.cells #[.int .i64 c] 3)=W1:=⟨_,rfl⟩
 have hu:Upd (λ_=>False) w W1:=by rw[<-hW1];exact(((Upd.refl _ w).alloc _).alloc _)
 have hb0:Boxed W1 (w.heap.size) 154 (.pointer (some ⟨A.ab,0,none⟩)):=by rw[<-hW1];exact qag (qad rfl _ _) _
 have hb1:Boxed W1 (w.heap.size+1) 3 (.int .i64 c):=by rw[<-hW1];exact qad Zs _ _
 have h1:=h.new hu;have heb:E.eb<w.heap.size:=h.i.lt h.ebn.1;have hwt:onceH (λt=>((takO L t.2 A.who c).getD (-1),(t.1,takS L t.2 A.who c))) E.sp i l s≠ .wild:=hw;have hon:=waa (qcp (FN:=341) (fcaps:=#[.pointer (some ⟨w.heap.size,0,none⟩),.pointer (some ⟨w.heap.size+1,0,none⟩)]) (g:=(λt=>((takO L t.2 A.who c).getD (-1),(t.1,takS L t.2 A.who c)))) (λargs w=>by simp[go_sem]) h1 hD hwt (λV G hV hX hG hx=>qsh hX (h1.at_ hV) (qac hb0 hV Zo) (qac hb1 hV Zo) (λe=>by have:=h.i.lt (hG _ e);omega) hx));have c0:=hb0.cell;replace hus:=waa hu;replace hw:=waa hw;replace hwt:=waa hwt;clear h1 hb0 hb1 heb h hu;go_enter Tryz.func301,Tryz.ntmps301;go_wp2_with fail;try rw[hW1]
 refine hon.out.mono ?_;rintro e V hpost;rcases hpost.done hwt.out with ⟨z,i',l',s',x,F',ho,rfl,rfl,hI,hg,hu⟩|⟨bl,l',s',F',ho,rfl,hO,hg,hu⟩
 ·have hfin:=waa (DP.Post.ended (t:=takA L A.who c) (R:=λ(z:Int) v _=>v= .int .i64 z) (v:= .int .i64 z) ho rfl rfl hI (λk hk=>(hg k hk).imp id (λe=>wam hus.out.size e)) ((hus.out.mono (λ_ e=>e.elim)).trans hu))
  clear hpost ho hI hg hu;go_wp2_with fail;go_ret;exact hfin.out
 ·exact⟨rfl,DP.Post.stopped (t:=takA L A.who c) ho rfl hO (λk hk=>(hg k hk).imp id (λe=>wam hus.out.size e)) ((hus.out.mono (λ_ e=>e.elim)).trans hu)⟩
theorem qhu(h:AIn A E i l s F v ws w)(hD:DdE A E base n L)(c:Int)(hw:refA L A.who c E.sp i l s≠ .wild):
  Calls Tryz.prog 303 #[.pointer (some ⟨A.ab,0,none⟩),.int .i64 c] w λe w'=>E.Post (refA L A.who c E.sp i l s) (λ(z:Int) v _=>v= .int .i64 z) F w e w':=by
 have hmf:∀(fn:Fn) (first cap:Array Value) (w:World),(Instr.makeFunc fn first cap).run Tryz.prog w= .ok (.func fn first cap) w:=λ_ _ _ _=>rfl
 obtain⟨W1,hW1⟩:∃W1,(w.alloc (.cells #[.pointer (some ⟨A.ab,0,none⟩)] 154)).alloc (.cells #[.int .i64 c] 3)=W1:=⟨_,rfl⟩
 have hu:Upd (λ_=>False) w W1:=by rw[<-hW1];exact(((Upd.refl _ w).alloc _).alloc _)
 have hb0:Boxed W1 (w.heap.size) 154 (.pointer (some ⟨A.ab,0,none⟩)):=by rw[<-hW1];exact qag (qad rfl _ _) _
 have hb1:Boxed W1 (w.heap.size+1) 3 (.int .i64 c):=by rw[<-hW1];exact qad Zs _ _
 have h1:=h.new hu;have heb:E.eb<w.heap.size:=h.i.lt h.ebn.1;have hwt:onceH (λt=>((refN L t.2 A.who c:Int),(t.1,refS L t.2 A.who c))) E.sp i l s≠ .wild:=hw;have hon:=waa (qcp (FN:=343) (fcaps:=#[.pointer (some ⟨w.heap.size,0,none⟩),.pointer (some ⟨w.heap.size+1,0,none⟩)]) (g:=(λt=>((refN L t.2 A.who c:Int),(t.1,refS L t.2 A.who c)))) (λargs w=>by simp[go_sem]) h1 hD hwt (λV G hV hX hG hx=>qn6 hX (h1.at_ hV) (qac hb0 hV Zo) (qac hb1 hV Zo) (λe=>by have:=h.i.lt (hG _ e);omega) hx));have c0:=hb0.cell;replace hus:=waa hu;replace hw:=waa hw;replace hwt:=waa hwt;clear h1 hb0 hb1 heb h hu;go_enter Tryz.func303,Tryz.ntmps303;go_wp2_with fail;try rw[hW1]
 refine hon.out.mono ?_;rintro e V hpost;rcases hpost.done hwt.out with ⟨z,i',l',s',x,F',ho,rfl,rfl,hI,hg,hu⟩|⟨bl,l',s',F',ho,rfl,hO,hg,hu⟩
 ·have hfin:=waa (DP.Post.ended (t:=refA L A.who c) (R:=λ(z:Int) v _=>v= .int .i64 z) (v:= .int .i64 z) ho rfl rfl hI (λk hk=>(hg k hk).imp id (λe=>wam hus.out.size e)) ((hus.out.mono (λ_ e=>e.elim)).trans hu))
  clear hpost ho hI hg hu;go_wp2_with fail;go_ret;exact hfin.out
 ·exact⟨rfl,DP.Post.stopped (t:=refA L A.who c) ho rfl hO (λk hk=>(hg k hk).imp id (λe=>wam hus.out.size e)) ((hus.out.mono (λ_ e=>e.elim)).trans hu)⟩
theorem qfd(h:AIn A E i l s F v ws w)(hD:DdE A E base n L)(c:Int)(x:Int)(hw:givA L A.who c x E.sp i l s≠ .wild):
  Calls Tryz.prog 258 #[.pointer (some ⟨A.ab,0,none⟩),.int .i64 c,.int .i64 x] w λe w'=>E.Post (givA L A.who c x E.sp i l s) qbc F w e w':=by
 have hmf:∀(fn:Fn) (first cap:Array Value) (w:World),(Instr.makeFunc fn first cap).run Tryz.prog w= .ok (.func fn first cap) w:=λ_ _ _ _=>rfl
 obtain⟨W1,hW1⟩:∃W1,((w.alloc (.cells #[.pointer (some ⟨A.ab,0,none⟩)] 154)).alloc (.cells #[.int .i64 c] 3)).alloc (.cells #[.int .i64 x] 3)=W1:=⟨_,rfl⟩
 have hu:Upd (λ_=>False) w W1:=by rw[<-hW1];exact((((Upd.refl _ w).alloc _).alloc _).alloc _)
 have hb0:Boxed W1 (w.heap.size) 154 (.pointer (some ⟨A.ab,0,none⟩)):=by rw[<-hW1];exact qag (qag (qad rfl _ _) _) _
 have hb1:Boxed W1 (w.heap.size+1) 3 (.int .i64 c):=by rw[<-hW1];exact qag (qad Zs _ _) _
 have hb2:Boxed W1 (w.heap.size+1+1) 3 (.int .i64 x):=by rw[<-hW1];exact qad Zs _ _
 have h1:=h.new hu;have heb:E.eb<w.heap.size:=h.i.lt h.ebn.1;have hwt:onceH (λt=>(0,(t.1,givS L t.2 A.who c x))) E.sp i l s≠ .wild:=AP.tame hw;have hon:=waa (qcp (FN:=305) (fcaps:=#[.pointer (some ⟨w.heap.size,0,none⟩),.pointer (some ⟨w.heap.size+1,0,none⟩),.pointer (some ⟨w.heap.size+1+1,0,none⟩)]) (g:=(λt=>(0,(t.1,givS L t.2 A.who c x)))) (λargs w=>by simp[go_sem]) h1 hD hwt (λV G hV hX hG hx=>qwb hX (h1.at_ hV) (qac hb0 hV Zo) (qac hb1 hV Zo) (λe=>by have:=h.i.lt (hG _ e);omega) (qac hb2 hV Zo) (λe=>by have:=h.i.lt (hG _ e);omega) hx));have c0:=hb0.cell;replace hus:=waa hu;replace hw:=waa hw;replace hwt:=waa hwt;clear h1 hb0 hb1 hb2 heb h hu;go_enter Tryz.func258,Tryz.ntmps258;go_wp2_with fail;try rw[hW1]
 refine hon.out.mono ?_;rintro e V hpost;rcases hpost.done hwt.out with ⟨z,i',l',s',x,F',ho,rfl,rfl,hI,hg,hu⟩|⟨bl,l',s',F',ho,rfl,hO,hg,hu⟩
 ·have hfin:=waa (DP.Post.ended (t:=givA L A.who c x) (R:=qbc) (v:= .tuple #[]) (by unfold givA;rw[AP.bind_done ho];rfl) rfl rfl hI (λk hk=>(hg k hk).imp id (λe=>wam hus.out.size e)) ((hus.out.mono (λ_ e=>e.elim)).trans hu))
  clear hpost ho hI hg hu;go_wp2_with fail;go_end0
  exact hfin.out
 ·exact⟨rfl,DP.Post.stopped (t:=givA L A.who c x) (by unfold givA;rw[AP.bind_stop ho]) rfl hO (λk hk=>(hg k hk).imp id (λe=>wam hus.out.size e)) ((hus.out.mono (λ_ e=>e.elim)).trans hu)⟩
end
def qbp(r s n:Int):Bool:=decide (1<=n/\n<=255/\0<=s/\s<=n/\0<=r/\r<=65535)
theorem bmay_iff{r s n:Int}:qbp r s n=true↔1<=n/\n<=255/\0<=s/\s<=n/\0<=r/\r<=65535:=by simp[qbp]
def qcu(r s n:Int):Bool:=decide (r=0/\s=0/\n=0)
theorem bzero_iff{r s n:Int}:qcu r s n=true↔r=0/\s=0/\n=0:=by simp[qcu]
theorem qw2{r s n:Int}(h:qbp r s n=true):qcu r s n=false:=by
 rw[<-wby,bzero_iff];have:=bmay_iff.1 h
 omega
def bW(r s n:Int):Nat:=(r+65536*s+16777216*n).toNat
theorem qhl{r s n:Int}(h:qbp r s n=true):((bW r s n:Nat):Int)=r+65536*s+16777216*n:=by
 have:=bmay_iff.1 h
 unfold bW;omega
theorem q2o{r s n:Int}(h:qbp r s n=true):bW r s n<4294967296/\0<bW r s n:=by
 have:=bmay_iff.1 h
 have:=qhl h
 omega
theorem qzt{r s n:Int}(h:qbp r s n=true):((bW r s n%65536:Nat):Int)=r/\((bW r s n/65536%256:Nat):Int)=s/\((bW r s n/16777216%256:Nat):Int)=n:=by
 have h1:=bmay_iff.1 h;have h2:=qhl h;generalize bW r s n=x at h2 ⊢;omega
theorem qrs{a b c:Nat}(ha:a<65536)(hb:b<256)(hc:c<256):qb8 0 0 [16,8,8] [a,b,c]=some (a+65536*b+16777216*c):=by
 have e1:=qbl (x:=0) (a:=0) (ws:=[8,8]) (vs:=[b,c]) (k:=16) (qbk Zo Zo) (show a<2 ^ 16 from ha);rw[qcf Zo Zo ha] at e1;have e2:=qbl (x:=0+a*2 ^ 0) (a:=0+16) (ws:=[8]) (vs:=[c]) (k:=8) (qbk Zo Zo) (show b<2 ^ 8 from hb);rw[qcf Zo Zo hb] at e2;have e3:=qbl (x:=0+a*2 ^ 0+b*2 ^ (0+16)) (a:=0+16+8) (ws:=[]) (vs:=[]) (k:=8) (qbk Zo Zo) (show c<2 ^ 8 from hc);rw[qcf Zo Zo hc] at e3;refine e1.trans (e2.trans (e3.trans ?_));show some _=some _
 congr 1
 omega
theorem qj9:endL 0 [16,8,8]=some 32:=by decide
theorem qn0{x:Nat}(h:x<4294967296):qdd x [16,8,8]=some [x%65536,x/65536%256,x/16777216%256]:=by
 rw[qjb qj9 (Nat.div_eq_of_lt h)];simp[qde,getN]
theorem qjr{x:Nat}(h:¬x<4294967296):qdd x [16,8,8]=none:=by
 refine qhr qj9 ?_;have e:(2:Nat) ^ 32=4294967296:=by decide
 rw[e];omega
def BHit(x:Nat)(c r s n:Int):Prop:=(x=0/\qcu r s n=true)\/(qbp r s n=true/\bW r s n=x/\clN n=c)
theorem BHit.told{x:Nat}{c r s n:Int}(h:BHit x c r s n):x<4294967296/\((x%65536:Nat):Int)=r/\((x/65536%256:Nat):Int)=s/\((x/16777216%256:Nat):Int)=n:=by
 rcases h with ⟨rfl,h⟩|⟨h1,rfl,_⟩
 ·have:=bzero_iff.1 h
  omega
 ·have:=qzt h1
  have:=q2o h1
  omega
theorem BHit.no{x:Nat}{c:Int}(h:¬BHit x c ((x%65536:Nat):Int) ((x/65536%256:Nat):Int) ((x/16777216%256:Nat):Int)):∀r s n,¬BHit x c r s n:=λr s n hh=>by
 obtain⟨-,a,b,d⟩:=hh.told;rw[a,b,d] at h;exact h hh
theorem BHit.big{x:Nat}{c:Int}(h:¬x<4294967296):∀r s n,¬BHit x c r s n:=λr s n hh=>h hh.told.1
theorem BHit.fields{x:Nat}{c:Int}(hx:x<4294967296)(h:qbp ((x%65536:Nat):Int) ((x/65536%256:Nat):Int) ((x/16777216%256:Nat):Int)=true)(hc:clN ((x/16777216%256:Nat):Int)=c):BHit x c ((x%65536:Nat):Int) ((x/65536%256:Nat):Int) ((x/16777216%256:Nat):Int):=by
 refine .inr ⟨h,?_,hc⟩;have:=qhl h
 omega
theorem BHit.nofields{x:Nat}{c r s n:Int}(hz:qcu r s n=false)(h:qbp r s n=false\/clN n≠c):¬BHit x c r s n:=by
 rintro(⟨_,h1⟩|⟨h1,_,h2⟩)
 ·rw[hz] at h1;cases h1
 ·rcases h with h|h
  ·rw[h] at h1;cases h1
  ·exact h h2
theorem qny{x:Nat}(hx:x<4294967296)(h:qcu ((x%65536:Nat):Int) ((x/65536%256:Nat):Int) ((x/16777216%256:Nat):Int)=true):x=0:=by
 have:=bzero_iff.1 h
 omega
def qe2(x:Nat)(c:Int)(e:Ending):Prop:=(∃r s n,BHit x c r s n/\e= .returned (.tuple #[.agg #[.int .i64 r,.int .i64 s,.int .i64 n],.int .i64 0]))\/((∀r s n,¬BHit x c r s n)/\e= .returned (.tuple #[.agg #[.int .i64 0,.int .i64 0,.int .i64 0],.int .i64 11]))
def slN(s n:Int):Int:=max 0 (min s n)
theorem q05{r s n:Int}(h:qbp r s n=true):slN s n=s:=by
 have:=bmay_iff.1 h
 unfold slN;omega
def Ob(V:World)(b:Nat)(k c n:Int):Prop:=V.heap[b]? =some (.cells #[.int .i64 k,.int .i64 c,.int .i64 n] 75 (0,0))
theorem Ob.below{V V':World}{b B:Nat}{k c n:Int}(h:Ob V b k c n)(hb:Below B V V')(hB:b<B):Ob V' b k c n:=(hb.block b hB).trans h
theorem Ob.lt{V:World}{b:Nat}{k c n:Int}(h:Ob V b k c n):b<V.heap.size:=(waj.1 h).1
theorem Ob.cells{V:World}{b:Nat}{k c n:Int}(h:Ob V b k c n):V.cell? ⟨b,0,none⟩=some (.int .i64 k)/\V.cell? ⟨b,1,none⟩=some (.int .i64 c)/\V.cell? ⟨b,2,none⟩=some (.int .i64 n)/\(∀o,V.frozen? ⟨b,o,none⟩=false):=
 ⟨by rw[qab h];rfl,by rw[qab h];rfl,by rw[qab h];rfl,λo=>qah h o⟩
theorem Ob.new(W:World)(k c n:Int):Ob (W.alloc (.cells #[.int .i64 k,.int .i64 c,.int .i64 n] 75)) W.heap.size k c n:=World.alloc_heap_new W _
theorem Ob.more{V:World}{b:Nat}{k c n:Int}(h:Ob V b k c n)(o:Obj):Ob (V.alloc o) b k c n:=h.below ((wai V.heap.size V).alloc (wah _) o) h.lt
theorem Ob.drew{V:World}{b:Nat}{k c n:Int}(h:Ob V b k c n):Ob V.drew b k c n:=h
theorem Ob.below_set{W V:World}{b:Nat}{k' c' n':Int}{B:Nat}(h:Below B W V)(hB:B<=b):Below B W (((V.setCell ⟨b,0,none⟩ (.int .i64 k')).setCell ⟨b,1,none⟩ (.int .i64 c')).setCell ⟨b,2,none⟩ (.int .i64 n')):=
 ((h.setCell (p:=⟨b,0,none⟩) hB _).setCell (p:=⟨b,1,none⟩) hB _).setCell (p:=⟨b,2,none⟩) hB _
theorem qca(w:World)(k c n:Int):Below w.heap.size w (w.alloc (.cells #[.int .i64 k,.int .i64 c,.int .i64 n] 75)):=(wai _ w).alloc (wah _) _
theorem qfh(w:World):Calls Tryz.prog 183 #[] w λe w'=>e= .returned (.slice (some ⟨w.heap.size,0,none⟩) 3 3)/\w.alloc (.cells #[.int .i64 16,.int .i64 8,.int .i64 8] 3)=w':=by
 go_enter Tryz.func183,Tryz.ntmps183;go_wp2
 go_ret;exact⟨rfl,rfl⟩
theorem qfg(n l m:Int)(w:World):Calls Tryz.prog 149 #[.int .i64 n,.int .i64 l,.int .i64 m] w λe w'=>e= .returned (.bool (decide (l<=n/\n<=m)))/\w=w':=by
 by_cases h1:l<=n<;>by_cases h2:n<=m
 all_goals
  go_enter Tryz.func149,Tryz.ntmps149;go_wp2
  go_ret;exact⟨qae (by symm;first|(apply decide_eq_true;omega)|(apply decide_eq_false;omega)|(simp;omega)),rfl⟩
theorem qkr(r s n:Int)(w:World):Calls Tryz.prog 184 #[.agg #[.int .i64 r,.int .i64 s,.int .i64 n]] w λe w'=>e= .returned (.bool (qcu r s n))/\Below w.heap.size w w':=by
 have hB:=qca w r s n;by_cases h:r=0/\s=0/\n=0
 ·obtain⟨rfl,rfl,rfl⟩:=h
  have hz:=waa (show qcu 0 0 0=true by decide);go_enter wea,web;go_wp2
  go_ret;exact⟨qae (by rw[hz.out]),hB⟩
 ·have hz:=waa (show qcu r s n=false by rw[<-wby,bzero_iff];exact h)
  by_cases h0:r=0
  ·subst h0
   by_cases h1:s=0
   ·subst h1
    have h2:¬n=0:=λe=>h ⟨rfl,rfl,e⟩
    have h3:¬0=n:=λe=>h2 e.symm
    clear h;go_enter wea,web;go_wp2
    go_ret;exact⟨qae (by rw[hz.out]),hB⟩
   ·have h3:¬0=s:=λe=>h1 e.symm
    clear h;go_enter wea,web;go_wp2
    go_ret;exact⟨qae (by rw[hz.out]),hB⟩
  ·have h3:¬0=r:=λe=>h0 e.symm
   clear h;go_enter wea,web;go_wp2
   go_ret;exact⟨qae (by rw[hz.out]),hB⟩
theorem qq0(r s n:Int):qbp r s n=(decide (1<=n/\n<=255)&&(decide (0<=s/\s<=n)&&decide (0<=r/\r<=65535))):=by
 rw[wch,bmay_iff];simp;omega
theorem qnf(r s n:Int)(w:World):Calls Tryz.prog 185 #[.agg #[.int .i64 r,.int .i64 s,.int .i64 n]] w λe w'=>e= .returned (.bool (qbp r s n))/\Below w.heap.size w w':=by
 have hB:=qca w r s n;have c1:=λV=>qfg n 1 255 V
 have c2:=λV=>qfg s 0 n V
 have c3:=λV=>qfg r 0 65535 V
 rw[qq0];generalize decide (1<=n/\n<=255)=a at c1 ⊢;generalize decide (0<=s/\s<=n)=b at c2 ⊢;generalize decide (0<=r/\r<=65535)=c at c3 ⊢;have d1:=waa c1;have d2:=waa c2;have d3:=waa c3;clear c1 c2 c3;cases a with
 |false=>
  go_enter Tryz.func185,Tryz.ntmps185;go_wp2_with fail;refine(d1.out _).mono ?_;rintro e w' ⟨rfl,rfl⟩;go_wp2_with fail;go_ret;exact⟨rfl,hB⟩
 |true=>
  cases b with
  |false=>
   go_enter Tryz.func185,Tryz.ntmps185;go_wp2_with fail;refine(d1.out _).mono ?_;rintro e w' ⟨rfl,rfl⟩;go_wp2_with fail;refine(d2.out _).mono ?_;rintro e w' ⟨rfl,rfl⟩;go_wp2_with fail;go_ret;exact⟨rfl,hB⟩
  |true=>
   go_enter Tryz.func185,Tryz.ntmps185;go_wp2_with fail;refine(d1.out _).mono ?_;rintro e w' ⟨rfl,rfl⟩;go_wp2_with fail;refine(d2.out _).mono ?_;rintro e w' ⟨rfl,rfl⟩;go_wp2_with fail;refine(d3.out _).mono ?_;rintro e w' ⟨rfl,rfl⟩;go_wp2_with fail;go_ret;exact⟨rfl,hB⟩
theorem qi9(r s n:Int)(w:World):Calls Tryz.prog 109 #[.agg #[.int .i64 r,.int .i64 s,.int .i64 n]] w λe w'=>e= .returned (.int .i64 (slN s n))/\Below w.heap.size w w':=by
 have hB:=qca w r s n;by_cases h1:n<s<;>by_cases h2:0<s<;>by_cases h3:0<n
 all_goals first|(exfalso;omega)|skip
 all_goals
  first
   |(have hs:=waa (show slN s n=n by unfold slN;omega))
   |(have hs:=waa (show slN s n=s by unfold slN;omega))
   |(have hs:=waa (show slN s n=0 by unfold slN;omega))
  go_enter Tryz.func109,Tryz.ntmps109;go_wp2
  go_ret;exact⟨qb2 (by rw[hs.out];(try omega)),hB⟩
end Go.Proofs.YtgjhkafggagniaaGreat
