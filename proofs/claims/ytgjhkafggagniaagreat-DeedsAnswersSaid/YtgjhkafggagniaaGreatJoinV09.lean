/- Parts. No condition. -/
import Derived.IntWalk
import Derived.Lib.SmallJoins
import Derived.Deep.Slices
import Derived.Deep.Fields
import Derived.ChangeSame
import Derived.Laws.AppendOwnNone
import Derived.Test.YtgjhkafggagniaaGreatJoinV08
set_option linter.unusedVariables false
set_option maxRecDepth 100000
set_option maxHeartbeats 8000000
namespace Go.Proofs.YtgjhkafggagniaaGreat
open Go Go.RowKit
def En(V:World)(b:Nat)(a:Int)(x:Nat):Prop:=V.heap[b]? =some (.cells #[.int .i64 a,.int .u64 (x:Int)] 169 (0,0))
theorem En.below{V V':World}{b B:Nat}{a:Int}{x:Nat}(h:En V b a x)(hb:Below B V V')(hB:b<B):En V' b a x:=(hb.block b hB).trans h
theorem En.lt{V:World}{b:Nat}{a:Int}{x:Nat}(h:En V b a x):b<V.heap.size:=(waj.1 h).1
theorem En.cells{V:World}{b:Nat}{a:Int}{x:Nat}(h:En V b a x):V.cell? ⟨b,0,none⟩=some (.int .i64 a)/\V.cell? ⟨b,1,none⟩=some (.int .u64 (x:Int))/\(∀o,V.frozen? ⟨b,o,none⟩=false):=
 ⟨by rw[qab h];rfl,by rw[qab h];rfl,λo=>qah h o⟩
theorem En.new(W:World)(a:Int)(x:Nat):En (W.alloc (.cells #[.int .i64 a,.int .u64 (x:Int)] 169)) W.heap.size a x:=World.alloc_heap_new W _
theorem En.drew{V:World}{b:Nat}{a:Int}{x:Nat}(h:En V b a x):En V.drew b a x:=h
theorem qpy(w:World)(a:Int)(x:Nat):Below w.heap.size w (w.alloc (.cells #[.int .i64 a,.int .u64 (x:Int)] 169)):=(wai _ w).alloc (wah _) _
def EsRd(w:World)(A:Option Addr)(n:Nat)(l:List (Int×Nat)):Prop:=
 l.length=n/\(0<n->∃p,A=some p/\∀j e,l[j]? =some e->w.cell? (p.add (j*2))=some (.int .i64 e.1)/\w.cell? ⟨(p.add (j*2)).block,(p.add (j*2)).off+1,none⟩=some (.int .u64 (e.2:Int)))
theorem EsRd.below{w w':World}{A:Option Addr}{n:Nat}{l:List (Int×Nat)}(h:EsRd w A n l)(hB:Below w.heap.size w w'):EsRd w' A n l:=
 ⟨h.1,λhn=>by
  obtain⟨p,e,hp⟩:=h.2 hn;refine⟨p,e,λj x hx=>?_⟩;obtain⟨h0,h1⟩:=hp j x hx;exact⟨(hB.cell (wal w _ h0)).trans h0,(hB.cell (wal w _ h1)).trans h1⟩⟩
theorem EsRd.at_{w:World}{A:Option Addr}{n k:Nat}{l:List (Int×Nat)}(h:EsRd w A n l)(hk:k<n):∃p a x,A=some p/\l.drop k=(a,x)::l.drop (k+1)/\(a,x)∈l/\w.cell? (p.add (k*2))=some (.int .i64 a)/\w.cell? ⟨(p.add (k*2)).block,(p.add (k*2)).off+1,none⟩=some (.int .u64 (x:Int)):=by
 obtain⟨p,e,hp⟩:=h.2 Zo;have hl:k<l.length:=by rw[h.1];exact hk
 obtain⟨h0,h1⟩:=hp k l[k] (wan hl);exact⟨p,l[k].1,l[k].2,e,wbl hl,wb4 hl,h0,h1⟩
def eV(l:List (Int×Nat)):List Value:=l.flatMap (λe=>[.int .i64 e.1,.int .u64 (e.2:Int)])
theorem qgs(l:List (Int×Nat)):(eV l).length=l.length*2:=by
 induction l with
 |nil=>rfl
 |cons e r ih=>
  show(Value.int .i64 e.1::Value.int .u64 (e.2:Int)::eV r).length=_
  simp only[waz,ih];omega
theorem qpb(l:List (Int×Nat))(a:Int)(x:Nat):eV (l++[(a,x)])=eV l++[.int .i64 a,.int .u64 (x:Int)]:=by simp[eV]
theorem qk8{l:List (Int×Nat)}{j:Nat}{e:Int×Nat}(h:l[j]? =some e):(eV l)[j*2]? =some (.int .i64 e.1)/\(eV l)[j*2+1]? =some (.int .u64 (e.2:Int)):=by
 induction l generalizing j with
 |nil=>simp at h
 |cons f r ih=>
  cases j with
  |zero=>
   obtain rfl:f=e:=by simpa using h
   exact⟨rfl,rfl⟩
  |succ k=>
   have:=ih (j:=k) (by simpa using h)
   rw[show(k+1)*2=k*2+1+1 by omega];exact this
theorem EsRd.of_own{w:World}{base n:Nat}{v:Value}{l:List (Int×Nat)}(h:w.ownsRow base 169 2 v n (eV l)):∃A cap,v= .slice A n cap/\EsRd w A n l:=by
 have hl:l.length=n:=by have:=h.1;rw[qgs] at this;omega
 rcases h.2 with ⟨rfl,h0⟩|⟨g,cap,cur,rfl,hb,hg,hn,hc,hs,ht⟩
 ·subst h0
  exact⟨none,0,rfl,hl,λh=>absurd h Zo⟩
 ·refine⟨_,_,rfl,hl,λ_=>⟨_,rfl,λj e he=>?_⟩⟩
  obtain⟨h0,h1⟩:=qk8 he;have hj:j<n:=by rw[<-hl];exact(was.1 he).1
  have ha:∀i,i<n*2->cur[i]? =(eV l)[i]?:=λi hi=>by
   rw[<-ht,waw,if_pos hi,wbm]
  have e0:(⟨g,0,none⟩:Addr).add (j*2)=⟨g,j*2,none⟩:=by unfold Addr.add;split<;>simp_all
  rw[e0];exact⟨by rw[qab hg,ha (j*2) Zo];exact h0,by rw[qab hg,ha (j*2+1) Zo];exact h1⟩
theorem qc6:(Tryz.prog.info? 169).map (λi=>(i.zero,i.size,i.bytes))=some (some (.agg #[.int .i64 0,.int .u64 0]),2,16):=by kernel_rfl
theorem qxt{a b:Nat}(ha:a<4294967296)(hb:b<4294967296):qb8 0 0 [32,32] [a,b]=some (a+4294967296*b):=by
 have e1:=qbl (x:=0) (a:=0) (ws:=[32]) (vs:=[b]) (k:=32) (qbk Zo Zo) (show a<2 ^ 32 from ha);rw[qcf Zo Zo ha] at e1;have e2:=qbl (x:=0+a*2 ^ 0) (a:=0+32) (ws:=[]) (vs:=[]) (k:=32) (qbk Zo Zo) (show b<2 ^ 32 from hb);rw[qcf Zo Zo hb] at e2;refine e1.trans (e2.trans ?_);show some _=some _
 congr 1
 omega
theorem qoc(w:World):Calls Tryz.prog 392 #[] w λe w'=>e= .returned (.slice (some ⟨w.heap.size,0,none⟩) 2 2)/\w.alloc (.cells #[.int .i64 32,.int .i64 32] 3)=w':=by
 go_enter Tryz.func392,Tryz.ntmps392;go_wp2
 go_ret;exact⟨rfl,rfl⟩
theorem qqr(a:Int)(x:Nat)(w:World):Calls Tryz.prog 391 #[.agg #[.int .i64 a,.int .u64 (x:Int)]] w λe w'=>e= .returned (.bool (entB (a,x)))/\Below w.heap.size w w':=by
 have hB:=qpy w a x;have hb:entB (a,x)=(decide (0<=a)&&decide (a<16384)):=by
  rw[wch,entB_iff];simp only[wbp,decide_eq_true_eq];omega
 rw[hb];by_cases h0:0<=a
 ·go_enter Tryz.func391,Tryz.ntmps391
  go_wp2
  go_ret;exact⟨qae (by simp[h0]),hB⟩
 ·go_enter Tryz.func391,Tryz.ntmps391
  go_wp2
  go_ret;exact⟨qae (by rw[decide_eq_false (p:=0<=a) Zo];rfl),hB⟩
theorem qll(A:Option Addr)(cap:Nat)(l:List (Int×Nat))(w:World)(h:EsRd w A l.length l)(hm:l.length<=9223372036854775807):
  Calls Tryz.prog 387 #[.slice A l.length cap] w λe w'=>e= .returned (.bool (logB l))/\Below w.heap.size w w':=by
 by_cases h1:l.length<1
 ·have hl:logB l=false:=by unfold logB;rw[decide_eq_false Zo];rfl
  rw[hl];clear hl;go_enter Tryz.func387,Tryz.ntmps387;go_wp2
  go_ret;exact⟨rfl,wai _ _⟩
 by_cases h2:16<l.length
 ·have hl:logB l=false:=by unfold logB;rw[decide_eq_false (p:=l.length<=16) Zo,wes];rfl
  rw[hl];clear hl;go_enter Tryz.func387,Tryz.ntmps387;go_wp2
  go_ret;exact⟨rfl,wai _ _⟩
 have hl:logB l=l.all entB:=by unfold logB;rw[decide_eq_true Zo,decide_eq_true Zo];rfl
 rw[hl];generalize hv:l.all entB=b;have hv':=waa hv;clear hv hl;go_enter Tryz.func387,Tryz.ntmps387;go_wp2
 go_loopw [15] (λk wr=>∃(W:World) (j:Nat),W=wr/\k= .int .i64 (j:Int)/\j<=l.length/\Hid ((l.drop j).all entB=b)/\Below w.heap.size w W) (λk _=>l.length - (intOf k).toNat)
 case atStart=>exact⟨_,0,rfl,rfl,wat _,hv',wai _ _⟩
 case round=>
  obtain⟨W,j,rfl,rfl,hj,hr,hB⟩:=hrel;by_cases hlt:j<l.length
  ·obtain⟨p,a,x,rfl,hd,-,c0,c1⟩:=(h.below hB).at_ hlt
   rw[hd,wda] at hr;clear hd;have hB1:=hB.alloc hB.size (.cells #[.int .i64 a,.int .u64 (x:Int)] 169);have hi:=λV=>qqr a x V
   cases hx:entB (a,x) with
   |true=>
    rw[hx] at hi hr;have hr':Hid ((l.drop (j+1)).all entB=b):=waa (by simpa using hr.out);have hi':=waa hi;clear hi hr hx;go_wp2_with fail;refine(hi'.out _).mono ?_;rintro e w1 ⟨rfl,hC⟩;have hB2:=hB1.trans (hC.mono hB1.size);go_wp2_with fail;go_roundw
    case rel=>exact⟨_,j+1,rfl,by go_num,Zo,hr',hB2⟩
    case measure=>simp[intOf];omega
   |false=>
    rw[hx] at hi hr;have hr':Hid (b=false):=waa (by simpa using hr.out.symm);have hi':=waa hi;clear hi hr hx;go_wp2_with fail;refine(hi'.out _).mono ?_;rintro e w1 ⟨rfl,hC⟩;have hB2:=hB1.trans (hC.mono hB1.size);go_wp2_with fail;go_ret;exact⟨qae hr'.out.symm,hB2⟩
  ·have hr':Hid (b=true):=waa (by rw[<-hr.out,wa6 Zo];rfl)
   clear hr;go_wp2_with fail;go_ret;exact⟨qae hr'.out.symm,hB⟩
structure AC where
 ab:Nat
 eb:Nat
 hb:Nat
 s:Int
 l:Int
 r:Int
 kind:Int
 who:Int
 root:Bool
 obj:Int
 idx:Int
 words:Int
 slots:Int
 target:Int
 many:Int
 x:Nat
 ed:Value
def AC.cells(A:AC)(v:Value):Array Value:=#[.pointer (some ⟨A.eb,0,none⟩),.int .i64 A.s,.int .i64 A.l,.int .i64 A.r,.pointer (some ⟨A.hb,0,none⟩),.int .i64 A.kind,.int .i64 A.who,.bool A.root,.int .i64 A.obj,.int .i64 A.idx,.int .i64 A.words,.int .i64 A.slots,.int .i64 A.target,.int .i64 A.many,.int .u64 (A.x:Int),A.ed,v]
def qen(e:Int×Nat):Prop:=(-9223372036854775808<=e.1/\e.1<=9223372036854775807)/\e.2<18446744073709551616
structure AcR (A:AC) (v:Value) (ws:List (Int×Nat)) (w:World):Prop where
 blk:w.heap[A.ab]? =some (.cells (A.cells v) 157 (0,0))
 row:w.ownsRow (A.ab+1) 169 2 v ws.length (eV ws)
 ok:∀e∈ws,qen e
section
variable {A:AC} {v:Value} {ws:List (Int×Nat)} {w w':World}
theorem AcR.lt(h:AcR A v ws w):A.ab<w.heap.size:=(waj.1 h.blk).1
theorem AcR.upd{G:Nat->Prop}(h:AcR A v ws w)(hu:Upd G w w')(h1:¬G A.ab)(h2:∀k,v.ownBlock=some k->¬G k):AcR A v ws w':=
 ⟨(hu.block A.ab h.lt h1).trans h.blk,qa5 h.row hu h2,h.ok⟩
theorem AcR.cells(h:AcR A v ws w):(w.cell? ⟨A.ab,0,none⟩=some (.pointer (some ⟨A.eb,0,none⟩))/\w.cell? ⟨A.ab,1,none⟩=some (.int .i64 A.s)/\w.cell? ⟨A.ab,2,none⟩=some (.int .i64 A.l)/\w.cell? ⟨A.ab,3,none⟩=some (.int .i64 A.r))/\
  (w.cell? ⟨A.ab,4,none⟩=some (.pointer (some ⟨A.hb,0,none⟩))/\w.cell? ⟨A.ab,6,none⟩=some (.int .i64 A.who)/\w.cell? ⟨A.ab,16,none⟩=some v)/\∀j,w.frozen? ⟨A.ab,j,none⟩=false:=
 ⟨⟨qab h.blk 0,qab h.blk 1,qab h.blk 2,qab h.blk 3⟩,⟨qab h.blk 4,qab h.blk 6,qab h.blk 16⟩,λj=>qah h.blk j⟩
end
structure AIn {τ:Type} (A:AC) (E:DP τ) (i:Nat) (l:List Nat) (s:DM×τ) (F:Nat->Prop) (v:Value) (ws:List (Int×Nat)) (w:World):Prop where
 i:E.In i l s F w
 a:AcR A v ws w
 nF:¬F A.ab
 nR:∀k,v.ownBlock=some k->¬F k
 eb:A.eb=E.eb
section
variable {τ:Type} {A:AC} {E:DP τ} {i i':Nat} {l l':List Nat} {s s':DM×τ} {F F':Nat->Prop} {v:Value} {ws:List (Int×Nat)} {w w':World} {α:Type}
theorem AIn.next(h:AIn A E i l s F v ws w)(hI:E.In i' l' s' F' w')(hg:Grows F F' w)(hu:Upd F w w'):AIn A E i' l' s' F' v ws w':=
 ⟨hI,h.a.upd hu h.nF h.nR,λe=>(hg _ e).elim h.nF (λe=>by have:=h.a.lt;omega),λk hk e=>(hg k e).elim (h.nR k hk) (λe=>by have:=(h.a.row.lt k hk).2;omega),h.eb⟩
theorem AIn.new(h:AIn A E i l s F v ws w)(hu:Upd (λ_=>False) w w'):AIn A E i l s F v ws w':=
 ⟨h.i.new hu,h.a.upd hu (λe=>e) (λ_ _ e=>e),h.nF,h.nR,h.eb⟩
theorem AIn.below(h:AIn A E i l s F v ws w)(hB:Below w.heap.size w w'):AIn A E i l s F v ws w':=h.new (Upd.of_below hB (wah _))
theorem AIn.ebn(h:AIn A E i l s F v ws w):F E.eb/\A.ab≠E.eb:=by
 have hF:F E.eb:=by
  obtain⟨lv,G,k1,k2,k3,k4,k5,k6⟩:=h.i;exact k5.1 _ (.inr (.inr (.inl rfl)))
 exact⟨hF,λe=>h.nF (e▸hF)⟩
def qec(g:τ->Int×τ):AP (DM×τ) Int:=AP.ask (onX λt=>((IntKind.u64.wrap (g t).1).toNat,(g t).2)) (λy=>wrap64 (y:Int))
theorem qhj(z:Int):((IntKind.u64.wrap z).toNat:Int)=IntKind.u64.wrap z/\(IntKind.u64.wrap z).toNat<18446744073709551616:=by
 have h1:IntKind.u64.wrap z=z%18446744073709551616:=rfl;have h2:0<=z%18446744073709551616:=Int.emod_nonneg _ Zd;have h3:z%18446744073709551616<18446744073709551616:=Int.emod_lt_of_pos _ Zd;rw[h1];omega
theorem qvl{FN:Nat}{fcaps:Array Value}{b:Nat}{z:Int}{Q:World->Prop}(hen:∀(args:Array Value) (w:World),(callFunc FN args).run Tryz.prog w= .ok (.enter FN args) w)(hb:Boxed w b 219 (.func (.func FN) #[] fcaps))(hf:Calls Tryz.prog FN fcaps w λe V'=>e= .returned (.int .i64 z)/\Q V'):
  Calls Tryz.prog 295 #[.pointer (some ⟨b,0,none⟩)] w λe V'=>e= .returned (.int .u64 ((IntKind.u64.wrap z).toNat:Int))/\Q V':=by
 rw[(qhj z).1];have k0:=hb.cell;replace hf:=waa hf;clear hb;go_enter Tryz.func295,Tryz.ntmps295;go_wp2_with fail;refine hf.out.mono ?_;rintro e V' ⟨rfl,hQ⟩;replace hQ:=waa hQ;go_wp2_with fail;go_ret;exact⟨rfl,hQ.out⟩
theorem qwe{FN:Nat}{fcaps:Array Value}{g:τ->Int×τ}(hen:∀(args:Array Value) (w:World),(callFunc FN args).run Tryz.prog w= .ok (.enter FN args) w)(h:AIn A E i l s F v ws w)(hw:qec g E.sp i l s≠ .wild)(hf:∀V G,Upd (λk=>k=E.eb) w V->E.Ex s.2 G V->(∀k,G k->F k)->Calls Tryz.prog FN fcaps V λe V'=>e= .returned (.int .i64 (g s.2).1)/\(∃G',E.Ex (g s.2).2 G' V'/\Grows G G' V)/\Upd G V V'):
  Calls Tryz.prog 247 #[.pointer (some ⟨A.ab,0,none⟩),.func (.func FN) #[] fcaps] w λe w'=>E.Post (qec g E.sp i l s) (λ(z:Int) v _=>v= .int .i64 z) F w e w':=by
 have hmf:∀(fn:Fn) (first cap:Array Value) (w:World),(Instr.makeFunc fn first cap).run Tryz.prog w= .ok (.func fn first cap) w:=λ_ _ _ _=>rfl
 have hu:Upd (λ_=>False) w (w.alloc (.cells #[.func (.func FN) #[] fcaps] 219)):=(Upd.refl _ w).alloc _;have hI:=h.new hu;have hb0:Boxed (w.alloc (.cells #[.func (.func FN) #[] fcaps] 219)) w.heap.size 219 (.func (.func FN) #[] fcaps):=qad rfl _ _;have heb:E.eb<w.heap.size:=h.i.lt h.ebn.1;have hwt:AP.ask (onX λt=>((IntKind.u64.wrap (g t).1).toNat,(g t).2)) id E.sp i l s≠ .wild:=AP.ask_tame hw;have hdo:=q2g (FN:=295) (fcaps:=#[.pointer (some ⟨w.heap.size,0,none⟩)]) (g:=λt=>((IntKind.u64.wrap (g t).1).toNat,(g t).2)) (λargs w=>by simp[go_sem]) hI.i (qhj _).2 hwt (λV G hV hX hG=>by
  refine qvl (Q:=λV'=>(∃G',E.Ex (g s.2).2 G' V'/\Grows G G' V)/\Upd G V V') hen (qac hb0 hV Zo) ?_;exact hf V G ((hu.mono (G:=λk=>k=E.eb) (λ_ e=>e.elim)).trans hV) hX hG)
 obtain⟨⟨c0,-⟩,-⟩:=hI.a.cells;rw[h.eb] at c0;replace hdo:=waa hdo;replace hus:=waa hu;replace hw:=waa hw;clear hI hb0 heb h hu hf;go_enter Tryz.func247,Tryz.ntmps247;go_wp2_with fail;refine hdo.out.mono ?_;rintro e V hpost;rcases hpost.done hwt with ⟨y,i',l',s',v,F',ho,rfl,rfl,hI,hg,hu⟩|⟨bl,l',s',F',ho,rfl,hO,hg,hu⟩
 ·have hfin:=waa (DP.Post.ended (t:=qec g) (R:=λ(z:Int) v _=>v= .int .i64 z) (v:= .int .i64 (wrap64 (y:Int))) (by unfold qec;rw[AP.ask_map,ho]) rfl rfl hI (λk hk=>(hg k hk).imp id (λe=>wam hus.out.size e)) ((hus.out.mono (λ_ e=>e.elim)).trans hu))
  clear hpost ho hI hg hu hwt;go_wp2_with fail;go_ret;exact hfin.out
 ·exact⟨rfl,DP.Post.stopped (t:=qec g) (by unfold qec;rw[AP.ask_map,ho]) rfl hO (λk hk=>(hg k hk).imp id (λe=>wam hus.out.size e)) ((hus.out.mono (λ_ e=>e.elim)).trans hu)⟩
end
section
variable {τ:Type} {A:AC} {E:DP τ} {i i':Nat} {l l':List Nat} {s s':DM×τ} {F F' H:Nat->Prop} {v v':Value} {ws ws':List (Int×Nat)} {w w' w2:World} {α β:Type} {e:Ending}
structure AtF (A:AC) (E:DP τ) (F:Nat->Prop) (v:Value) (ws:List (Int×Nat)) (w:World) (i':Nat) (l':List Nat) (s':DM×τ) (F':Nat->Prop) (w':World):Prop where
 a:AIn A E i' l' s' F' v ws w'
 g:Grows F F' w
 u:Upd F w w'
theorem AtF.start(h:AIn A E i l s F v ws w):AtF A E F v ws w i l s F w:=⟨h,Grows.refl _ _,Upd.refl _ _⟩
theorem AtF.new(h:AtF A E F v ws w i' l' s' F' w')(hu:Upd (λ_=>False) w' w2):AtF A E F v ws w i' l' s' F' w2:=⟨h.a.new hu,h.g,h.u.trans (hu.mono (λ_ e=>e.elim))⟩
theorem AtF.below(h:AtF A E F v ws w i' l' s' F' w')(hB:Below w'.heap.size w' w2):AtF A E F v ws w i' l' s' F' w2:=h.new (Upd.of_below hB (wah _))
theorem AtF.step{F2:Nat->Prop}{i2:Nat}{l2:List Nat}{s2:DM×τ}(h:AtF A E F v ws w i' l' s' F' w')(hI:E.In i2 l2 s2 F2 w2)(hg:Grows F' F2 w')(hu:Upd F' w' w2):AtF A E F v ws w i2 l2 s2 F2 w2:=⟨h.a.next hI hg hu,h.g.trans hg h.u.size,h.u.after hu h.g⟩
theorem AtF.off{bl:Bool}{F2:Nat->Prop}{l2:List Nat}{s2:DM×τ}(h:AtF A E F v ws w i' l' s' F' w')(hO:E.Off bl l2 s2 F2 w2)(hg:Grows F' F2 w')(hu:Upd F' w' w2):∃F2,E.Off bl l2 s2 F2 w2/\Grows F F2 w/\Upd F w w2:=⟨F2,hO,h.g.trans hg h.u.size,h.u.after hu h.g⟩
theorem Grows.no{F2:Nat->Prop}{B:Nat}(h:Grows F F2 w)(hB:B<w.heap.size)(hn:¬F B):¬F2 B:=λe=>(h B e).elim hn (λk=>by omega)
theorem AtF.done{t:AP (DM×τ) α}{R:α->Value->World->Prop}{a:α}{x:Value}(h:AtF A E F v ws w i' l' s' F' w')(ho:t E.sp i l s= .done a i' l' s')(hR:R a x w'):E.Post (t E.sp i l s) R F w (.returned x) w':=
 DP.Post.ended ho rfl hR h.a.i h.g h.u
theorem qba{t:AP (DM×τ) α}{R:α->Value->World->Prop}{bl:Bool}(h:∃F2,E.Off bl l' s' F2 w2/\Grows F F2 w/\Upd F w w2)(ho:t E.sp i l s= .stop bl l' s'):E.Post (t E.sp i l s) R F w (.panicked (qbs E.eb)) w2:=by
 obtain⟨F2,h1,h2,h3⟩:=h;exact DP.Post.stopped ho rfl h1 h2 h3
def ownH(A:AC)(v:Value)(H:Nat->Prop)(k:Nat):Prop:=k=A.ab\/v.ownBlock=some k\/H k
def qb6(A:AC)(E:DP τ)(o:Out (DM×τ) (β×List (Int×Nat)))(R:β->Value->World->Prop)(F H:Nat->Prop)(v:Value)(w:World)(e:Ending)(w':World):Prop:=
 Upd (λk=>F k\/ownH A v H k) w w'/\match o with
  | .done a i l s=>∃x F' v',e= .returned x/\R a.1 x w'/\AIn A E i l s F' v' a.2 w'/\Grows F F' w/\∀k,v'.ownBlock=some k->v.ownBlock=some k\/w.heap.size<=k
  | .stop bl l s=>∃F',e= .panicked (qbs E.eb)/\E.Off bl l s F' w'/\Grows F F' w
  | .wild=>True
structure AtH (A:AC) (E:DP τ) (F H:Nat->Prop) (v:Value) (w:World) (i':Nat) (l':List Nat) (s':DM×τ) (F':Nat->Prop) (v':Value) (ws':List (Int×Nat)) (w':World):Prop where
 a:AIn A E i' l' s' F' v' ws' w'
 g:Grows F F' w
 u:Upd (λk=>F k\/ownH A v H k) w w'
 r:∀k,v'.ownBlock=some k->v.ownBlock=some k\/w.heap.size<=k
theorem AtH.start(h:AIn A E i l s F v ws w):AtH A E F H v w i l s F v ws w:=⟨h,Grows.refl _ _,Upd.refl _ _,λ_ e=> .inl e⟩
theorem AtH.new(h:AtH A E F H v w i' l' s' F' v' ws' w')(hu:Upd (λ_=>False) w' w2):AtH A E F H v w i' l' s' F' v' ws' w2:=⟨h.a.new hu,h.g,h.u.trans (hu.mono (λ_ e=>e.elim)),h.r⟩
theorem AtH.below(h:AtH A E F H v w i' l' s' F' v' ws' w')(hB:Below w'.heap.size w' w2):AtH A E F H v w i' l' s' F' v' ws' w2:=h.new (Upd.of_below hB (wah _))
theorem AtH.foot(h:AtH A E F H v w i' l' s' F' v' ws' w'){k:Nat}(hk:F' k\/ownH A v' H k):(F k\/ownH A v H k)\/w.heap.size<=k:=by
 rcases hk with hk|hk|hk|hk
 ·exact(h.g k hk).imp .inl id
 ·exact .inl (.inr (.inl hk))
 ·exact(h.r k hk).imp (λe=> .inr (.inr (.inl e))) id
 ·exact .inl (.inr (.inr (.inr hk)))
theorem AtH.done{t:AP (DM×τ) (β×List (Int×Nat))}{R:β->Value->World->Prop}{a:β}{x:Value}(h:AtH A E F H v w i' l' s' F' v' ws' w')(ho:t E.sp i l s= .done (a,ws') i' l' s')(hR:R a x w'):qb6 A E (t E.sp i l s) R F H v w (.returned x) w':=by
 unfold qb6;rw[ho];exact⟨h.u,x,F',v',rfl,hR,h.a,h.g,h.r⟩
theorem qal{t:AP (DM×τ) (β×List (Int×Nat))}{R:β->Value->World->Prop}{bl:Bool}(h:∃F2,E.Off bl l' s' F2 w2/\Grows F F2 w/\Upd (λk=>F k\/ownH A v H k) w w2)(ho:t E.sp i l s= .stop bl l' s'):qb6 A E (t E.sp i l s) R F H v w (.panicked (qbs E.eb)) w2:=by
 obtain⟨F2,h1,h2,h3⟩:=h;unfold qb6;rw[ho];exact⟨h3,F2,rfl,h1,h2⟩
end
section
variable {P:Program} {w:World}
theorem qlk(base:Nat)(t ty e:TypeId)(i:TypeInfo)(z:Value)(size bytes:Nat)(ht:P.underlying t=some (.slice e))(hi:P.info? e=some i)(hz:i.zero=some z)(hsize:i.size=size)(hby:i.bytes=bytes)(hzs:z.cells.size=size)(hsz:0<size)(v:Value)(n:Nat)(xs:List Value)(hown:w.ownsRow base e size v n xs)(a:Addr)(m c:Nat)(news:List Value)(hl:news.length=m*size)(hnews:∀j u,news[j]? =some u->w.cell? (a.add j)=some u)(h1:∀u∈news,u.oneCell'=true)(h63:n+m<=maxLen)(hbytes:(n+m)*bytes<=140737488355328){v':Value}{w':World}(hr:(Builtin.append_ #[t,t] ty #[v,.slice (some a) m c]).run P w= .ok v' w'):
  v'.ownBlock=v.ownBlock\/∃k,v'.ownBlock=some k/\w.heap.size<=k:=by
 subst hsize;subst hby;have hsmall:n+m<=9223372036854775807:=by simp only[maxLen] at h63;omega
 rcases hown.2 with ⟨rfl,rfl⟩|⟨g,cap,cur,rfl,hbg,hg,hnc,hcm,hcs,htake⟩
 ·by_cases hm:m=0
  ·subst hm
   have hn:news=[]:=wet (by simpa using hl);subst hn;have e2:(Builtin.append_ #[t,t] ty #[.slice none 0 0,.slice (some a) 0 c]).run P w= .ok (.slice none 0 0) w:=by
    simp[Builtin.append_,run_underlying ht,sizeOf,typeInfo,hi,Builtin.lenOf,Builtin.firstCells,loadCells,loadCellsFrom]
   rw[e2] at hr;injection hr with e1 _;exact .inl (by rw[<-e1])
  ·have e2:=run_append_nil (P:=P) w t ty e i z ht hi hz a m c news hl hnews Zo Zo (by have hb:=hbytes;simp only[wav] at hb;omega)
   rw[e2] at hr;injection hr with e1 _;subst e1;exact .inr ⟨_,rfl,wah _⟩
 ·by_cases hroom:n+m<=cap
  ·have hfit:n*i.size+news.length<=cur.size:=by rw[hl,hcs,<-Nat.add_mul];exact Nat.mul_le_mul_right _ hroom
   have e2:=run_append_room (P:=P) w t ty e i ht hi g n cap cur hg a m c news hl hnews h1 hroom hfit;rw[e2] at hr;injection hr with e1 _;subst e1;exact .inl rfl
  ·have holds:∀j u,xs[j]? =some u->w.cell? ((⟨g,0,none⟩:Addr).add j)=some u:=hown.cells (g:=g) rfl
   have e2:=run_append_grow (P:=P) w t ty e i z ht hi hz ⟨g,0,none⟩ n cap xs hown.1 holds a m c news hl hnews Zo Zo (growslice_fits Zo hbytes);rw[e2] at hr;injection hr with e1 _;subst e1;exact .inr ⟨_,rfl,wah _⟩
theorem qh0{ops:Array Oper}{rest:List Oper}{o:Oper}{a:Act}{Q:Exit->Act->World->Prop}(hgd:o.guard=none)(s x:Operand)(t:TypeId)(ho:o.op= .call {callee:= .builtin .append,args:=#[s,x],argTypes:=#[t,t]})(base:Nat)(e:TypeId)(i:TypeInfo)(z:Value)(size bytes:Nat)(ht:P.underlying t=some (.slice e))(hi:P.info? e=some i)(hz:i.zero=some z)(hsize:i.size=size)(hby:i.bytes=bytes)(hzs:z.cells.size=size)(hsz:0<size)(v:Value)(n:Nat)(xs:List Value)(hs:a.eval s=v)(hown:w.ownsRow base e size v n xs)(ad:Addr)(m c:Nat)(news:List Value)(hx:a.eval x= .slice (some ad) m c)(hl:news.length=m*size)(hnews:∀j u,news[j]? =some u->w.cell? (ad.add j)=some u)(h1:∀u∈news,u.oneCell'=true)(h63:n+m<=maxLen)(hbytes:(n+m)*bytes<=140737488355328)(hbase:base<=w.heap.size)(h:∀v' w',w'.ownsRow base e size v' (n+m) (xs++news)->w.grownBy w' v.ownBlock->(v'.ownBlock=v.ownBlock\/∃k,v'.ownBlock=some k/\w.heap.size<=k)->wpList P ops Q rest (a.put o.dst v') w'):wpList P ops Q (o::rest) a w:=by
 refine wpList_plain hgd λK hK=>?_
 obtain⟨v',w',hrun,h2,h3,-⟩:=run_append_own (P:=P) (w:=w) base t o.type e i z size bytes ht hi hz hsize hby hzs hsz v n xs hown ad m c news hl hnews h1 h63 hbytes hbase;have h4:=qlk (P:=P) (w:=w) base t o.type e i z size bytes ht hi hz hsize hby hzs hsz v n xs hown ad m c news hl hnews h1 h63 hbytes hrun;unfold Oper.wp execOp;simp only[ho,resolve,invoke,builtin,wcc,wcy,wau,wdr,wds,wdt,hs,hx,hrun];exact hK _ _ (h v' w' h2 h3 h4)
end
theorem qgu(a b:List (Int×Nat)):eV (a++b)=eV a++eV b:=by simp[eV]
theorem qzc(l:List (Int×Nat)):∀u∈eV l,u.oneCell'=true:=by
 intro u hu;unfold eV at hu;rw[wep] at hu;obtain⟨e,-,he⟩:=hu;simp only[wa1,wci,or_false] at he;rcases he with rfl|rfl<;>rfl
section
variable {τ:Type} {A:AC} {E:DP τ} {i:Nat} {l:List Nat} {s:DM×τ} {F:Nat->Prop} {v:Value} {ws es:List (Int×Nat)} {w:World}
def noH:Nat->Prop:=λ_=>False
theorem qgd(h:AIn A E i l s F v ws w)(ad:Addr)(m c:Nat)(hm:es.length=m)(hnew:∀j u,(eV es)[j]? =some u->w.cell? (ad.add j)=some u)(hok:∀e∈es,qen e)(hl:ws.length+m<=1000000):
  Calls Tryz.prog 263 #[.pointer (some ⟨A.ab,0,none⟩),.slice (some ad) m c] w λe w'=>e= .returned (.tuple #[])/\∃v',AIn A E i l s F v' (ws++es) w'/\Upd (ownH A v noH) w w'/\∀k,v'.ownBlock=some k->v.ownBlock=some k\/w.heap.size<=k:=by
 obtain⟨i0,ii,iz0,iz1,iz2⟩:=info_parts qc6;obtain⟨-,⟨-,-,c16⟩,-⟩:=h.a.cells;have hblk:=h.a.blk;have hlt:=h.a.lt;have hrow:=h.a.row;have hnb:=qao hblk Zd hrow;obtain⟨VA,VC,hv,-⟩:=EsRd.of_own hrow;obtain⟨n,hn⟩:∃n,ws.length=n:=⟨_,rfl⟩
 rw[hn] at hrow hv hl;replace hn:=waa hn;have hnl:(eV es).length=m*2:=by rw[qgs,hm]
 have hone:=qzc es;replace h:=waa h;replace hblk:=waa hblk;replace hnew:=waa hnew;replace hrow:=waa hrow;replace hnl:=waa hnl;replace hone:=waa hone;replace hm:=waa hm;subst hv;go_enter Tryz.func263,Tryz.ntmps263;go_wp2_with (at_builtin;go_loud ((refine qh0 rfl _ _ 155 rfl (A.ab+1) 169 i0 _ 2 16 wcj ii iz0 iz1 iz2 rfl Zd _ n (eV ws) rfl hrow.out ad m c (eV es) rfl hnl.out hnew.out hone.out (by simp only[maxLen];omega) Zo Zo ?_);intro v' w2 hr2 hg2 ho2;have hgb:=(hg2.block A.ab hlt (λe=>hnb e)).trans hblk.out;have k1:w2.cell? ⟨A.ab,16,none⟩=some (.slice VA n VC):=qab hgb 16;have k2:w2.frozen? ⟨A.ab,16,none⟩=false:=qah hgb 16;obtain⟨YA,YC,rfl,-⟩:=EsRd.of_own (l:=ws++es) (by rw[qgu];exact hr2);have hr2':=waa hr2;have hg2':=waa hg2;have ho2':=waa ho2;have hgb':=waa hgb;clear hr2 hg2 ho2 hgb))
 go_end0
 have hu1:Upd (ownH A (.slice VA n VC) noH) w (w2.setCell ⟨A.ab,16,none⟩ (.slice YA (n+m) YC)):=((Upd.refl _ w).grown hg2'.out (λk e=> .inl (.inr (.inl e)))).setCell (p:=⟨A.ab,16,none⟩) (.inl (.inl rfl)) _;have hnb2:some A.ab≠(Value.slice YA (n+m) YC).ownBlock:=qao hgb'.out Zd hr2'.out;have hr3:=qa5 hr2'.out ((Upd.refl (λk=>k=A.ab) w2).setCell (p:=⟨A.ab,16,none⟩) (.inl rfl) (.slice YA (n+m) YC)) (λk hk e=>hnb2 (by rw[hk,e]));have hloc:∀k,(Value.slice YA (n+m) YC).ownBlock=some k->(Value.slice VA n VC).ownBlock=some k\/w.heap.size<=k:=λk hk=>by
  rcases ho2'.out with e|⟨g,e,hg⟩
  ·exact .inl (by
    have e':(Value.slice YA (n+m) YC).ownBlock=(Value.slice VA n VC).ownBlock:=e;rw[<-e'];exact hk)
  ·have e':(Value.slice YA (n+m) YC).ownBlock=some g:=e
   rw[hk] at e';injection e' with e';exact .inr Zo
 have hFw:∀k,F k->¬ownH A (.slice VA n VC) noH k:=λk hk e=>by
  rcases e with rfl|e|e
  ·exact h.out.nF hk
  ·exact h.out.nR k e hk
  ·exact e
 have hol:=h.out.i.low;have hobj:∀k,k=E.a\/k=E.b\/k=E.c->¬ownH A (.slice VA n VC) noH k:=λk hk e=>by
  obtain⟨lv,G,k1,k2,-⟩:=h.out.i;rcases e with rfl|e|e
  ·have hb:=hblk.out
   rcases hk with e|e|e
   ·exact qaq k2.2.1 hb Zd e.symm
   ·exact qaq k2.2.2.1 hb Zd e.symm
   ·exact qaq k2.2.2.2 hb Zd e.symm
  ·rcases hk with rfl|rfl|rfl
   ·exact qao k2.2.1 Zd hrow.out e.symm
   ·exact qao k2.2.2.1 Zd hrow.out e.symm
   ·exact qao k2.2.2.2 Zd hrow.out e.symm
  ·exact e
 refine⟨rfl,_,⟨h.out.i.upd hu1 hFw (hobj _ (.inl rfl)) (hobj _ (.inr (.inl rfl))) (hobj _ (.inr (.inr rfl))),⟨by rw[qaj hgb'.out];rfl,?_,?_⟩,h.out.nF,λk hk e=>?_,h.out.eb⟩,hu1,hloc⟩
 ·rw[wbh,hn.out,hm.out,qgu]
  exact hr3
 ·intro e he
  rcases wbu.1 he with he|he
  ·exact h.out.a.ok e he
  ·exact hok e he
 ·rcases hloc k hk with e1|e1
  ·exact h.out.nR k e1 e
  ·have:=h.out.i.lt e
   omega
theorem qt1(h:AIn A E i l s F v ws w):
  Calls Tryz.prog 263 #[.pointer (some ⟨A.ab,0,none⟩),.slice none 0 0] w λe w'=>e= .returned (.tuple #[])/\AIn A E i l s F v ws w'/\Upd (ownH A v noH) w w':=by
 obtain⟨i0,ii,iz0,iz1,iz2⟩:=info_parts qc6;obtain⟨-,⟨-,-,c16⟩,cf⟩:=h.a.cells;have f16:=cf 16;have hrow:=h.a.row;have hblk:=h.a.blk;have hnb:=qao hblk Zd hrow;obtain⟨VA,VC,hv,-⟩:=EsRd.of_own hrow;obtain⟨n,hn⟩:∃n,ws.length=n:=⟨_,rfl⟩
 rw[hn] at hrow hv;replace hn:=waa hn;replace h:=waa h;replace hblk:=waa hblk;replace hrow:=waa hrow;subst hv;clear cf;go_enter Tryz.func263,Tryz.ntmps263;go_wp2_with (at_builtin;go_loud (refine wpList_append_own_none rfl _ _ 155 rfl (A.ab+1) 169 i0 2 wcj ii _ n (eV ws) rfl hrow.out rfl ?_))
 go_end0
 have hu1:Upd (λk=>k=A.ab) w (w.setCell ⟨A.ab,16,none⟩ (.slice VA n VC)):=(Upd.refl (λk=>k=A.ab) w).setCell (p:=⟨A.ab,16,none⟩) (.inl rfl) _;have hol:∀k,k=E.a\/k=E.b\/k=E.c->¬k=A.ab:=λk hk e=>by
  obtain⟨lv,G,k1,k2,-⟩:=h.out.i;subst e;have hb:=hblk.out;rcases hk with e|e|e
  ·exact qaq k2.2.1 hb Zd e.symm
  ·exact qaq k2.2.2.1 hb Zd e.symm
  ·exact qaq k2.2.2.2 hb Zd e.symm
 refine⟨rfl,⟨h.out.i.upd hu1 (λk hk e=>h.out.nF (e▸hk)) (hol _ (.inl rfl)) (hol _ (.inr (.inl rfl))) (hol _ (.inr (.inr rfl))),⟨by rw[qaj hblk.out];rfl,?_,h.out.a.ok⟩,h.out.nF,h.out.nR,h.out.eb⟩,hu1.mono (λk e=> .inl e)⟩;rw[hn.out];exact qa5 hrow.out hu1 (λk hk e=>hnb (by rw[hk,e]))
end
def qav(k c n:Int):Bool:=decide ((k=0/\c=0/\n=0)\/(k=1/\0<=c/\c<=3/\n=0)\/(k=2/\c=4/\1<=n/\n<=4)\/(k=3/\c=4/\1<=n/\n<=3))
theorem hmay_iff{k c n:Int}:qav k c n=true↔(k=0/\c=0/\n=0)\/(k=1/\0<=c/\c<=3/\n=0)\/(k=2/\c=4/\1<=n/\n<=4)\/(k=3/\c=4/\1<=n/\n<=3):=by simp[qav]
theorem qfo{k c n:Int}(h:qav k c n=true):0<=k/\k<=3/\0<=c/\c<=4/\0<=n/\n<=4:=by
 have:=hmay_iff.1 h
 omega
def qep(k c n:Int):Nat:=(k+4*c+32*n).toNat
def qcw(k c n:Int):Nat:=if k=0 then 0 else qep k c n+4294967296*crcW [qep k c n]
theorem qq4(c n:Int):qcw 0 c n=0:=rfl
theorem qiy{k:Int}(h:k≠0)(c n:Int):qcw k c n=qep k c n+4294967296*crcW [qep k c n]:=if_neg h
theorem qzd{k c n:Int}(h:qav k c n=true):qep k c n<256:=by
 have:=qfo h
 unfold qep;omega
theorem qlf{k c n:Int}(h:qav k c n=true):qcw k c n<18446744073709551616:=by
 by_cases hk:k=0
 ·subst hk;rw[qq4];omega
 ·rw[qiy hk]
  have:=qzd h
  have:=qft [qep k c n]
  omega
theorem qtk{a b c s:Nat}(ha:a<4)(hb:b<8)(hc:c<8)(hs:s<4294967296):qb8 0 0 [2,3,3,24,32] [a,b,c,0,s]=some (a+4*b+32*c+4294967296*s):=by
 have e1:=qbl (x:=0) (a:=0) (ws:=[3,3,24,32]) (vs:=[b,c,0,s]) (k:=2) (qbk Zo Zo) (show a<2 ^ 2 from ha);rw[qcf Zo Zo ha] at e1;have e2:=qbl (x:=0+a*2 ^ 0) (a:=0+2) (ws:=[3,24,32]) (vs:=[c,0,s]) (k:=3) (qbk Zo Zo) (show b<2 ^ 3 from hb);rw[qcf Zo Zo hb] at e2;have e3:=qbl (x:=0+a*2 ^ 0+b*2 ^ (0+2)) (a:=0+2+3) (ws:=[24,32]) (vs:=[0,s]) (k:=3) (qbk Zo Zo) (show c<2 ^ 3 from hc);rw[qcf Zo Zo hc] at e3;have e4:=qbl (x:=0+a*2 ^ 0+b*2 ^ (0+2)+c*2 ^ (0+2+3)) (a:=0+2+3+3) (ws:=[32]) (vs:=[s]) (k:=24) (qbk Zo Zo) (show 0<2 ^ 24 by decide);rw[qcf Zo Zo Zd] at e4;have e5:=qbl (x:=0+a*2 ^ 0+b*2 ^ (0+2)+c*2 ^ (0+2+3)+0*2 ^ (0+2+3+3)) (a:=0+2+3+3+24) (ws:=[]) (vs:=[]) (k:=32) (qbk Zo Zo) (show s<2 ^ 32 from hs);rw[qcf Zo Zo hs] at e5;refine e1.trans (e2.trans (e3.trans (e4.trans (e5.trans ?_))));show some _=some _
 congr 1
 omega
def HHit(x:Nat)(k c n:Int):Prop:=qav k c n=true/\qcw k c n=x
end Go.Proofs.YtgjhkafggagniaaGreat
