/- Parts. No condition. -/
import Derived.Laws.Bits64b
import Derived.Laws.ShiftsVarLaws
import Derived.Test.YtgjhkafggagniaaGreatJoinV06
set_option linter.unusedVariables false
set_option maxRecDepth 100000
set_option maxHeartbeats 8000000
namespace Go.Proofs.YtgjhkafggagniaaGreat
open Go Go.RowKit
theorem qsp{w:World}{F x:Nat}{caps:Array Value}{Q:World->Prop}{H:Nat->Prop}(hen:∀(args:Array Value) (w:World),(callFunc F args).run Tryz.prog w= .ok (.enter F args) w)(hdo:∀V,Upd (λ_=>False) w V->w.heap.size+1<=V.heap.size->Calls Tryz.prog F caps V λe V'=>e= .returned (.int .u64 (x:Int))/\Q V'/\Upd H V V')(hQ:qg7 (λk=>k=w.heap.size) Q)(hH:∀k,H k->k<w.heap.size):
  Calls Tryz.prog 338 #[.func (.func F) #[] caps] w λe w'=>e= .returned (.agg #[.int .u64 (x:Int),.nilIface])/\Q w'/\Upd H w w':=by
 have hmf:∀(fn:Fn) (first cap:Array Value) (w:World),(Instr.makeFunc fn first cap).run Tryz.prog w= .ok (.func fn first cap) w:=λ_ _ _ _=>rfl
 have hnil:=λV=>qmw F caps V
 go_enter_defers Tryz.func338,Tryz.ntmps338
 go_wp2_with fail;have hbx:(w.alloc (.cells #[.int .u64 0,.nilIface] 324)).heap[w.heap.size]? =_:=qad rfl #[.int .u64 0,.nilIface] 324;refine(hdo _ ((Upd.refl _ w).alloc _) Zs).mono ?_;rintro e V ⟨rfl,hQV,hUV⟩;have hnB:¬H w.heap.size:=λe=>wbo _ (hH _ e)
 have hbV:=(hUV.block _ Zs hnB).trans hbx;have c0:=qab hbV 0;have cf:=qah hbV 0;simp at c0
 have hu2:Upd (λk=>k=w.heap.size) V ((V.setCell ⟨w.heap.size,0,none⟩ (.int .u64 (x:Int))).setCell ⟨w.heap.size,1,none⟩ .nilIface):=((Upd.refl (λk=>k=w.heap.size) V).setCell (p:=⟨w.heap.size,0,none⟩) (.inl rfl) _).setCell (p:=⟨w.heap.size,1,none⟩) (.inl rfl) _;have hQ2:=waa (hQ _ _ hQV hu2);have hU2:Upd H w ((V.setCell ⟨w.heap.size,0,none⟩ (.int .u64 (x:Int))).setCell ⟨w.heap.size,1,none⟩ .nilIface):=(((((Upd.refl H w).alloc _).trans hUV)).setCell (p:=⟨w.heap.size,0,none⟩) (.inr (wah _)) _).setCell (p:=⟨w.heap.size,1,none⟩) (.inr (wah _)) _;have hU2:=waa hU2;have hb1:=waa (qaj hbV 0 (.int .u64 (x:Int)));have hb2:=waa (qaj hb1.out 1 .nilIface);clear hdo hQ hH hQV hUV hnB hbx hbV hu2 hen;obtain⟨B,hBd⟩:∃B,w.heap.size=B:=⟨_,rfl⟩
 rw[hBd] at c0 cf hQ2 hU2 hb1 hb2 ⊢;clear hBd;go_wp2_with fail;refine leaves_cons (f:=376) (args:=#[.pointer (some ⟨B,0,none⟩)]) Zs (by simp[go_sem]) ?_;refine(qr7 _ (u0:= .int .u64 (x:Int)) (u1:= .nilIface) hb1.out).mono ?_;rintro e u' w'' ⟨rfl,rfl,rfl⟩;simp only[Leaves,settle];exact⟨_,results_cell_row (P:=Tryz.prog) rfl _ _ B 324 _ _ _ rfl hb2.out Tryz.underlying324 rfl Zk,rfl,hQ2.out,hU2.out⟩
theorem qwh{w:World}{F x bf:Nat}{caps:Array Value}{Q:World->Prop}{H:Nat->Prop}(hen:∀(args:Array Value) (w:World),(callFunc F args).run Tryz.prog w= .ok (.enter F args) w)(X:Value)(hb:Boxed w bf 301 (.func (.func F) #[] caps))(hdo:∀V,Upd (λ_=>False) w V->w.heap.size+2<=V.heap.size->Calls Tryz.prog F caps V λe V'=>e= .returned (.int .u64 (x:Int))/\Q V'/\Upd H V V')(hQ:qg7 (λk=>k=w.heap.size\/k=w.heap.size+1) Q)(hH:∀k,H k->k<w.heap.size):
  Calls Tryz.prog 337 #[X,.pointer (some ⟨bf,0,none⟩)] w λe w'=>e= .returned (.tuple #[.agg #[.int .u64 (x:Int),.nilIface],.bool true])/\Q w'/\Upd H w w':=by
 have b0:=((wai w.heap.size w).alloc (wah _) (.cells #[.int .u64 0,.nilIface] 324)).cell (p:=⟨bf,0,none⟩) hb.lt;rw[hb.cell] at b0;have hbx:(w.alloc (.cells #[.int .u64 0,.nilIface] 324)).heap[w.heap.size]? =_:=qad rfl #[.int .u64 0,.nilIface] 324;have hon:=qsp (w:=w.alloc (.cells #[.int .u64 0,.nilIface] 324)) hen (λV hV hs=>hdo V (((Upd.refl _ w).alloc _).trans hV) (by simp at hs;omega)) (λV V' hq hu=>hQ V V' hq (hu.mono (λk e=> .inr (by rw[e];simp)))) (λk e=>by have:=hH k e;simp;omega);have hon:=waa hon;have hnB:¬H w.heap.size:=λe=>wbo _ (hH _ e)
 clear hb hdo;go_enter Tryz.func337,Tryz.ntmps337;go_wp2_with fail;refine hon.out.mono ?_;rintro e V ⟨rfl,hQV,hUV⟩;have hbV:=(hUV.block _ Zs hnB).trans hbx;have c0:=qab hbV 0;have c1:=qab hbV 1;have cf:=λj=>qah hbV j
 simp at c0 c1
 have hu2:Upd (λk=>k=w.heap.size) V ((V.setCell ⟨w.heap.size,0,none⟩ (.int .u64 (x:Int))).setCell ⟨w.heap.size,1,none⟩ .nilIface):=((Upd.refl (λk=>k=w.heap.size) V).setCell (p:=⟨w.heap.size,0,none⟩) (.inl rfl) _).setCell (p:=⟨w.heap.size,1,none⟩) (.inl rfl) _;have hQ2:=waa (hQ _ _ hQV (hu2.mono (λk e=> .inl e)));have hU2:Upd H w ((V.setCell ⟨w.heap.size,0,none⟩ (.int .u64 (x:Int))).setCell ⟨w.heap.size,1,none⟩ .nilIface):=(((((Upd.refl H w).alloc _).trans hUV)).setCell (p:=⟨w.heap.size,0,none⟩) (.inr (wah _)) _).setCell (p:=⟨w.heap.size,1,none⟩) (.inr (wah _)) _;have hU2:=waa hU2;have hb2:=waa (qaj (qaj hbV 0 (.int .u64 (x:Int))) 1 .nilIface);clear hQ hH hQV hUV hnB hbx hbV hu2 hen hon b0;obtain⟨B,hBd⟩:∃B,w.heap.size=B:=⟨_,rfl⟩
 rw[hBd] at c0 c1 cf hQ2 hU2 hb2 ⊢;clear hBd;go_wp2_with fail
 (try simp only[Exit.inBlock,Exit.then])
 refine qc4 rfl rfl rfl rfl hb2.out ?_;exact⟨rfl,hQ2.out,hU2.out⟩
section
variable {τ:Type} {E:DP τ} {i:Nat} {l:List Nat} {s:DM×τ} {F:Nat->Prop} {w w':World} {α:Type}
theorem qkn(h:E.In i l s F w)(a:Int)(hw:AP.ask (onM (doF E.n E.nl E.who 5 a 0)) (λ_=>()) E.sp i l s≠ .wild):
  Calls Tryz.prog 260 #[.pointer (some ⟨E.eb,0,none⟩),.int .i64 a] w λe w'=>E.Post (AP.ask (onM (doF E.n E.nl E.who 5 a 0)) (λ_=>()) E.sp i l s) qbc F w e w':=by
 have hmf:∀(fn:Fn) (first cap:Array Value) (w:World),(Instr.makeFunc fn first cap).run Tryz.prog w= .ok (.func fn first cap) w:=λ_ _ _ _=>rfl
 have hu:Upd (λ_=>False) w (w.alloc (.cells #[.int .i64 a] 3)):=(Upd.refl _ w).alloc _;have hI:=h.new hu;have hb0:Boxed (w.alloc (.cells #[.int .i64 a] 3)) w.heap.size 3 (.int .i64 a):=qad rfl _ _;have heb:E.eb<w.heap.size:=by obtain⟨lv,G,k1,_⟩:=h;exact k1.lt
 have hask:=qdo (Fn:=309) (caps:=#[.pointer (some ⟨w.heap.size,0,none⟩)]) (λargs w=>by simp[go_sem]) hI (AP.ask_tame hw) (λV G y s' hM ho=>by have h1:=(qby (D0:={s.1 with L:=qcj s.1.L E.nl a E.who}) (y0:=0) Zr ho).1;omega) (by
  intro y s' ho V lv G hV hR hM hG hp hl;obtain⟨rfl,rfl⟩:=qby (D0:={s.1 with L:=qcj s.1.L E.nl a E.who}) (y0:=0) Zr ho;refine(qoi hM.1 hR (qac hb0 hV Zo) (λe=>by have:=h.lt (hp _ e);omega)).mono ?_;rintro e V' ⟨he,hP,hu2⟩;exact⟨he,hM.step hP Zo hG hu2⟩) (by
  intro ho;exact absurd ho (by simp[onM,doF]))
 have hask:=waa hask;have hus:=waa hu;have hw:=waa hw;clear hI hb0 heb h hu;go_enter Tryz.func260,Tryz.ntmps260;go_wp2_with fail;refine hask.out.mono ?_;rintro e V hpost;rcases hpost.done (AP.ask_tame hw.out) with ⟨y,i',l',s',v,F',ho,rfl,rfl,hI,hg,hu⟩|⟨bl,l',s',F',ho,rfl,hO,hg,hu⟩
 ·have hfin:=waa (DP.Post.ended (t:=AP.ask (onM (doF E.n E.nl E.who 5 a 0)) (λ_=>())) (R:=qbc) (v:= .tuple #[]) (by rw[AP.ask_map,ho]) rfl rfl hI (λk hk=>(hg k hk).imp id (λe=>wam hus.out.size e)) ((hus.out.mono (λ_ e=>e.elim)).trans hu))
  clear hpost ho hI hg hu;go_wp2_with fail;go_end0
  exact hfin.out
 ·exact⟨rfl,DP.Post.stopped (t:=AP.ask (onM (doF E.n E.nl E.who 5 a 0)) (λ_=>())) (by rw[AP.ask_map,ho]) rfl hO (λk hk=>(hg k hk).imp id (λe=>wam hus.out.size e)) ((hus.out.mono (λ_ e=>e.elim)).trans hu)⟩
theorem qpc(h:E.In i l s F w)(a:Int)(hw:AP.ask (onM (doF E.n E.nl E.who 4 a 0)) (λ_=>()) E.sp i l s≠ .wild):
  Calls Tryz.prog 259 #[.pointer (some ⟨E.eb,0,none⟩),.int .i64 a] w λe w'=>E.Post (AP.ask (onM (doF E.n E.nl E.who 4 a 0)) (λ_=>()) E.sp i l s) qbc F w e w':=by
 have hmf:∀(fn:Fn) (first cap:Array Value) (w:World),(Instr.makeFunc fn first cap).run Tryz.prog w= .ok (.func fn first cap) w:=λ_ _ _ _=>rfl
 have hu:Upd (λ_=>False) w (w.alloc (.cells #[.int .i64 a] 3)):=(Upd.refl _ w).alloc _;have hI:=h.new hu;have hb0:Boxed (w.alloc (.cells #[.int .i64 a] 3)) w.heap.size 3 (.int .i64 a):=qad rfl _ _;have heb:E.eb<w.heap.size:=by obtain⟨lv,G,k1,_⟩:=h;exact k1.lt
 have hdo:doF E.n E.nl E.who 4 a 0 s.1=(if qb7 s.1.L E.nl a E.who=0 then some (0,{s.1 with L:=qcy s.1.L E.nl a E.who}) else none):=rfl;have hask:=qdo (Fn:=307) (caps:=#[.pointer (some ⟨w.heap.size,0,none⟩)]) (q:=onM (doF E.n E.nl E.who 4 a 0)) (λargs w=>by simp[go_sem]) hI (AP.ask_tame hw) (λV G y s' hM ho=>by
  by_cases hc:qb7 s.1.L E.nl a E.who=0
  ·rw[if_pos hc] at hdo
   have h1:=(qby hdo ho).1;omega
  ·rw[if_neg hc] at hdo
   simp[onM,hdo] at ho) (by
  intro y s' ho V lv G hV hR hM hG hp hl;by_cases hc:qb7 s.1.L E.nl a E.who=0
  ·rw[if_pos hc] at hdo
   obtain⟨rfl,rfl⟩:=qby hdo ho;refine(qv3 hM.1 hR hc (qac hb0 hV Zo) (λe=>by have:=h.lt (hp _ e);omega)).mono ?_;rintro e V' ⟨he,hP,hu2⟩;exact⟨he,hM.step hP Zo hG hu2⟩
  ·rw[if_neg hc] at hdo
   simp[onM,hdo] at ho) (by
  intro ho;by_cases hc:qb7 s.1.L E.nl a E.who=0
  ·rw[if_pos hc] at hdo
   simp[onM,hdo] at ho
  ·refine⟨0,λV lv G hV hR hM hG hp hl=>?_⟩
   refine(qxk hM.1 hR hc (qac hb0 hV Zo) (λe=>by have:=h.lt (hp _ e);omega)).mono ?_;rintro e V' ⟨he,hP,hu2⟩;have hst:=hM.step (D':=s.1) hP Zo hG hu2;exact⟨he,hst⟩)
 have hask:=waa hask;have hus:=waa hu;have hw:=waa hw;clear hI hb0 heb h hu hdo;go_enter Tryz.func259,Tryz.ntmps259;go_wp2_with fail;refine hask.out.mono ?_;rintro e V hpost;rcases hpost.done (AP.ask_tame hw.out) with ⟨y,i',l',s',v,F',ho,rfl,rfl,hI,hg,hu⟩|⟨bl,l',s',F',ho,rfl,hO,hg,hu⟩
 ·have hfin:=waa (DP.Post.ended (t:=AP.ask (onM (doF E.n E.nl E.who 4 a 0)) (λ_=>())) (R:=qbc) (v:= .tuple #[]) (by rw[AP.ask_map,ho]) rfl rfl hI (λk hk=>(hg k hk).imp id (λe=>wam hus.out.size e)) ((hus.out.mono (λ_ e=>e.elim)).trans hu))
  clear hpost ho hI hg hu;go_wp2_with fail;go_end0
  exact hfin.out
 ·exact⟨rfl,DP.Post.stopped (t:=AP.ask (onM (doF E.n E.nl E.who 4 a 0)) (λ_=>())) (by rw[AP.ask_map,ho]) rfl hO (λk hk=>(hg k hk).imp id (λe=>wam hus.out.size e)) ((hus.out.mono (λ_ e=>e.elim)).trans hu)⟩
def onX(g:τ->Nat×τ)(s:DM×τ):Option (Nat×DM×τ):=some ((g s.2).1,s.1,(g s.2).2)
theorem q2g{FN:Nat}{fcaps:Array Value}{g:τ->Nat×τ}(hen:∀(args:Array Value) (w:World),(callFunc FN args).run Tryz.prog w= .ok (.enter FN args) w)(h:E.In i l s F w)(hlt:(g s.2).1<18446744073709551616)(hw:AP.ask (onX g) id E.sp i l s≠ .wild)(hf:∀V G,Upd (λk=>k=E.eb) w V->E.Ex s.2 G V->(∀k,G k->F k)->Calls Tryz.prog FN fcaps V λe V'=>e= .returned (.int .u64 ((g s.2).1:Int))/\(∃G',E.Ex (g s.2).2 G' V'/\Grows G G' V)/\Upd G V V'):
  Calls Tryz.prog 294 #[.pointer (some ⟨E.eb,0,none⟩),.func (.func FN) #[] fcaps] w λe w'=>E.Post (AP.ask (onX g) id E.sp i l s) (λ(y:Nat) v _=>v= .int .u64 (y:Int)) F w e w':=by
 have hmf:∀(fn:Fn) (first cap:Array Value) (w:World),(Instr.makeFunc fn first cap).run Tryz.prog w= .ok (.func fn first cap) w:=λ_ _ _ _=>rfl
 have hu:Upd (λ_=>False) w (w.alloc (.cells #[.func (.func FN) #[] fcaps] 301)):=(Upd.refl _ w).alloc _;have hI:=h.new hu;have hb0:Boxed (w.alloc (.cells #[.func (.func FN) #[] fcaps] 301)) w.heap.size 301 (.func (.func FN) #[] fcaps):=qad rfl _ _;have heb:E.eb<w.heap.size:=by obtain⟨lv,G,k1,_⟩:=h;exact k1.lt
 have hask:=qdo (Fn:=337) (caps:=#[.pointer (some ⟨w.heap.size,0,none⟩)]) (q:=onX g) (λargs w=>by simp[go_sem]) hI hw (λV G y s' hM ho=>by
  obtain⟨rfl,rfl⟩:(g s.2).1=y/\(s.1,(g s.2).2)=s':=by simpa[onX] using ho
  exact hlt) (by
  intro y s' ho V lv G hV hR hM hG hp hl;obtain⟨rfl,rfl⟩:(g s.2).1=y/\(s.1,(g s.2).2)=s':=by simpa[onX] using ho
  have hsz:=(hu.mono (G:=λk=>k=E.eb) (λ_ e=>e.elim)).trans hV;refine(qwh (x:=(g s.2).1) (Q:=λV'=>∃G',(E.Mem (E.c0+l.length+1) (s.1,(g s.2).2) G' V'/\∀k,G' k->G k\/V.heap.size+2<=k)/\V.heap.size<=V'.heap.size) (H:=λk=>E.ps k\/G k) hen _ (qac hb0 hV Zo) (λV1 hV1 hs1=>?_) ?_ ?_).mono ?_
  ·have hM1:=hM.upd hV1 (λ_ _ e=>e) (λ_ _ e=>e)
   refine(hf V1 G (hsz.trans (hV1.mono (λ_ e=>e.elim))) hM1.2 (λk hk=>(hG k hk).1)).mono ?_;rintro e V' ⟨he,⟨G',hx,hg⟩,hu2⟩;refine⟨he,⟨G',⟨⟨(hM1.1.upd hu2 (λk hk e=>(hG k e).2 hk)).more Zo,hx⟩,λk hk=>(hg k hk).imp id (λe=>by omega)⟩,by have:=hu2.size;have:=hV1.size;omega⟩,hu2.mono (λk e=> .inr e)⟩
  ·rintro V1 V2 ⟨G',⟨h1,h2⟩,h3⟩ hu2
   refine⟨G',⟨h1.upd hu2 (λk hk e=>?_) (λk hk e=>?_),h2⟩,wam h3 hu2.size⟩
   ·have:=hM.1.lts hk
    rcases e with e|e<;>omega
   ·rcases h2 k hk with h4|h4
    ·have:=E.exLt _ _ _ _ hM.2 h4
     rcases e with e|e<;>omega
    ·rcases e with e|e<;>omega
  ·rintro k (hk|hk)
   ·exact hM.1.lts hk
   ·exact E.exLt _ _ _ _ hM.2 hk
  ·rintro e V' ⟨he,⟨G',⟨h1,h2⟩,-⟩,hu2⟩
   exact⟨he,⟨G',h1,λk hk=>(h2 k hk).imp id (λe=>by omega)⟩,hu2⟩) (by
  intro ho;exact absurd ho (by simp[onX]))
 have hask:=waa hask;have hus:=waa hu;have hw:=waa hw;clear hI hb0 heb h hu hf hlt;go_enter Tryz.func294,Tryz.ntmps294;go_wp2_with fail;refine hask.out.mono ?_;rintro e V hpost;rcases hpost.done hw.out with ⟨y,i',l',s',v,F',ho,rfl,rfl,hI,hg,hu⟩|⟨bl,l',s',F',ho,rfl,hO,hg,hu⟩
 ·have hfin:=waa (DP.Post.ended (t:=AP.ask (onX g) id) (R:=λ(y:Nat) v _=>v= .int .u64 (y:Int)) ho rfl rfl hI (λk hk=>(hg k hk).imp id (λe=>wam hus.out.size e)) ((hus.out.mono (λ_ e=>e.elim)).trans hu))
  clear hpost ho hI hg hu;go_wp2_with fail;go_ret;exact hfin.out
 ·exact⟨rfl,DP.Post.stopped (t:=AP.ask (onX g) id) ho rfl hO (λk hk=>(hg k hk).imp id (λe=>wam hus.out.size e)) ((hus.out.mono (λ_ e=>e.elim)).trans hu)⟩
end
end Go.Proofs.YtgjhkafggagniaaGreat
namespace Go.Proofs.YtgjhkafggagniaaGreat
open Go
def half(x:Nat):Nat:=if x%2=1 then(x/2) ^^^ 3988292384 else x/2
def qbq:Nat->Nat->Nat
 |0,x=>x
 |n+1,x=>qbq n (half x)
def addB(x b:Nat):Nat:=qbq 8 (x ^^^ b)
def sumL:Nat->List Nat->Nat
 |x,[]=>x
 |x,b::l=>sumL (addB x b) l
def crcB(l:List Nat):Nat:=4294967295 - sumL 4294967295 l
def qee:Nat->Nat->List Nat
 |0,_=>[]
 |n+1,x=>x%256::qee n (x/256)
def qbo(ws:List Nat):List Nat:=ws.flatMap (qee 8)
def crcW(ws:List Nat):Nat:=crcB (qbo ws)
def qc7(ws:List Nat):Nat:=9223372036854775808+ws.length%2147483648*4294967296+crcW ws
theorem qh4{x:Nat}(h:x%2=1):half x=(x/2) ^^^ 3988292384:=by unfold half;rw[if_pos h]
theorem qgt{x:Nat}(h:x%2=0):half x=x/2:=by unfold half;rw[if_neg Zo]
theorem qhd{x:Nat}(h:x<4294967296):half x<4294967296:=by
 unfold half;split
 ·exact wdm (n:=32) Zo Zo
 ·omega
theorem qnc{n x:Nat}(h:x<4294967296):qbq n x<4294967296:=by
 induction n generalizing x with
 |zero=>exact h
 |succ n ih=>exact ih (qhd h)
theorem qhp{x b:Nat}(h:x<4294967296)(hb:b<256):x ^^^ b<4294967296:=wdm (n:=32) Zo Zo
theorem qze{x b:Nat}(h:x<4294967296)(hb:b<256):addB x b<4294967296:=qnc (qhp h hb)
theorem qz1(l:List Nat):crcB l<4294967296:=by unfold crcB;omega
theorem qft(l:List Nat):crcW l<4294967296:=qz1 _
theorem qle(l:List Nat):qc7 l<18446744073709551616:=by unfold qc7;have:=qft l;have:=wbz l.length (show 2147483648>0 by omega);omega
theorem qm6{x:Nat}(h:x<4294967296):x ^^^ 4294967295=4294967295 - x:=by
 apply wc7
 intro k;have h1:=wfd (n:=32) (x:=x) h k;have e:2 ^ 32 - (x+1)=4294967295 - x:=Zo
 rw[e] at h1;rw[h1,wcg,show(4294967295:Nat)=2 ^ 32 - 1 from rfl,wfe];by_cases hk:k<32
 ·simp[hk]
 ·have:x.testBit k=false:=wc8 (wak h (wbw (n:=2) Zo (by omega:32<=k)))
  simp[hk,this]
theorem qsq(n x:Nat):∀b∈qee n x,b<256:=by
 induction n generalizing x with
 |zero=>intro b hb;cases hb
 |succ n ih=>
  intro b hb;rcases wa1.1 hb with rfl|hb
  ·exact wbz _ Zo
  ·exact ih _ b hb
theorem qwv(ws:List Nat):∀b∈qbo ws,b<256:=by
 intro b hb;obtain⟨v,_,hv⟩:=wep.1 hb;exact qsq 8 v b hv
theorem qto:qbo []=[]:=rfl
theorem qip(v:Nat)(ws:List Nat):qbo (v::ws)=qee 8 v++qbo ws:=by simp[qbo]
theorem qmj(v t:Nat):(v ^^^ t)/2=v/2 ^^^ t/2:=by
 apply wc7
 intro k;rw[wcg,show(2:Nat)=2 ^ 1 from rfl,wc9,wc9,wc9,wcg]
theorem qyc(v t:Nat):(v ^^^ t)%2=(v%2+t%2)%2:=by
 have:=Nat.xor_mod_two_pow (a:=v) (b:=t) (n:=1)
 rw[show(2:Nat) ^ 1=2 from rfl] at this;rw[this];rcases(by omega:v%2=0\/v%2=1) with h|h<;>rcases(by omega:t%2=0\/t%2=1) with g|g<;>rw[h,g]<;>rfl
theorem qk0(x:Nat){y:Nat}(hy:y%2=0):half (x ^^^ y)=half x ^^^ y/2:=by
 have hm:=qyc x y;rcases(by omega:x%2=0\/x%2=1) with h|h
 ·rw[qgt h,qgt Zo,qmj]
 ·rw[qh4 h,qh4 Zo,qmj,Nat.xor_assoc,Nat.xor_assoc,Nat.xor_comm (y/2)]
theorem qss(n x q:Nat):qbq n (x ^^^ (2 ^ n*q))=qbq n x ^^^ q:=by
 induction n generalizing x with
 |zero=>simp[qbq]
 |succ n ih=>
  show qbq n (half (x ^^^ (2 ^ (n+1)*q)))=qbq n (half x) ^^^ q
  have e:2 ^ (n+1)*q=2*(2 ^ n*q):=by rw[Nat.pow_succ,Nat.mul_comm (2 ^ n) 2,Nat.mul_assoc]
  rw[qk0 x (by rw[e];exact Nat.mul_mod_right _ _),e,Nat.mul_div_cancel_left _ Zo,ih]
theorem qt7(x b:Nat)(hb:b<256):addB x b=x/256 ^^^ qbq 8 (x%256 ^^^ b):=by
 unfold addB;have e:x ^^^ b=(x%256 ^^^ b) ^^^ (2 ^ 8*(x/256)):=by
  apply wc7
  intro k;rw[wcg,wcg,wcg,show(256:Nat)=2 ^ 8 from rfl,Nat.testBit_mod_two_pow,Nat.testBit_two_pow_mul,wc9];by_cases hk:k<8
  ·simp[hk,Nat.not_le.2 hk]
  ·have h8:8<=k:=Zo
   have hz:b.testBit k=false:=wc8 (wak hb (wbw (n:=2) Zo h8));simp[hk,h8,hz,Nat.sub_add_cancel h8]
 rw[e,qss,Nat.xor_comm]
theorem q0w{x b:Nat}(hb:b<256):qbq 8 (x%256 ^^^ b)<4294967296:=
 qnc (wak (wdm (n:=8) (wbz _ Zo) hb) Zo)
end Go.Proofs.YtgjhkafggagniaaGreat
namespace Go.Proofs.YtgjhkafggagniaaGreat
open Go Go.RowKit
def entB(e:Int×Nat):Bool:=decide (0<=e.1/\e.1<=16383)
def logB(l:List (Int×Nat)):Bool:=decide (1<=l.length)&&decide (l.length<=16)&&l.all entB
def qa2:Nat->List (Int×Nat)->List Nat
 |_,[]=>[]
 |k,e::r=>(e.1.toNat+4294967296*k)::e.2::qa2 (k+1) r
def logW(l:List (Int×Nat)):List Nat:=if logB l=true then qa2 0 l else[]
def qc5(l:List (Int×Nat)):Nat:=if logB l=true then qc7 (qa2 0 l) else 0
def qbf:List (Int×Nat)->List (Int×Nat)
 |[]=>[]
 |e::r=>if r.any (λf=>decide (f.1=e.1))=true then qbf r else e::qbf r
theorem logB_iff{l:List (Int×Nat)}:logB l=true↔1<=l.length/\l.length<=16/\l.all entB=true:=by
 unfold logB;simp[and_assoc]
theorem entB_iff{e:Int×Nat}:entB e=true↔0<=e.1/\e.1<=16383:=by unfold entB;simp
theorem qic(k:Nat)(l:List (Int×Nat)):(qa2 k l).length=2*l.length:=by
 induction l generalizing k with
 |nil=>rfl
 |cons e r ih=>simp only[qa2,waz,ih];omega
theorem qxa{l:List (Int×Nat)}{k:Nat}(h:l.all entB=true)(hx:∀e∈l,e.2<18446744073709551616)(hk:k+l.length<=4294967296):∀v∈qa2 k l,v<18446744073709551616:=by
 induction l generalizing k with
 |nil=>intro v hv;cases hv
 |cons e r ih=>
  rw[wda,wbp,entB_iff] at h;rw[waz] at hk;intro v hv;rw[qa2] at hv;rcases wa1.1 hv with rfl|hv
  ·omega
  ·rcases wa1.1 hv with rfl|hv
   ·exact hx e (wdn ..)
   ·exact ih h.2 (λf hf=>hx f (wdo _ hf)) Zo v hv
theorem qqx{l t:List (Int×Nat)}{j:Nat}{e:Int×Nat}{out:List Nat}{g:Nat}(h:out++qa2 j (l.drop j)=qa2 g l)(hd:l.drop j=e::t)(ht:l.drop (j+1)=t):(out++[e.1.toNat+4294967296*j,e.2])++qa2 (j+1) (l.drop (j+1))=qa2 g l:=by
 rw[<-h,hd,ht,qa2];simp
end Go.Proofs.YtgjhkafggagniaaGreat
namespace Go.Proofs.YtgjhkafggagniaaGreat
open Go
def only(i:Int):Nat:=if i<0\/64<=i then 0 else 2 ^ i.toNat
def hasB(m:Nat)(i:Int):Bool:=decide (0<=i/\i<64)&&m.testBit i.toNat
def qcz(m:Nat)(i:Int):Nat:=m|||only i
def qbh(m:Nat)(i:Int):Nat:=m&&&(18446744073709551615 - only i)
def q2h(n:Int):Nat:=2 ^ (min (max n 0) 64).toNat - 1
theorem ql5{k:Nat}(h:k<64):2 ^ k<18446744073709551616:=Nat.pow_lt_pow_of_lt (a:=2) (n:=k) (m:=64) Zo h
theorem qhf(i:Int):only i<18446744073709551616:=by
 unfold only;split
 ·omega
 ·exact ql5 Zo
theorem qhx{i:Int}(h:i<0\/64<=i):only i=0:=by unfold only;rw[if_pos h]
theorem qpg{i:Int}(h0:0<=i)(h:i<64):only i=2 ^ i.toNat:=by unfold only;rw[if_neg Zo]
theorem qxq(m:Nat){i:Int}(h:i<0\/64<=i):hasB m i=false:=by
 unfold hasB;rw[decide_eq_false Zo];rfl
theorem q1h(m:Nat){i:Int}(h0:0<=i)(h:i<64):hasB m i=m.testBit i.toNat:=by
 unfold hasB;rw[decide_eq_true ⟨h0,h⟩];rfl
theorem qyw(m:Nat)(i:Int):(m&&&only i !=0)=hasB m i:=by
 by_cases h:i<0\/64<=i
 ·rw[qhx h,qxq m h];simp
 ·rw[q1h m Zo Zo,qpg Zo Zo,nat_bit,Nat.testBit_eq_decide_div_mod_eq]
  have hp:0<2 ^ i.toNat:=wdb _;have h2:m/2 ^ i.toNat%2=0\/m/2 ^ i.toNat%2=1:=Zo
  rcases h2 with h2|h2
  ·rw[h2];simp
  ·rw[h2];simp
theorem qmv(x:Nat)(hx:x<18446744073709551616)(k:Nat):(18446744073709551615 - x).testBit k=(decide (k<64)&&!x.testBit k):=by
 have:=wfd (n:=64) (x:=x) hx k
 have e:2 ^ 64 - (x+1)=18446744073709551615 - x:=Zo
 rw[e] at this;exact this
theorem qqk(m x:Nat)(hm:m<18446744073709551616)(hx:x<18446744073709551616)(k:Nat):(m&&&(18446744073709551615 - x)).testBit k=(m.testBit k&&!x.testBit k):=by
 rw[Nat.testBit_and,qmv x hx];by_cases h:k<64
 ·simp[h]
 ·have:m.testBit k=false:=wc8 (wak hm (wbw (n:=2) Zo (by omega:64<=k)))
  simp[this]
theorem qwx(m:Nat)(hm:m<18446744073709551616)(i:Int):qcz m i<18446744073709551616:=
 Nat.or_lt_two_pow (n:=64) hm (qhf i)
theorem qon(m:Nat)(hm:m<18446744073709551616)(i:Int):qbh m i<18446744073709551616:=
 wb6 weq hm
def q2s(m:Nat)(n:Int):Nat:=q2h n&&&(18446744073709551615 - m)
end Go.Proofs.YtgjhkafggagniaaGreat
namespace Go.Proofs.YtgjhkafggagniaaGreat
open Go Go.RowKit
theorem qv9{i:Int}(h0:0<=i)(h:i<64):IntKind.u64.wrap ((2:Int) ^ i.toNat)=(only i:Int):=by
 have hl:=ql5 (k:=i.toNat) Zo;have e:((2:Int) ^ i.toNat)=((2 ^ i.toNat:Nat):Int):=by simp
 rw[qpg h0 h,wa4,e];generalize 2 ^ i.toNat=y at hl ⊢;omega
theorem qh9(i:Int)(w:World)(h0:-9223372036854775808<=i)(h1:i<=9223372036854775807):
  Calls Tryz.prog 124 #[.int .i64 i] w λe w'=>e= .returned (.int .u64 (only i:Nat))/\w=w':=by
 by_cases hi:i<0
 ·go_enter Tryz.func124,Tryz.ntmps124
  go_wp2
  go_ret;exact⟨qcv (by rw[qhx (.inl hi)];rfl),rfl⟩
 ·by_cases hj:i<64
  ·go_enter Tryz.func124,Tryz.ntmps124
   go_wp2
   go_ret;exact⟨qcv (qv9 hi hj),rfl⟩
  ·go_enter Tryz.func124,Tryz.ntmps124
   go_wp2
   go_ret;exact⟨qcv (by rw[qhx (.inr hj)];rfl),rfl⟩
theorem qy6(m:Nat)(i:Int)(w:World)(hm:m<18446744073709551616)(h0:-9223372036854775808<=i)(h1:i<=9223372036854775807):
  Calls Tryz.prog 65 #[.int .u64 (m:Int),.int .i64 i] w λe w'=>e= .returned (.bool (hasB m i))/\w=w':=by
 have hl:=qhf i;go_enter Tryz.func65,Tryz.ntmps65;go_wp2_with (go_at_call 124;refine(qh9 _ _ h0 h1).mono ?_;rintro e w' ⟨rfl,rfl⟩)
 go_ret;refine⟨qae ?_,rfl⟩;rw[u64_and_nat m _ hm hl,<-qyw];by_cases e:m&&&only i=0
 ·rw[e];rfl
 ·have h:((m&&&only i:Nat):Int)≠0:=Zo
  rw[bne_iff_ne.2 h,bne_iff_ne.2 e]
theorem qx2(m:Nat)(i:Int)(w:World)(hm:m<18446744073709551616)(h0:-9223372036854775808<=i)(h1:i<=9223372036854775807):
  Calls Tryz.prog 299 #[.int .u64 (m:Int),.int .i64 i] w λe w'=>e= .returned (.int .u64 (qcz m i:Nat))/\w=w':=by
 have hl:=qhf i;go_enter Tryz.func299,Tryz.ntmps299;go_wp2_with (go_at_call 124;refine(qh9 _ _ h0 h1).mono ?_;rintro e w' ⟨rfl,rfl⟩)
 go_ret;exact⟨qcv (by rw[u64_or_nat m _ hm hl];rfl),rfl⟩
theorem qns(m:Nat)(i:Int)(w:World)(hm:m<18446744073709551616)(h0:-9223372036854775808<=i)(h1:i<=9223372036854775807):
  Calls Tryz.prog 264 #[.int .u64 (m:Int),.int .i64 i] w λe w'=>e= .returned (.int .u64 (qbh m i:Nat))/\w=w':=by
 have hl:=qhf i;go_enter Tryz.func264,Tryz.ntmps264;go_wp2_with (go_at_call 124;refine(qh9 _ _ h0 h1).mono ?_;rintro e w' ⟨rfl,rfl⟩)
 go_ret;exact⟨qcv (by rw[u64_andNot_nat m _ hm hl];rfl),rfl⟩
end Go.Proofs.YtgjhkafggagniaaGreat
namespace Go.Proofs.YtgjhkafggagniaaGreat
open Go
def qbj(a n:Int):Bool:=decide (1<=n/\0<=a/\a+n<=64)
def qbr(n:Nat):Nat:=2 ^ n - 1
def getN(x a n:Nat):Nat:=x/2 ^ a%2 ^ n
def putN(x a n v:Nat):Nat:=(x&&&(18446744073709551615 - qbr n*2 ^ a))|||(v&&&qbr n)*2 ^ a
theorem fieldB_iff{a n:Int}:qbj a n=true↔1<=n/\0<=a/\a+n<=64:=by unfold qbj;simp
theorem fieldB_no{a n:Int}:qbj a n=false↔¬(1<=n/\0<=a/\a+n<=64):=by unfold qbj;simp
theorem qiq{a n:Int}(h:qbj a n=true):∃i k:Nat,a=(i:Int)/\n=(k:Int)/\1<=k/\i+k<=64:=by
 rw[fieldB_iff] at h;exact⟨a.toNat,n.toNat,Zo,Zo,Zo,Zo⟩
theorem qbk{i k:Nat}(h1:1<=k)(h2:i+k<=64):qbj (i:Int) (k:Int)=true:=by rw[fieldB_iff];omega
theorem qgm(n:Nat):qbr n+1=2 ^ n:=by unfold qbr;have:=wdb n;omega
theorem qmf{n:Nat}(h:n<=64):qbr n<18446744073709551616:=by
 have h1:=qgm n;have h2:=wbw (n:=2) Zo h;omega
theorem qtp(n k:Nat):(qbr n).testBit k=decide (k<n):=by unfold qbr;exact wfe ..
theorem qeh{a n:Nat}(h:a+n<=64):qbr n*2 ^ a<18446744073709551616:=by
 have h1:qbr n<2 ^ n:=by have:=qgm n;omega
 have h2:qbr n*2 ^ a<2 ^ n*2 ^ a:=Nat.mul_lt_mul_of_pos_right h1 (wdb a);rw[<-Nat.pow_add] at h2;have h3:=wbw (n:=2) Zo (by omega:n+a<=64);omega
theorem qgf(v:Nat){a n:Nat}(h:a+n<=64):(v&&&qbr n)*2 ^ a<18446744073709551616:=
 wb6 (Nat.mul_le_mul_right _ Nat.and_le_right) (qeh h)
theorem qhb(v a k:Nat):(v*2 ^ a).testBit k=(decide (a<=k)&&v.testBit (k - a)):=by
 rw[<-Nat.shiftLeft_eq,Nat.testBit_shiftLeft]
theorem qly(x a n v:Nat)(hx:x<18446744073709551616)(h:a+n<=64)(k:Nat):
  (putN x a n v).testBit k=if a<=k/\k<a+n then v.testBit (k - a) else x.testBit k:=by
 unfold putN;rw[Nat.testBit_or,qqk _ _ hx (qeh h),qhb,qhb,Nat.testBit_and,qtp];by_cases h1:a<=k
 ·by_cases h2:k<a+n
  ·rw[if_pos ⟨h1,h2⟩]
   rw[decide_eq_true h1,decide_eq_true (by omega:k - a<n)];simp
  ·rw[if_neg Zo]
   rw[decide_eq_true h1,decide_eq_false (by omega:¬k - a<n)];simp
 ·rw[if_neg Zo,decide_eq_false h1]
  simp
theorem qpl(x a n v:Nat)(hx:x<18446744073709551616)(h:a+n<=64):putN x a n v<18446744073709551616:=
 Nat.or_lt_two_pow (n:=64) (wb6 weq hx) (qgf v h)
def endL:Nat->List Int->Option Nat
 |a,[]=>some a
 |a,n::ws=>if qbj (a:Int) n=true then endL (a+n.toNat) ws else none
def qb8:Nat->Nat->List Int->List Nat->Option Nat
 |_,x,[],[]=>some x
 |a,x,n::ws,v::vs=>if qbj (a:Int) n=true/\v<2 ^ n.toNat then qb8 (a+n.toNat) (putN x a n.toNat v) ws vs else none
 |_,_,_,_=>none
def qde(x:Nat):Nat->List Int->List Nat
 |_,[]=>[]
 |a,n::ws=>getN x a n.toNat::qde x (a+n.toNat) ws
def qdd(x:Nat)(ws:List Int):Option (List Nat):=match endL 0 ws with
 |some e=>if x/2 ^ e=0 then some (qde x 0 ws) else none
 |none=>none
theorem qxb{a:Nat}{n:Int}{ws:List Int}(h:qbj (a:Int) n=true):endL a (n::ws)=endL (a+n.toNat) ws:=by
 show(if qbj (a:Int) n=true then _ else _)=_
 rw[if_pos h]
theorem q0b{a:Nat}{n:Int}{ws:List Int}(h:qbj (a:Int) n=false):endL a (n::ws)=none:=by
 show(if qbj (a:Int) n=true then _ else _)=_
 rw[if_neg (by simp[h])]
theorem qkw{a x:Nat}{n:Int}{ws:List Int}{v:Nat}{vs:List Nat}(h:qbj (a:Int) n=true)(hv:v<2 ^ n.toNat):qb8 a x (n::ws) (v::vs)=qb8 (a+n.toNat) (putN x a n.toNat v) ws vs:=by
 rw[qb8,if_pos ⟨h,hv⟩]
theorem qbl{a x k:Nat}{ws:List Int}{v:Nat}{vs:List Nat}(h:qbj (a:Int) (k:Int)=true)(hv:v<2 ^ k):qb8 a x ((k:Int)::ws) (v::vs)=qb8 (a+k) (putN x a k v) ws vs:=qkw h hv
theorem qh1{a x:Nat}{n:Int}{ws:List Int}{v:Nat}{vs:List Nat}(h:¬(qbj (a:Int) n=true/\v<2 ^ n.toNat)):qb8 a x (n::ws) (v::vs)=none:=by
 rw[qb8,if_neg h]
theorem qs6{a:Nat}{x:Nat}{ws:List Int}{vs:List Nat}(h:ws.length≠vs.length):qb8 a x ws vs=none:=by
 induction ws generalizing a x vs with
 |nil=>cases vs with
  |nil=>exact absurd rfl h
  |cons v vs=>rw[qb8]<;>simp
 |cons n ws ih=>
  cases vs with
  |nil=>rw[qb8]<;>simp
  |cons v vs=>
   by_cases hf:qbj (a:Int) n=true/\v<2 ^ n.toNat
   ·rw[qkw hf.1 hf.2]
    exact ih (by simpa using h)
   ·exact qh1 hf
def qd1(x a:Nat):Nat:=x/2 ^ a*2 ^ a
theorem qj6(x a k:Nat):(qd1 x a).testBit k=(decide (a<=k)&&x.testBit k):=by
 unfold qd1;rw[qhb,wc9];by_cases h:a<=k
 ·rw[show k - a+a=k from by omega]
 ·simp[h]
theorem qwl(x a:Nat)(hx:x<18446744073709551616):qd1 x a<18446744073709551616:=wb6 (Nat.div_mul_le_self x (2 ^ a)) hx
theorem qro(x:Nat):qd1 x 0=x:=by unfold qd1;simp
theorem qth(x:Nat){a n:Nat}(hx:x<18446744073709551616)(h:a+n<=64):putN (qd1 x a) a n 0=qd1 x (a+n):=by
 apply wc7
 intro k;rw[qly _ _ _ _ (qwl x a hx) h,qj6,qj6];by_cases e:a<=k/\k<a+n
 ·rw[if_pos e,decide_eq_false (by omega:¬a+n<=k)];simp
 ·rw[if_neg e]
  by_cases e2:a<=k
  ·rw[decide_eq_true e2,decide_eq_true (by omega:a+n<=k)]
  ·rw[decide_eq_false e2,decide_eq_false (by omega:¬a+n<=k)]
theorem qio(x a:Nat):qd1 x a=0↔x/2 ^ a=0:=by
 unfold qd1;have:=wdb a
 constructor
 ·intro h
  rcases Nat.mul_eq_zero.1 h with h|h<;>omega
 ·intro h;rw[h];simp
theorem qt6{x:Nat}{ws:List Int}(h:endL 0 ws=none):qdd x ws=none:=by unfold qdd;rw[h]
theorem qjb{x e:Nat}{ws:List Int}(h:endL 0 ws=some e)(h2:x/2 ^ e=0):qdd x ws=some (qde x 0 ws):=by
 unfold qdd;rw[h];show(if x/2 ^ e=0 then _ else _)=_
 rw[if_pos h2]
theorem qhr{x e:Nat}{ws:List Int}(h:endL 0 ws=some e)(h2:x/2 ^ e≠0):qdd x ws=none:=by
 unfold qdd;rw[h];show(if x/2 ^ e=0 then _ else _)=_
 rw[if_neg h2]
theorem lt_pow_mask{v n:Nat}:v<2 ^ n↔¬qbr n<v:=by have:=qgm n;omega
theorem qcf{x a n v:Nat}(hx:x<2 ^ a)(h:a+n<=64)(hv:v<2 ^ n):putN x a n v=x+v*2 ^ a:=by
 have hx64:x<18446744073709551616:=wak hx (by have:=wbw (n:=2) Zo (show a<=64 by omega);simpa using this);have e:x+v*2 ^ a=2 ^ a*v|||x:=by rw[<-wer hx v,Nat.mul_comm];omega
 rw[e];apply wc7
 intro k;rw[qly x a n v hx64 h k,Nat.testBit_or,Nat.mul_comm,qhb];by_cases h1:a<=k
 ·have hxk:x.testBit k=false:=wc8 (wak hx (wbw Zo h1))
  by_cases h2:k<a+n
  ·simp[h1,h2,hxk]
  ·have hvk:v.testBit (k - a)=false:=wc8 (wak hv (wbw Zo Zo))
   simp[h1,h2,hxk,hvk]
 ·simp[h1]
end Go.Proofs.YtgjhkafggagniaaGreat
