/- Parts. No condition. -/
import Derived.Test.YtgjhkafggagniaaGreatJoinV03
set_option linter.unusedVariables false
set_option maxRecDepth 100000
set_option maxHeartbeats 8000000
namespace Go.Proofs.YtgjhkafggagniaaGreat
open Go Go.RowKit
def LkR(w:World)(p g n:Nat)(L:List Int):Prop:=
 ∃(c:Nat) (st:Int),p≠g/\(1<=n/\n<=16)/\w.heap[p]? =some (.cells #[.slice (some ⟨g,0,none⟩) n c,.int .i64 st] 149 (0,0))/\w.ownsRow 0 3 1 (.slice (some ⟨g,0,none⟩) n c) n (i64V L)
section
variable {w w':World} {p g n:Nat} {L:List Int}
theorem LkR.len(h:LkR w p g n L):L.length=n/\1<=n/\n<=16:=by
 obtain⟨c,st,_,hn,_,ho⟩:=h;have:=ho.1
 rw[qbi] at this;omega
theorem LkR.lts(h:LkR w p g n L):p<w.heap.size/\g<w.heap.size:=by
 obtain⟨c,st,_,_,hp,ho⟩:=h;exact⟨(waj.1 hp).1,(ho.lt g rfl).2⟩
theorem LkR.upd{G:Nat->Prop}(h:LkR w p g n L)(hu:Upd G w w')(h1:¬G p)(h2:¬G g):LkR w' p g n L:=by
 obtain⟨l1,l2⟩:=h.lts;obtain⟨c,st,hne,hn,hp,ho⟩:=h;exact⟨c,st,hne,hn,(hu.block p l1 h1).trans hp,qm0 ho (hu.block g l2 h2)⟩
theorem LkR.cell(h:LkR w p g n L){k:Nat}(hk:k<n):w.cell? ⟨g,k,none⟩=some (.int .i64 (L[k]?.getD 0))/\w.frozen? ⟨g,k,none⟩=false:=by
 have hl:=h.len;obtain⟨c,st,hne,hn,hp,ho⟩:=h;refine⟨?_,ho.frozenAt k⟩;rw[ho.cellAt k Zo];simp[i64V,List.getElem?_eq_getElem (show k<L.length by omega)]
theorem LkR.set(h:LkR w p g n L)(k:Nat)(x:Int):LkR (w.setCell ⟨g,k,none⟩ (.int .i64 x)) p g n (L.set k x):=by
 obtain⟨c,st,hne,hn,hp,ho⟩:=h;refine⟨c,st,hne,hn,(wa5 _ _ _ _ hne).trans hp,?_⟩;have:=(ho.stored k (.int .i64 x)).1
 rwa [qw6] at this
theorem LkR.count(h:LkR w p g n L)(s:Int):LkR (w.setCell ⟨p,1,none⟩ (.int .i64 s)) p g n L:=by
 obtain⟨c,st,hne,hn,hp,ho⟩:=h;exact⟨c,s,hne,hn,by rw[qaj hp];rfl,qm0 ho (wa5 _ _ _ _ (Ne.symm hne))⟩
theorem LkR.cells(h:LkR w p g n L):∃(c:Nat) (st:Int),w.cell? ⟨p,0,none⟩=some (.slice (some ⟨g,0,none⟩) n c)/\w.cell? ⟨p,1,none⟩=some (.int .i64 st)/\w.frozen? ⟨p,1,none⟩=false:=by
 obtain⟨c,st,hne,hn,hp,ho⟩:=h;exact⟨c,st,by rw[qab hp];rfl,by rw[qab hp];rfl,qah hp 1⟩
theorem ql4(h:LkR w p g n L):Calls Tryz.prog 125 #[.pointer (some ⟨p,0,none⟩)] w λe w'=>e= .returned (.int .i64 (n:Int))/\w'=w:=by
 obtain⟨c,st,c0,c1,f1⟩:=h.cells;go_enter Tryz.func125,Tryz.ntmps125;go_wp2_with fail;go_ret;exact⟨rfl,rfl⟩
theorem qnh(h:LkR w p g n L)(k:Int):Calls Tryz.prog 379 #[.pointer (some ⟨p,0,none⟩),.int .i64 k] w λe w'=>e= .returned (.bool (decide (0<=k)&&decide (k<(n:Int))))/\w'=w:=by
 have hl:=waa (ql4 h);clear h;by_cases h1:0<=k
 ·have hd1:decide (0<=k)=true:=decide_eq_true h1
  rw[hd1];go_enter Tryz.func379,Tryz.ntmps379;go_wp2_with (go_at_call 125;go_loud (refine hl.out.mono ?_;rintro e w1 ⟨rfl,hw1⟩;subst hw1))
  go_ret;exact⟨by simp,rfl⟩
 ·have hd1:decide (0<=k)=false:=decide_eq_false h1
  rw[hd1];go_enter Tryz.func379,Tryz.ntmps379;go_wp2_with fail;go_ret;exact⟨rfl,rfl⟩
theorem qpi(h:LkR w p g n L)(k:Int){b:Bool}(hb:(decide (0<=k)&&decide (k<(n:Int)))=b):Calls Tryz.prog 379 #[.pointer (some ⟨p,0,none⟩),.int .i64 k] w λe w'=>e= .returned (.bool b)/\w'=w:=by
 have:=qnh h k
 rwa [hb] at this
def Free(L:List Int):Prop:=∀x∈L,-1<=x
theorem qqb(h:LkR w p g n L)(k:Int):Calls Tryz.prog 381 #[.pointer (some ⟨p,0,none⟩),.int .i64 k] w λe w'=>e= .returned (.int .i64 (if 0<=k/\k<(n:Int) then L[k.toNat]?.getD 0 else -1))/\w'=w:=by
 obtain⟨c,st,c0,c1,f1⟩:=h.cells;by_cases hk:0<=k/\k<(n:Int)
 ·rw[if_pos hk]
  obtain⟨j,rfl⟩:∃j:Nat,k=(j:Int):=waq hk.1;have hh:=waa (qpi h (j:Int) (b:=true) Zx);obtain⟨y0,-⟩:=h.cell (k:=j) Zo;rw[wao];generalize L[j]?.getD 0=y at y0 ⊢;obtain⟨z0,z1⟩:=hk;clear h;go_enter Tryz.func381,Tryz.ntmps381;go_wp2_with (go_at_call 379;go_loud (refine hh.out.mono ?_;rintro e w1 ⟨rfl,hw1⟩;subst hw1))
  go_ret;exact⟨rfl,rfl⟩
 ·rw[if_neg hk]
  have hh:=waa (qpi h k (b:=false) Zx);clear h hk;go_enter Tryz.func381,Tryz.ntmps381;go_wp2_with (go_at_call 379;go_loud (refine hh.out.mono ?_;rintro e w1 ⟨rfl,hw1⟩;subst hw1))
  go_ret;exact⟨rfl,rfl⟩
def qix(w:World)(a b p:Nat)(who:Int):Prop:=Boxed w a 55 (.pointer (some ⟨p,0,none⟩))/\Boxed w b 3 (.int .i64 who)
theorem ql1(p:Nat)(who:Int)(w:World):Calls Tryz.prog 349 #[.pointer (some ⟨p,0,none⟩),.int .i64 who] w λe w'=>∃a b,e= .returned (.func (.func 380) #[] #[.pointer (some ⟨a,0,none⟩),.pointer (some ⟨b,0,none⟩)])/\qix w' a b p who/\Below w.heap.size w w':=by
 have hmf:∀(fn:Fn) (first cap:Array Value) (w:World),(Instr.makeFunc fn first cap).run Tryz.prog w= .ok (.func fn first cap) w:=λ_ _ _ _=>rfl
 have hB:=waa (((wai w.heap.size w).alloc (wah _) (.cells #[.pointer (some ⟨p,0,none⟩)] 55)).alloc Zs (.cells #[.int .i64 who] 3));have hH:qix ((w.alloc (.cells #[.pointer (some ⟨p,0,none⟩)] 55)).alloc (.cells #[.int .i64 who] 3)) w.heap.size (w.heap.size+1) p who:=⟨qag (qad rfl _ _) _,qad Zs _ _⟩
 have hH:=waa hH;go_enter Tryz.func349,Tryz.ntmps349;go_wp2_with fail;go_ret;exact⟨_,_,rfl,hH.out,hB.out⟩
theorem qjz(h:LkR w p g n L){a b:Nat}{who:Int}(hH:qix w a b p who)(k:Int):Calls Tryz.prog 380 #[.int .i64 k,.pointer (some ⟨a,0,none⟩),.pointer (some ⟨b,0,none⟩)] w λe w'=>e= .returned (.bool ((if 0<=k/\k<(n:Int) then L[k.toNat]?.getD 0 else -1)==who))/\∃m,w'=w.drewN m:=by
 have hO:=waa (λt=>(show LkR (w.drewN t) p g n L from h));obtain⟨ha,hb⟩:=hH;have y0:=ha.cell;have y1:=hb.cell;have y2:∀t,(w.drewN t).cell? ⟨a,0,none⟩=some (.pointer (some ⟨p,0,none⟩)):=λt=>y0
 have y3:∀t,(w.drewN t).cell? ⟨b,0,none⟩=some (.int .i64 who):=λt=>y1
 have hc:=waa (λt=>qqb (hO.out t) k);generalize (if 0<=k/\k<(n:Int) then L[k.toNat]?.getD 0 else -1)=o at hc;clear h ha hb;go_enter Tryz.func380,Tryz.ntmps380;go_wp2_with fail;go_quiet ((go_at_call 381;exact qcn ((hc.out _).mono λ_ _ ⟨he,hm⟩=>⟨he,hm.symm⟩)))
 go_wp2_with fail;go_ret;exact⟨rfl,_,rfl⟩
theorem qhi(h:LkR w p g n L)(k who:Int){b:Bool}(hb:(decide (0<=k)&&decide (k<(n:Int))&&decide (0<=who))=b):Calls Tryz.prog 348 #[.pointer (some ⟨p,0,none⟩),.int .i64 k,.int .i64 who] w λe w'=>e= .returned (.bool b)/\w'=w:=by
 subst hb;have hl:=waa (qnh h k);clear h;generalize (decide (0<=k)&&decide (k<(n:Int)))=c at hl;cases c
 ·go_enter Tryz.func348,Tryz.ntmps348
  go_wp2_with (go_at_call 379;go_loud (refine hl.out.mono ?_;rintro e w1 ⟨rfl,hw1⟩;subst hw1))
  go_ret;exact⟨by simp,rfl⟩
 ·go_enter Tryz.func348,Tryz.ntmps348
  go_wp2_with (go_at_call 379;go_loud (refine hl.out.mono ?_;rintro e w1 ⟨rfl,hw1⟩;subst hw1))
  go_ret;exact⟨by simp,rfl⟩
theorem qsx(h:LkR w p g n L)(hF:Free L)(k who:Int):
  Calls Tryz.prog 308 #[.pointer (some ⟨p,0,none⟩),.int .i64 k,.int .i64 who] w λe w'=>e= .returned (.int .i64 (qb7 L n k who))/\LkR w' p g n (qcy L n k who)/\Upd (tbF p g) w w':=by
 have hU:=waa (Upd.refl (tbF p g) w);have hln:=h.len;have hlt:=h.lts;have hS:∀V:World,Upd (λ_=>False) w V->LkR V p g n L:=λV hu=>h.upd hu (λe=>e) (λe=>e)
 by_cases hk:0<=k/\k<(n:Int)/\0<=who
 ·have hm:=waa (qhi h k who (b:=true) Zx)
  have hhb:=waa (ql1 p (-1) w);obtain⟨j,rfl⟩:∃j:Nat,k=(j:Int):=waq hk.1;obtain⟨z0,z1,z2⟩:=hk;have hFj:-1<=L[j]?.getD 0:=by
   have hjl:j<L.length:=Zo
   rw[wan hjl];exact hF _ (wb4 hjl)
  have hO:(if 0<=(j:Int)/\(j:Int)<(n:Int) then L[((j:Nat):Int).toNat]?.getD 0 else -1)=L[j]?.getD 0:=by rw[if_pos ⟨z0,z1⟩,wao]
  have hcl:=waa (λ(V:World) (a b:Nat) (hV:LkR V p g n L) (hH:qix V a b p (-1))=>qjz hV hH (j:Int));rw[hO] at hcl;by_cases h4:0<=L[j]?.getD 0
  ·have hc:qb7 L n (j:Int) who=5:=by unfold qb7;rw[if_neg Zo,wao,if_pos h4]
   have hl:qcy L n (j:Int) who=L:=if_neg (by rw[hc];decide);rw[hc,hl];generalize L[j]?.getD 0=y at h4 hFj hcl;have hd4:(y==-1)=false:=by simp;omega
   rw[hd4] at hcl;have hS:=waa hS;clear hc hl h hF hFj h4 hd4 hO hlt hln;go_enter Tryz.func308,Tryz.ntmps308;go_wp2_with fail;refine hm.out.mono ?_;rintro e w1 ⟨rfl,hw1⟩;subst hw1;go_wp2_with fail;refine hhb.out.mono ?_;rintro e w2 ⟨a,b,rfl,hH,hB⟩;have hU2:=waa (Upd.of_below (F:=λ_=>False) hB (wah _));have hcl2:=waa (hcl.out _ _ _ (hS.out _ hU2.out) hH);clear hH hB;go_wp2_with fail;refine hcl2.out.mono ?_;rintro e w3 ⟨rfl,m,hw3⟩;have hU3:=waa (show Upd (λ_=>False) w1 w3 from hw3▸hU2.out.drewN m);clear hw3;go_wp2_with fail;go_ret;exact⟨rfl,hS.out _ hU3.out,hU3.out.mono (λ_ e=>e.elim)⟩
  ·have hc:qb7 L n (j:Int) who=0:=by unfold qb7;rw[if_neg Zo,wao,if_neg h4]
   have hl:qcy L n (j:Int) who=L.set j who:=by unfold qcy;rw[if_pos hc,wao]
   rw[hc,hl];have hjn:j<n:=Zo
   have hy:L[j]?.getD 0= -1:=Zo
   rw[hy] at hcl;have hd4:((-1:Int)==-1)=true:=by decide
   rw[hd4] at hcl;have hS:=waa hS;clear hc hl h hF hFj h4 hd4 hO hy hlt hln;go_enter Tryz.func308,Tryz.ntmps308;go_wp2_with fail;refine hm.out.mono ?_;rintro e w1 ⟨rfl,hw1⟩;subst hw1;go_wp2_with fail;refine hhb.out.mono ?_;rintro e w2 ⟨a,b,rfl,hH,hB⟩;have hU2:=waa (Upd.of_below (F:=λ_=>False) hB (wah _));have hcl2:=waa (hcl.out _ _ _ (hS.out _ hU2.out) hH);clear hH hB;go_wp2_with fail;refine hcl2.out.mono ?_;rintro e w3 ⟨rfl,m,hw3⟩;have hU3:=waa (show Upd (λ_=>False) w1 w3 from hw3▸hU2.out.drewN m);clear hw3;have hT:=hS.out _ hU3.out;obtain⟨c,st,c0,c1,f1⟩:=hT.cells;obtain⟨y0,y1⟩:=hT.cell (k:=j) hjn;have hR2:=hT.set j who;obtain⟨c',st',d0,d1,e1⟩:=hR2.cells;have hat:=waa (qrf d1 e1 1);have hK:=waa (λs=>hR2.count s);have hU4:=waa (λv:Value=>((hU3.out.mono (G:=tbF p g) (λ_ e=>e.elim)).setCell (p:=⟨g,j,none⟩) (.inl (.inr rfl)) (.int .i64 who)).setCell (p:=⟨p,1,none⟩) (.inl (.inl rfl)) v);generalize L[j]?.getD 0=y at y0;clear hT hR2 d0 c1 f1 d1 e1 hU2 hcl2;go_wp2_with (go_at_call 350;go_loud (refine hat.out.mono ?_;rintro e w4 ⟨s1,rfl,hw4⟩;have hw4:=waa hw4))
   go_ret;have hw:=hw4.out;subst hw;exact⟨rfl,hK.out _,hU4.out _⟩
 ·have hc:qb7 L n k who=1:=if_pos Zo
  have hl:qcy L n k who=L:=if_neg (by rw[hc];decide);rw[hc,hl];have hm:=waa (qhi h k who (b:=false) Zx);have hK:=waa h;clear hc hl h hF hk hln hlt hS;go_enter Tryz.func308,Tryz.ntmps308;go_wp2_with (go_at_call 348;go_loud (refine hm.out.mono ?_;rintro e w1 ⟨rfl,hw1⟩;subst hw1))
  go_ret;exact⟨rfl,hK.out,hU.out⟩
theorem qq6(h:LkR w p g n L)(k who:Int):
  Calls Tryz.prog 310 #[.pointer (some ⟨p,0,none⟩),.int .i64 k,.int .i64 who] w λe w'=>e= .returned (.int .i64 (qeg L n k who))/\LkR w' p g n (qcj L n k who)/\Upd (tbF p g) w w':=by
 have hU:=waa (Upd.refl (tbF p g) w);have hln:=h.len;have hlt:=h.lts;have hS:∀V:World,Upd (λ_=>False) w V->LkR V p g n L:=λV hu=>h.upd hu (λe=>e) (λe=>e)
 by_cases hk:0<=k/\k<(n:Int)/\0<=who
 ·have hm:=waa (qhi h k who (b:=true) Zx)
  have hhb:=waa (ql1 p who w);obtain⟨j,rfl⟩:∃j:Nat,k=(j:Int):=waq hk.1;obtain⟨z0,z1,z2⟩:=hk;have hO:(if 0<=(j:Int)/\(j:Int)<(n:Int) then L[((j:Nat):Int).toNat]?.getD 0 else -1)=L[j]?.getD 0:=by rw[if_pos ⟨z0,z1⟩,wao]
  have hcl:=waa (λ(V:World) (a b:Nat) (hV:LkR V p g n L) (hH:qix V a b p who)=>qjz hV hH (j:Int));rw[hO] at hcl;by_cases h4:L[j]?.getD 0=who
  ·have hc:qeg L n (j:Int) who=0:=by unfold qeg;rw[if_neg Zo,wao,if_pos h4]
   have hl:qcj L n (j:Int) who=L.set j (-1):=by unfold qcj;rw[if_pos hc,wao]
   rw[hc,hl];have hjn:j<n:=Zo
   have hd4:(L[j]?.getD 0==who)=true:=by simp[h4]
   rw[hd4] at hcl;have hS:=waa hS;clear hc hl h h4 hd4 hO hlt hln;go_enter Tryz.func310,Tryz.ntmps310;go_wp2_with fail;refine hm.out.mono ?_;rintro e w1 ⟨rfl,hw1⟩;subst hw1;go_wp2_with fail;refine hhb.out.mono ?_;rintro e w2 ⟨a,b,rfl,hH,hB⟩;have hU2:=waa (Upd.of_below (F:=λ_=>False) hB (wah _));have hcl2:=waa (hcl.out _ _ _ (hS.out _ hU2.out) hH);clear hH hB;go_wp2_with fail;refine hcl2.out.mono ?_;rintro e w3 ⟨rfl,m,hw3⟩;have hU3:=waa (show Upd (λ_=>False) w1 w3 from hw3▸hU2.out.drewN m);clear hw3;have hT:=hS.out _ hU3.out;obtain⟨c,st,c0,c1,f1⟩:=hT.cells;obtain⟨y0,y1⟩:=hT.cell (k:=j) hjn;have hR2:=waa (hT.set j (-1));have hU4:=waa ((hU3.out.mono (G:=tbF p g) (λ_ e=>e.elim)).setCell (p:=⟨g,j,none⟩) (.inl (.inr rfl)) (.int .i64 (-1)));generalize L[j]?.getD 0=y at y0;clear hT c1 f1 hU2 hcl2;go_wp2_with fail;go_ret;exact⟨rfl,hR2.out,hU4.out⟩
  ·have hc:qeg L n (j:Int) who=6:=by unfold qeg;rw[if_neg Zo,wao,if_neg h4]
   have hl:qcj L n (j:Int) who=L:=if_neg (by rw[hc];decide);rw[hc,hl];generalize L[j]?.getD 0=y at h4 hcl;have hd4:(y==who)=false:=by simp[h4]
   rw[hd4] at hcl;have hS:=waa hS;clear hc hl h h4 hd4 hO hlt hln;go_enter Tryz.func310,Tryz.ntmps310;go_wp2_with fail;refine hm.out.mono ?_;rintro e w1 ⟨rfl,hw1⟩;subst hw1;go_wp2_with fail;refine hhb.out.mono ?_;rintro e w2 ⟨a,b,rfl,hH,hB⟩;have hU2:=waa (Upd.of_below (F:=λ_=>False) hB (wah _));have hcl2:=waa (hcl.out _ _ _ (hS.out _ hU2.out) hH);clear hH hB;go_wp2_with fail;refine hcl2.out.mono ?_;rintro e w3 ⟨rfl,m,hw3⟩;have hU3:=waa (show Upd (λ_=>False) w1 w3 from hw3▸hU2.out.drewN m);clear hw3;go_wp2_with fail;go_ret;exact⟨rfl,hS.out _ hU3.out,hU3.out.mono (λ_ e=>e.elim)⟩
 ·have hc:qeg L n k who=1:=if_pos Zo
  have hl:qcj L n k who=L:=if_neg (by rw[hc];decide);rw[hc,hl];have hm:=waa (qhi h k who (b:=false) Zx);have hK:=waa h;clear hc hl h hk hln hlt hS;go_enter Tryz.func310,Tryz.ntmps310;go_wp2_with (go_at_call 348;go_loud (refine hm.out.mono ?_;rintro e w1 ⟨rfl,hw1⟩;subst hw1))
  go_ret;exact⟨rfl,hK.out,hU.out⟩
theorem qtd{L:List Int}{t:Nat}(h:t<L.length):(List.replicate t (-1:Int)++L.drop t).set t (-1)=List.replicate (t+1) (-1)++L.drop (t+1):=by
 rw[wbl h,wef _ _ Zs,wa0,wce,wae,List.replicate_succ',wbi];rfl
theorem qtb(h:LkR w p g n L):
  Calls Tryz.prog 67 #[.pointer (some ⟨p,0,none⟩)] w λe w'=>e= .returned (.tuple #[])/\LkR w' p g n (List.replicate n (-1))/\Upd (tbF p g) w w':=by
 obtain⟨c,st,c0,c1,f1⟩:=h.cells;have hl:=h.len;have hU:=waa (Upd.refl (tbF p g) w);have h0:LkR w p g n (List.replicate 0 (-1)++L.drop 0):=by simpa using h
 have h0:=waa h0;clear h;have hle:=waa (ql4 h0.out);go_enter Tryz.func67,Tryz.ntmps67;go_wp2_with fail;refine hle.out.mono ?_;rintro e w1 ⟨rfl,hw1⟩;subst hw1;go_wp2_with fail;go_loopg [5,2] n (λk s5 s2 wr=>∃t:Nat,s5= .int .i64 (t:Int)/\n - t<=k/\t<=n/\Hid (LkR wr p g n (List.replicate t (-1)++L.drop t))/\Hid (Upd (tbF p g) w1 wr))
 case atStart=>exact⟨0,rfl,Zo,Zo,h0,hU⟩
 case round=>
  obtain⟨t,rfl,hkt,ht,hT,hU⟩:=hrel;obtain⟨c',st,c0,c1,f1⟩:=hT.out.cells;by_cases hlt:t<n
  ·obtain⟨y0,y1⟩:=hT.out.cell hlt
   have hT1:=hT.out.set t (-1);rw[qtd (show t<L.length by omega)] at hT1;have hT1:=waa hT1;have hU1:=waa (hU.out.setCell (p:=⟨g,t,none⟩) (.inl (.inr rfl)) (.int .i64 (-1)));generalize (List.replicate t (-1)++L.drop t)[t]?.getD 0=y at y0;have z0:(0:Int)<=(t:Int):=Zo
   have z1:(t:Int)<(n:Int):=Zo
   go_wp2_with fail;go_roundg (n - (t+1))
   case measure=>omega
   case rel=>exact⟨t+1,by go_num,Zo,Zo,hT1,hU1⟩
  ·obtain rfl:t=n:=Zo
   have hfin:=hT.out;rw[weh Zo,wba] at hfin;have hfin:=waa hfin;go_wp2_with fail
   first|go_end0|go_ret
   exact⟨rfl,hfin.out,hU.out⟩
end
theorem qxz(k:Nat)(h1:1<=k)(h2:k<=16)(w:World):
  Calls Tryz.prog 36 #[.int .i64 (k:Int)] w λe w'=>(∃p g,e= .returned (.pointer (some ⟨p,0,none⟩))/\w.heap.size<=p/\w.heap.size<=g/\LkR w' p g k (List.replicate k (-1)))/\Below w.heap.size w w':=by
 have hmk:=qkf k Zo;have hB0:=((wai w.heap.size w).alloc (wah _) (.cells (i64V (List.replicate k 0)).toArray 3)).alloc Zs (.cells #[.slice (some ⟨w.heap.size,0,none⟩) k k,.int .i64 0] 149);have hT0:LkR ((w.alloc (.cells (i64V (List.replicate k 0)).toArray 3)).alloc (.cells #[.slice (some ⟨w.heap.size,0,none⟩) k k,.int .i64 0] 149)) (w.heap.size+1) w.heap.size k (List.replicate k 0):=
  ⟨k,0,Zo,⟨h1,h2⟩,qad Zs _ _,qws Zo (qag (qad rfl _ _) _)⟩
 have hdr:=waa (qtb hT0);have hB0:=waa hB0;have z1:¬(k:Int)<1:=Zo
 have z2:¬16<(k:Int):=Zo
 have d1:decide ((k:Int)<1)=false:=decide_eq_false z1;have d2:decide (16<(k:Int))=false:=decide_eq_false z2;clear hT0;go_enter Tryz.func36,Tryz.ntmps36;go_wp2_with (go_at_call 67;go_loud (refine hdr.out.mono ?_;rintro e w1 ⟨rfl,hT,hU⟩;have hT:=waa hT;have hU:=waa hU))
 go_ret;refine⟨⟨_,_,rfl,wcf _,wah _,hT.out⟩,hB0.out.trans ((hU.out.below (B:=w.heap.size) ?_ hB0.out.size).mono (wah _))⟩;rintro j (rfl|rfl)
 ·exact wcf _
 ·exact wah _
def PsR(w:World)(p gs gk m n tp tg nl C:Nat)(D:DM):Prop:=
 (∃f,RegQ w 0 p n C gs gk m D.S D.K f/\Alike n f D.N D.B)/\LkR w tp tg nl D.L/\Free D.L/\D.N.length=n*8/\D.B.length=n/\(∀x∈D.S,x<18446744073709551616)
def psF(p gs gk m tp tg:Nat)(k:Nat):Prop:=rgF p gs gk m k\/tbF tp tg k
def doF(n nl:Nat)(who:Int)(kind:Nat)(a:Int)(x:Nat)(D:DM):Option (Nat×DM):=
 if kind=0 then some (0,{D with S:=if qay n a then D.S.set a.toNat x else D.S})
 else if kind=1 then some (if qay n a then D.S[a.toNat]?.getD 0 else 0,D)
 else if kind=2 then some (0,{D with N:=if qay n a then qdy D.N D.S (a.toNat/8*8) 8 else D.N,B:=if qay n a then D.B.set (a.toNat/8) true else D.B})
 else if kind=3 then some (0,{D with K:=fenL D.K D.N D.B (n*8),B:=List.replicate n false})
 else if kind=4 then(if qb7 D.L nl a who=0 then some (0,{D with L:=qcy D.L nl a who}) else none)
 else if kind=5 then some (0,{D with L:=qcj D.L nl a who})
 else some (x,D)
section
variable {w w':World} {p gs gk m n tp tg nl C:Nat} {D:DM} {G:Nat->Prop}
theorem RegQ.more{base c d:Nat}{S K:List Nat}{f:Nat->Option (List Nat)}(h:RegQ w base p n c gs gk m S K f)(hd:c<=d):RegQ w base p n d gs gk m S K f:=by
 obtain⟨cs,ck,st,D,h1,h2,h3,h4,h5,h6,h6',hp,hs,hk,hm,hD⟩:=h;exact⟨cs,ck,st,D,h1,h2,h3,h4,h5,h6,h6',hp,hs,hk,hm.mono hd,hD⟩
theorem RegQ.lower{base c:Nat}{S K:List Nat}{f:Nat->Option (List Nat)}(h:RegQ w base p n c gs gk m S K f):RegQ w 0 p n c gs gk m S K f:=by
 obtain⟨cs,ck,st,D,h1,h2,h3,h4,h5,h6,h6',hp,hs,hk,hm,hD⟩:=h;exact⟨cs,ck,st,D,wat _,wat _,h3,h4,h5,h6,h6',hp,qbb hs (wat _),qbb hk (wat _),hm,hD⟩
theorem RegQ.words{base c:Nat}{S K:List Nat}{f:Nat->Option (List Nat)}(h:RegQ w base p n c gs gk m S K f):S.length=n*8/\K.length=n*8/\(∀x∈S,x<18446744073709551616)/\n<=2048:=by
 have hl:=h.reg.len;have hb:=h.reg.lt;obtain⟨cs,ck,st,D,h1,h2,h3,h4,h5,h6,h6',hp,hs,hk,hm,hD,hS,hK⟩:=h;exact⟨hl.1,hl.2,hS,hb.2.2.1⟩
theorem RegQ.not{base c b:Nat}{S K:List Nat}{f:Nat->Option (List Nat)}{Cs:Array Value}{t:TypeId}{fr:Nat×Nat}(h:RegQ w base p n c gs gk m S K f)(hb:w.heap[b]? =some (.cells Cs t fr))(h1:t≠103)(h2:t≠130):¬rgF p gs gk m b:=by
 obtain⟨cs,ck,st,D,_,_,_,_,_,_,_,hp,hs,hk,hm,_⟩:=h;rintro(rfl|rfl|rfl|rfl)
 ·exact qaq hb hp h1 rfl
 ·exact qao hb h2 hs rfl
 ·exact qao hb h2 hk rfl
 ·obtain⟨es,clock,a1,a2⟩:=hm
  rw[hb] at a1;cases a1
theorem LkR.apart{base c:Nat}{S K:List Nat}{f:Nat->Option (List Nat)}{L:List Int}(h:LkR w tp tg nl L)(hR:RegQ w base p n c gs gk m S K f):∀k,tbF tp tg k->¬rgF p gs gk m k:=by
 obtain⟨c,st,hne,hn,hp,ho⟩:=h;rintro k (rfl|rfl)
 ·exact hR.not hp Zd Zd
 ·rcases ho.2 with ⟨e,_⟩|⟨g,cap,cur,e,_,hg,_⟩
  ·cases e
  ·injection e with e;injection e with e;injection e with e
   subst e;exact hR.not hg Zd Zd
theorem PsR.more{C':Nat}(h:PsR w p gs gk m n tp tg nl C D)(hC:C<=C'):PsR w p gs gk m n tp tg nl C' D:=by
 obtain⟨⟨f,h1,h2⟩,h3⟩:=h;exact⟨⟨f,h1.more hC,h2⟩,h3⟩
theorem PsR.lts(h:PsR w p gs gk m n tp tg nl C D){k:Nat}(hk:psF p gs gk m tp tg k):k<w.heap.size:=by
 obtain⟨⟨f,h1,h2⟩,h3,_⟩:=h;rcases hk with hk|hk
 ·exact(h1.own k hk).2
 ·rcases hk with rfl|rfl
  ·exact h3.lts.1
  ·exact h3.lts.2
theorem PsR.upd(h:PsR w p gs gk m n tp tg nl C D)(hu:Upd G w w')(hG:∀k,psF p gs gk m tp tg k->¬G k):PsR w' p gs gk m n tp tg nl C D:=by
 obtain⟨⟨f,h1,h2⟩,h3,h4⟩:=h;exact⟨⟨f,h1.upd hu (λk hk=>hG k (.inl hk)),h2⟩,h3.upd hu (hG _ (.inr (.inl rfl))) (hG _ (.inr (.inr rfl))),h4⟩
theorem qg4{a:Int}(h:qay n a=true):∃j:Nat,a=(j:Int)/\j<n*8:=by
 obtain⟨j,rfl⟩:∃j:Nat,a=(j:Int):=waq (by simp[qay] at h;omega);exact⟨j,rfl,by simp[qay] at h;omega⟩
theorem qia{a:Int}(h:qay n a=false):¬(0<=a/\a<(n:Int)*8):=by
 simp[qay] at h
 omega
theorem q1r(h:PsR w p gs gk m n tp tg nl C D)(a:Int){x:Nat}(hx:x<18446744073709551616):
  Calls Tryz.prog 283 #[.pointer (some ⟨p,0,none⟩),.int .i64 a,.int .u64 (x:Int)] w λe w'=>(∃c,e= .returned (.int .i64 c))/\PsR w' p gs gk m n tp tg nl C {D with S:=if qay n a then D.S.set a.toNat x else D.S}/\Upd (psF p gs gk m tp tg) w w':=by
 obtain⟨⟨f,h1,h2⟩,h3,h4,h5,h6,h7⟩:=h;have hap:=h3.apart h1;cases hb:qay n a with
 |true=>
  obtain⟨j,rfl,hj⟩:=qg4 hb;refine(quo h1 hj hx).mono ?_;rintro e w' ⟨he,hr,hu⟩;exact⟨⟨_,he⟩,⟨⟨f,hr,h2⟩,h3.upd hu (hap _ (.inl rfl)) (hap _ (.inr rfl)),h4,h5,h6,λy hy=>(wdl hy).elim (h7 y) (λe=>e▸hx)⟩,hu.mono (λk e=> .inl e)⟩
 |false=>
  refine(qqp h1 (qia hb) (x:Int)).mono ?_;rintro e w' ⟨he,hr,hu⟩;exact⟨⟨_,he⟩,⟨⟨f,hr,h2⟩,h3.upd hu (hap _ (.inl rfl)) (hap _ (.inr rfl)),h4,h5,h6,h7⟩,hu.mono (λk e=> .inl e)⟩
theorem q2p(h:PsR w p gs gk m n tp tg nl C D)(a:Int):
  Calls Tryz.prog 326 #[.pointer (some ⟨p,0,none⟩),.int .i64 a] w λe w'=>(∃c,e= .returned (.tuple #[.int .u64 ((if qay n a then D.S[a.toNat]?.getD 0 else 0:Nat):Int),.int .i64 c]))/\PsR w' p gs gk m n tp tg nl C D/\Upd (psF p gs gk m tp tg) w w':=by
 obtain⟨⟨f,h1,h2⟩,h3,h4,h5,h6,h7⟩:=h;have hap:=h3.apart h1;cases hb:qay n a with
 |true=>
  obtain⟨j,rfl,hj⟩:=qg4 hb;refine(qx3 h1 hj).mono ?_;rintro e w' ⟨x,hx,he,hr,hu⟩;refine⟨⟨0,he.trans ?_⟩,⟨⟨f,hr,h2⟩,h3.upd hu (hap _ (.inl rfl)) (hap _ (.inr rfl)),h4,h5,h6,h7⟩,hu.mono (λk e=> .inl e)⟩;rw[if_pos rfl,wao,hx];rfl
 |false=>
  refine(qsy h1 (qia hb)).mono ?_;rintro e w' ⟨he,hr,hu⟩;exact⟨⟨_,he⟩,⟨⟨f,hr,h2⟩,h3.upd hu (hap _ (.inl rfl)) (hap _ (.inr rfl)),h4,h5,h6,h7⟩,hu.mono (λk e=> .inl e)⟩
theorem q1t(h:PsR w p gs gk m n tp tg nl C D)(hC:C<maxLen)(a:Int):
  Calls Tryz.prog 333 #[.pointer (some ⟨p,0,none⟩),.int .i64 a] w λe w'=>(∃c,e= .returned (.int .i64 c))/\PsR w' p gs gk m n tp tg nl (C+1) {D with N:=if qay n a then qdy D.N D.S (a.toNat/8*8) 8 else D.N,B:=if qay n a then D.B.set (a.toNat/8) true else D.B}/\Upd (psF p gs gk m tp tg) w w':=by
 obtain⟨⟨f,h1,h2⟩,h3,h4,h5,h6,h7⟩:=h;have hap:=h3.apart h1;cases hb:qay n a with
 |true=>
  obtain⟨j,rfl,hj⟩:=qg4 hb;refine(quz h1 hC hj).mono ?_;rintro e w' ⟨he,hr,hu⟩;refine⟨⟨_,he⟩,⟨⟨_,hr,?_⟩,h3.upd hu (hap _ (.inl rfl)) (hap _ (.inr rfl)),h4,?_,?_,h7⟩,hu.mono (λk e=> .inl e)⟩
  ·simp only[if_true,wao]
   exact h2.flush h5 h1.words.1 h6 Zo
  ·simp only[if_true]
   rw[qs8];exact h5
  ·simp only[if_true]
   rw[weo];exact h6
 |false=>
  refine(qsc h1 (qia hb)).mono ?_;rintro e w' ⟨he,hr,hu⟩;exact⟨⟨_,he⟩,⟨⟨f,hr.more Zo,h2⟩,h3.upd hu (hap _ (.inl rfl)) (hap _ (.inr rfl)),h4,h5,h6,h7⟩,hu.mono (λk e=> .inl e)⟩
theorem q1q(h:PsR w p gs gk m n tp tg nl C D):
  Calls Tryz.prog 335 #[.pointer (some ⟨p,0,none⟩)] w λe w'=>(∃c,e= .returned (.int .i64 c))/\PsR w' p gs gk m n tp tg nl C {D with K:=fenL D.K D.N D.B (n*8),B:=List.replicate n false}/\Upd (psF p gs gk m tp tg) w w':=by
 obtain⟨⟨f,h1,h2⟩,h3,h4,h5,h6,h7⟩:=h;have hap:=h3.apart h1;refine(qqc h1).mono ?_;rintro e w' ⟨K',hK,he,hr,hu⟩;have hK':=h2.fence h5 h1.words.2.1 hr.words.2.1 hK;subst hK';exact⟨⟨_,he⟩,⟨⟨_,hr,Alike.none n D.N⟩,h3.upd hu (hap _ (.inl rfl)) (hap _ (.inr rfl)),h4,h5,by simp,h7⟩,hu.mono (λk e=> .inl e)⟩
theorem quw{L:List Int}(h:Free L)(k who:Int):Free (qcy L nl k who):=by
 by_cases hc:qb7 L nl k who=0
 ·have hw:0<=who:=by
   by_cases h1:k<0\/(nl:Int)<=k\/who<0
   ·unfold qb7 at hc
    rw[if_pos h1] at hc;cases hc
   ·omega
  rw[show qcy L nl k who=L.set k.toNat who from if_pos hc];intro x hx;exact(wdl hx).elim (h x) (λe=>by omega)
 ·rw[show qcy L nl k who=L from if_neg hc]
  exact h
theorem qqd{L:List Int}(h:Free L)(k who:Int):Free (qcj L nl k who):=by
 unfold qcj;split
 ·intro x hx
  exact(wdl hx).elim (h x) (λe=>by omega)
 ·exact h
theorem qy1(h:PsR w p gs gk m n tp tg nl C D)(k who:Int):
  Calls Tryz.prog 308 #[.pointer (some ⟨tp,0,none⟩),.int .i64 k,.int .i64 who] w λe w'=>e= .returned (.int .i64 (qb7 D.L nl k who))/\PsR w' p gs gk m n tp tg nl C {D with L:=qcy D.L nl k who}/\Upd (psF p gs gk m tp tg) w w':=by
 obtain⟨⟨f,h1,h2⟩,h3,h4,h5,h6,h7⟩:=h;have hap:=h3.apart h1;refine(qsx h3 h4 k who).mono ?_;rintro e w' ⟨he,hr,hu⟩;exact⟨he,⟨⟨f,h1.upd hu (λk hk e=>hap k e hk),h2⟩,hr,quw h4 k who,h5,h6,h7⟩,hu.mono (λk e=> .inr e)⟩
theorem q1p(h:PsR w p gs gk m n tp tg nl C D)(k who:Int):
  Calls Tryz.prog 310 #[.pointer (some ⟨tp,0,none⟩),.int .i64 k,.int .i64 who] w λe w'=>e= .returned (.int .i64 (qeg D.L nl k who))/\PsR w' p gs gk m n tp tg nl C {D with L:=qcj D.L nl k who}/\Upd (psF p gs gk m tp tg) w w':=by
 obtain⟨⟨f,h1,h2⟩,h3,h4,h5,h6,h7⟩:=h;have hap:=h3.apart h1;refine(qq6 h3 k who).mono ?_;rintro e w' ⟨he,hr,hu⟩;exact⟨he,⟨⟨f,h1.upd hu (λk hk e=>hap k e hk),h2⟩,hr,qqd h4 k who,h5,h6,h7⟩,hu.mono (λk e=> .inr e)⟩
end
end Go.Proofs.YtgjhkafggagniaaGreat
