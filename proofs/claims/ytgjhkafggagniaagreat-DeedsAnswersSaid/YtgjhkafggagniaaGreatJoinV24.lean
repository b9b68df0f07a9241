/- Parts. No condition. -/
import Derived.RegionTactic
import Derived.Deep.RegionHeld3
import Derived.Test.YtgjhkafggagniaaGreatJoinV23
set_option linter.unusedVariables false
set_option maxRecDepth 100000
set_option maxHeartbeats 8000000
namespace Go.Proofs.YtgjhkafggagniaaGreat
open Go Go.RowKit
section
variable {ops:Array Oper} {w:World} {o:Oper} {a:Act} {K:Act->World->Prop} {Q:Exit->Act->World->Prop} {E:Prop}
theorem qcm(hgd:o.guard=none)(s x:Operand)(ho:o.op= .call {callee:= .builtin .append,args:=#[s,x],argTypes:=#[24,24]})(base:Nat)(v:Value)(L:List Int)(hs:a.eval s=v)(hown:RowI w base v L)(ad:Addr)(m c:Nat)(news:List Int)(hx:a.eval x= .slice (some ad) m c)(hm:news.length=m)(h0:0<m)(hnew:∀(j:Nat) (x:Int),news[j]? =some x->w.cell? (ad.add j)=some (Value.int .i64 x))(hL:L.length+m<=1099511627776)(hbase:base<=w.heap.size)(h:∀v' w',RowI w' base v' (L++news)->w.grownBy w' v.ownBlock->(v'.ownBlock=v.ownBlock\/∃g,v'.ownBlock=some g/\w.heap.size<=g)->K (a.put o.dst v') w'):
  if Region.wanted o (yielded ops a.tmps)=true then Oper.wp Tryz.prog o a w K Q else E:=by
 have hw:Region.wanted o (yielded ops a.tmps)=true:=by simp[Region.wanted,hgd]
 rw[if_pos hw];obtain⟨v',w',hr,h2,h3,h4⟩:=qdx o.type hown ad m c news hm h0 hnew hL hbase;unfold Oper.wp execOp;simp only[ho,resolve,invoke,builtin,wcc,wcy,wau,wdr,wds,wdt,hs,hx,hr];exact h v' w' h2 h3 h4
theorem qe5(hgd:o.guard=none)(s x:Operand)(ho:o.op= .call {callee:= .builtin .append,args:=#[s,x],argTypes:=#[24,24]})(base:Nat){g i m c:Nat}{cur:Array Value}{pre news:List Int}(hs:a.eval s= .slice (some ⟨g,0,none⟩) i i)(hh:w.heap[g]? =some (.cells cur 3 (0,0)))(hg:base<=g)(hbase:base<=w.heap.size)(hp:pre.length=i)(hpre:∀(j:Nat) (x:Int),pre[j]? =some x->cur[j]? =some (Value.int .i64 x))(hi:i<=cur.size)(hi2:i<=1000000)(ad:Addr)(hx:a.eval x= .slice (some ad) m c)(hm:news.length=m)(hm2:m<=1000000)(hnew:∀(j:Nat) (x:Int),news[j]? =some x->w.cell? (ad.add j)=some (Value.int .i64 x))(h:∀v' w',RowI w' base v' (pre++news)->w.grownBy w' none->(v'.ownBlock=some g\/∃g',v'.ownBlock=some g'/\w.heap.size<=g')->K (a.put o.dst v') w'):
  if Region.wanted o (yielded ops a.tmps)=true then Oper.wp Tryz.prog o a w K Q else E:=by
 have hw:Region.wanted o (yielded ops a.tmps)=true:=by simp[Region.wanted,hgd]
 rw[if_pos hw];obtain⟨v',w',hr,h2,h3,h4⟩:=qjl o.type hh hg hbase hp hpre hi hi2 ad hm hm2 hnew (c:=c);unfold Oper.wp execOp;simp only[ho,resolve,invoke,builtin,wcc,wcy,wau,wdr,wds,wdt,hs,hx,hr];exact h v' w' h2 h3 h4
end
def qsm(c1 c2:Nat):Value:= .func (.func 354) #[] #[.pointer (some ⟨c1,0,none⟩),.pointer (some ⟨c2,0,none⟩)]
theorem qvb(p q:Addr)(w:World):
  Calls Tryz.prog 316 #[.pointer (some p),.pointer (some q)] w λe w'=>∃c1 c2,e= .returned (qsm c1 c2)/\(w.heap.size<=c1/\w.heap.size<=c2)/\Boxed w' c1 338 (.pointer (some p))/\Boxed w' c2 338 (.pointer (some q))/\Below w.heap.size w w':=by
 have hmf:∀(fn:Fn) (first cap:Array Value) (w:World),(Instr.makeFunc fn first cap).run Tryz.prog w= .ok (.func fn first cap) w:=λ_ _ _ _=>rfl
 have h1:Boxed ((w.alloc (.cells #[.pointer (some p)] 338)).alloc (.cells #[.pointer (some q)] 338)) w.heap.size 338 (.pointer (some p)):=qag (qad rfl _ _) _;have h2:Boxed ((w.alloc (.cells #[.pointer (some p)] 338)).alloc (.cells #[.pointer (some q)] 338)) (w.heap.size+1) 338 (.pointer (some q)):=qad Zs _ _;have hB:=((wai w.heap.size w).alloc (wah _) (.cells #[.pointer (some p)] 338)).alloc Zs (.cells #[.pointer (some q)] 338);replace h1:=waa h1;replace h2:=waa h2;replace hB:=waa hB;go_enter Tryz.func316,Tryz.ntmps316;go_wp2_with fail;go_ret;exact⟨_,_,rfl,⟨Zo,Zo⟩,h1.out,h2.out,hB.out⟩
theorem qdt{w:World}{b o:Nat}{u v:Value}{q:Addr}(h:w.cell? q=some v)(hne:q.block≠b):(w.setCell ⟨b,o,none⟩ u).cell? q=some v:=(wee (wa5 _ _ _ _ hne)).trans h
structure At2 (w:World) (base b o:Nat) (C:Array Value) (t:TypeId) (v:Value) (L:List Int):Prop where
 blk:w.heap[b]? =some (.cells C t (0,0))
 val:C[o]? =some v
 row:RowI w base v L
 ty:t≠3/\t≠338
theorem At2.lt{w:World}{base b o:Nat}{C:Array Value}{t:TypeId}{v:Value}{L:List Int}(h:At2 w base b o C t v L):b<w.heap.size:=(waj.1 h.blk).1
theorem At2.not_row{w:World}{base base' b o:Nat}{C:Array Value}{t:TypeId}{v v':Value}{L L':List Int}(h:At2 w base b o C t v L)(hr:RowI w base' v' L'):v'.ownBlock≠some b:=by
 rcases hr with ⟨rfl,-⟩|⟨g,cap,cur,rfl,-,hh,-⟩
 ·intro e;cases e
 ·intro e
  injection e with e;have e:g=b:=e;subst e;have:=h.blk
  rw[hh] at this;injection this with this;injection this with _ h2 _;exact h.ty.1 h2.symm
theorem qbm{w:World}{base b:Nat}{C:Array Value}{t:TypeId}{v':Value}{L':List Int}(hb:w.heap[b]? =some (.cells C t (0,0)))(ht:t≠3)(hr:RowI w base v' L'):v'.ownBlock≠some b:=by
 rcases hr with ⟨rfl,-⟩|⟨g,cap,cur,rfl,-,hh,-⟩
 ·intro e;cases e
 ·intro e
  injection e with e;have e:g=b:=e;subst e;rw[hh] at hb;injection hb with hb;injection hb with _ h2 _;exact ht h2.symm
theorem qdc{w:World}{base b:Nat}{v' x:Value}{L':List Int}{t:TypeId}(hb:Boxed w b t x)(ht:t≠3)(hr:RowI w base v' L'):v'.ownBlock≠some b:=by
 rcases hr with ⟨rfl,-⟩|⟨g,cap,cur,rfl,-,hh,-⟩
 ·intro e;cases e
 ·intro e
  injection e with e;have e:g=b:=e;subst e;have hb:w.heap[g]? =some (.cells #[x] t (0,0)):=hb;rw[hh] at hb;injection hb with hb;injection hb with _ h2 _;exact ht h2.symm
theorem At2.cell{w:World}{base b o:Nat}{C:Array Value}{t:TypeId}{v:Value}{L:List Int}(h:At2 w base b o C t v L):w.cell? ⟨b,o,none⟩=some v:=by rw[qab h.blk];exact h.val
theorem At2.froz{w:World}{base b o:Nat}{C:Array Value}{t:TypeId}{v:Value}{L:List Int}(h:At2 w base b o C t v L):w.frozen? ⟨b,o,none⟩=false:=qah h.blk o
theorem At2.grown{w w':World}{base b o:Nat}{C:Array Value}{t:TypeId}{v:Value}{L:List Int}{row:Option Nat}(h:At2 w base b o C t v L)(hg:w.grownBy w' row)(hb:some b≠row)(hr:∀g,v.ownBlock=some g->some g≠row):At2 w' base b o C t v L:=
 ⟨(hg.block b h.lt hb).trans h.blk,h.val,h.row.grown hg hr,h.ty⟩
theorem At2.upd{w w':World}{base b o:Nat}{C:Array Value}{t:TypeId}{v:Value}{L:List Int}{F:Nat->Prop}(h:At2 w base b o C t v L)(hu:Upd F w w')(hb:¬F b)(hr:∀g,v.ownBlock=some g->¬F g):At2 w' base b o C t v L:=
 ⟨(hu.block b h.lt hb).trans h.blk,h.val,h.row.upd hu hr,h.ty⟩
theorem At2.set{w:World}{base b o:Nat}{C:Array Value}{t:TypeId}{v:Value}{L:List Int}(h:At2 w base b o C t v L){u:Value}{M:List Int}(hu:RowI w base u M):At2 (w.setCell ⟨b,o,none⟩ u) base b o (C.setIfInBounds o u) t u M:=by
 have ho:=(waj.1 h.val).1;refine⟨by rw[qaj h.blk],by rw[wb1 ho],hu.block (λg hg=>wa5 _ _ _ _ (λe=>?_)),h.ty⟩;have:g=b:=e
 subst this;exact h.not_row hu hg
def Moved(w:World)(base b1 o1 b2 o2:Nat)(C1 C2:Array Value)(t1 t2:TypeId)(v1 v2:Value)(M1 M2:List Int)(w':World):Prop:=
 ∃u1 u2,At2 w' base b1 o1 (C1.setIfInBounds o1 u1) t1 u1 M1/\At2 w' base b2 o2 (C2.setIfInBounds o2 u2) t2 u2 M2/\(u1.ownBlock=v1.ownBlock\/∃g,u1.ownBlock=some g/\w.heap.size<=g)/\(u2.ownBlock=v2.ownBlock\/∃g,u2.ownBlock=some g/\w.heap.size<=g)/\
  (∀g,u1.ownBlock=some g->u2.ownBlock≠some g)/\Upd (λk=>k=b1\/k=b2\/v2.ownBlock=some k) w w'
theorem qd6{w:World}{g o j:Nat}{cur:Array Value}{t:TypeId}{x:Value}(hh:w.heap[g]? =some (.cells cur t (0,0)))(h:cur[o+j]? =some x):w.cell? ((⟨g,o,none⟩:Addr).add j)=some x:=by
 rw[wbg,qab hh];exact h
theorem qm1{w:World}{base c1 c2 b1 o1 b2 o2 i m:Nat}{C1 C2:Array Value}{t1 t2:TypeId}{v1 v2:Value}{L1 L2:List Int}(hc1:Boxed w c1 338 (.pointer (some ⟨b1,o1,none⟩)))(hc2:Boxed w c2 338 (.pointer (some ⟨b2,o2,none⟩)))(h1:At2 w base b1 o1 C1 t1 v1 L1)(h2:At2 w base b2 o2 C2 t2 v2 L2)(hb:b1≠b2)(hap:∀g,v1.ownBlock=some g->v2.ownBlock≠some g)(him:i+m<=L1.length)(hm:0<m)(hL1:L1.length<=500000)(hL2:L2.length<=500000)(hbase:base<=w.heap.size):
  Calls Tryz.prog 354 #[.int .i64 (i:Int),.int .i64 (m:Int),.pointer (some ⟨c1,0,none⟩),.pointer (some ⟨c2,0,none⟩)] w λe w'=>e= .returned (.tuple #[])/\Moved w base b1 o1 b2 o2 C1 C2 t1 t2 v1 v2 (L1.take i++L1.drop (i+m)) (L2++(L1.drop i).take m) w':=by
 have hn1:=h1.not_row h1.row;have hn2:=h1.not_row h2.row;have hn3:=h2.not_row h1.row;have hn4:=h2.not_row h2.row;rcases h1.row with ⟨-,e⟩|⟨g,cap,cur,rfl,hbg,hgh,hlc,hcm,hcs,hcur⟩
 ·rw[e] at him
  simp at him
  omega
 ·have hbc1:b1≠c1:=λe=>by
   have:=hc1;unfold Boxed at this
   subst e;rw[h1.blk] at this;injection this with this;injection this with _ q _;exact h1.ty.2 q
  have hbc2:b1≠c2:=λe=>by
   have:=hc2;unfold Boxed at this
   subst e;rw[h1.blk] at this;injection this with this;injection this with _ q _;exact h1.ty.2 q
  have k1:w.cell? ⟨c1,0,none⟩=some (.pointer (some ⟨b1,o1,none⟩)):=hc1.cell;have k2:w.cell? ⟨c2,0,none⟩=some (.pointer (some ⟨b2,o2,none⟩)):=hc2.cell;have k3:w.cell? ⟨b1,o1,none⟩=some (.slice (some ⟨g,0,none⟩) L1.length cap):=by rw[qab h1.blk];exact h1.val
  obtain⟨k,hk⟩:∃k,k=i+m:=⟨_,rfl⟩
  have z1:IntKind.i64.wrap ((i:Int)+(m:Int))=(k:Int):=by rw[wap _ Zo];omega
  have z2:(0:Int)<=(i:Int):=Zo
  have z3:(i:Int)<=(k:Int):=Zo
  have z4:(k:Int)<=(cap:Int):=Zo
  have z5:(i:Int)<=(cap:Int):=Zo
  have z6:(k:Int)<=(L1.length:Int):=Zo
  have z7:(0:Int)<=(k:Int):=Zo
  have z8:¬cap=i:=Zo
  rw[<-hk] at him ⊢;have hdr:∀(j:Nat) (x:Int),(L1.drop k)[j]? =some x->cur[k+j]? =some (Value.int .i64 x):=λj x hx=>hcur _ x (by rw[wa3] at hx;exact hx)
  have hmid:∀(j:Nat) (x:Int),((L1.drop i).take m)[j]? =some x->cur[i+j]? =some (Value.int .i64 x):=λj x hx=>by
   rw[waw] at hx;split at hx
   ·exact hcur _ x (by rw[wa3] at hx;exact hx)
   ·cases hx
  have hml:((L1.drop i).take m).length=k - i:=by simp;omega
  have hki:0<k - i/\k - i=m:=Zo
  have hp1:(L1.take i).length=i:=by simp;omega
  have hp2:(L1.drop k).length=L1.length - k:=by simp
  generalize hN:L1.length=n at him hL1 hlc k3 z6 hp2 ⊢;replace hN:=waa hN;obtain⟨VA,VC,rfl,hVl,-⟩:=h2.row.shape;have h2l:=h2.lt;have hnc2:(Value.slice VA L2.length VC).ownBlock≠some c2:=qdc hc2 Zd h2.row;have hbc2b:c2≠b2:=λe=>by
   have:=hc2;unfold Boxed at this
   subst e;rw[h2.blk] at this;injection this with this;injection this with _ q _;exact h2.ty.2 q
  generalize hN2:L2.length=N2 at hL2 hVl h2 hap hn2 hn4 hnc2 ⊢;replace hN2:=waa hN2;replace hk:=waa hk;replace hml:=waa hml;replace hp1:=waa hp1;replace hp2:=waa hp2;have hpre:∀(j:Nat) (x:Int),(L1.take i)[j]? =some x->cur[j]? =some (Value.int .i64 x):=λj x hx=>by
   rw[waw] at hx;split at hx
   ·exact hcur j x hx
   ·cases hx
  have h1d:At2 w.drew base b1 o1 C1 t1 (.slice (some ⟨g,0,none⟩) L1.length cap) L1:=⟨h1.blk,h1.val,h1.row,h1.ty⟩
  replace h1d:=waa h1d;have hic:i<=cur.size:=Zo
  have hi6:i<=1000000:=Zo
  have hn6:n - k<=1000000:=Zo
  go_enter Tryz.func354,Tryz.ntmps354;rcases wc6 k cap with hce|hce
  ·have hne:¬cap=k:=Zo
   go_wp2_with fail;go_region_held3 (λV=>V.cell? ⟨c1,0,none⟩=some (.pointer (some ⟨b1,o1,none⟩)))
    (first|with_reducible exact k1|with_reducible exact x0|with_reducible exact y0|go_keep)
    ((refine qe5 Zr _ _ Zr base (g:=g) (i:=i) (m:=n - k) (c:=cap - k) (cur:=cur) (pre:=L1.take i) (news:=L1.drop k) Zr hgh hbg hbase hp1.out hpre hic hi6 ⟨g,k,none⟩ Zr hp2.out Zo (λj x hx=>qd6 hgh (hdr j x hx)) ?_;intro u1 w1 hr1 hgr1 hob1;obtain⟨UA,UC,rfl,hUl,hUR⟩:=hr1.shape;generalize hUNN:(L1.take i++L1.drop k).length=UN at hr1 hob1 hUl ⊢;have x0:=hgr1.cell (a:=⟨c1,0,none⟩) k1 Zs;have hA1:=h1d.out.grown hgr1 Zs Zs;have hc1':=hA1.cell;have hf1':=hA1.froz;have y0:=qdt (w:=w1) (b:=b1) (o:=o1) (u:= .slice UA UN UC) x0 (λe=>hbc1 e.symm)))
   have hB1:=waa (hA1.set hr1);have hgrw:w.grownBy w1 none:=⟨hgr1.os,hgr1.tape,hgr1.output,hgr1.size,hgr1.block⟩
   have hu12:=(Upd.refl (λk=>k=b1) w1).setCell (p:=⟨b1,o1,none⟩) (.inl rfl) (.slice UA UN UC);have huw1:Upd (λ_=>False) w w1:=(Upd.refl _ w).grown hgrw Zs;have hA2:=((h2.upd huw1 (λe=>e) (λ_ _ e=>e)).upd hu12 (λe=>hb e.symm) (λg' hg' e=>hn2 (e▸hg')))
   have k2':(w1.setCell ⟨b1,o1,none⟩ (.slice UA UN UC)).cell? ⟨c2,0,none⟩=some (.pointer (some ⟨b2,o2,none⟩)):=qdt (hgrw.cell k2 Zs) (λe=>hbc2 e.symm);have k4':=hA2.cell;have hgg:(w1.setCell ⟨b1,o1,none⟩ (.slice UA UN UC)).heap[g]? =some (.cells cur 3 (0,0)):=(wa5 w1 ⟨b1,o1,none⟩ (.slice UA UN UC) g (λe=>hn1 (by show some g=some b1;rw[show g=b1 from e]))).trans ((hgrw.block g (waj.1 hgh).1 Zs).trans hgh);have hob1':∀g',(Value.slice UA UN UC).ownBlock=some g'->(Value.slice VA N2 VC).ownBlock≠some g':=λg' e1 e2=>by
    rcases hob1 with e|⟨g2,e,hg2⟩
    ·rw[e1] at e
     exact hap g' e.symm e2
    ·rw[e1] at e
     injection e with e;have:=(h2.row.lt g' e2).2
     have hg2:w.heap.size<=g2:=hg2;omega
   have hob3:(Value.slice UA UN UC).ownBlock=some g\/∃g',(Value.slice UA UN UC).ownBlock=some g'/\w.heap.size<=g':=hob1;have hbase2:base<=(w1.setCell ⟨b1,o1,none⟩ (.slice UA UN UC)).heap.size:=wam hbase (wam hgrw.size (by simp[World.setCell]));have huw2:Upd (λk=>k=b1) w (w1.setCell ⟨b1,o1,none⟩ (.slice UA UN UC)):=(huw1.mono (λ_ e=>e.elim)).trans hu12;replace hA2:=waa hA2;replace hob1':=waa hob1';replace hob3:=waa hob3;replace huw2:=waa huw2;generalize hW2:w1.setCell ⟨b1,o1,none⟩ (.slice UA UN UC)=w2 at hB1 hA2 k2' k4' hgg hbase2 huw2 ⊢;clear hW2 hA1 hc1' hf1' x0 y0 hu12 huw1 hr1 hob1 hgrw;have hzs:w.heap.size<=w2.heap.size:=huw2.out.size;go_wp2_with fail;refine wp_region_held_drew (S:=(λU=>U.cell? ⟨c2,0,none⟩=some (.pointer (some ⟨b2,o2,none⟩)))) Zk (k2') (λhHeld=>?_);refine wpAnyH_take (i:=0) (v:=?_) rfl Zk Zk Zk (λ_ _ _ h=>h) (Or.inl ⟨by rfl,?_⟩) Za ?_;rotate_left;(·intro u h;(try dsimp only at h);(try simp only[wab,wac]);go_simp;try with_reducible rfl);try simp only[Act.put,waf,wae,wag,wab,wac]
   refine wpAnyH_take (i:=1) (v:=?_) rfl Zk Zk Zk (λ_ _ _ h=>h) (Or.inl ⟨by rfl,?_⟩) Za ?_;rotate_left;(·intro u h;(try dsimp only at h);(try simp only[wab,wac,wad]);go_simp;try with_reducible rfl);try simp only[Act.put,waf,wae,wag,wab,wac,wad]
   refine wpAnyH_take (i:=2) (v:=?_) rfl Zk Zk Zk (λ_ _ _ h=>h) (Or.inl ⟨by rfl,?_⟩) Za ?_;rotate_left;(·intro u h;(try dsimp only at h);(try simp only[wab,wac,wad]);go_simp;try with_reducible rfl);try simp only[Act.put,waf,wae,wag,wab,wac,wad]
   refine wpAnyH_take (i:=4) (v:=?_) rfl Zk Zk Zk (λ_ _ _ h=>h) (Or.inl ⟨by rfl,?_⟩) Za ?_;rotate_left;(·intro u h;(try dsimp only at h);(try simp only[wab,wac,wad]);go_simp;try with_reducible rfl);try simp only[Act.put,waf,wae,wag,wab,wac,wad]
   refine wpAnyH_ready (rs:=[3]) Zk Zs ?_;refine AllReadyH.cons rfl (λK hK=>?_) AllReadyH.nil
   (try simp only[wab,wac,wad])
   go_simp
   refine hK.out _ _ (k2') (λhHeld2=>?_);clear hK K hHeld;have hHeld:=hHeld2;clear hHeld2;try simp only[Act.put,waf,wae,wag,wab,wac,wad]
   refine wpAnyH_ready (rs:=[5]) Zk Zs ?_;refine AllReadyH.cons rfl (λK hK=>?_) AllReadyH.nil;refine qcm Zr _ _ Zr base (.slice VA N2 VC) L2 Zr (show RowI w2.drew base _ L2 from hA2.out.row) ⟨g,i,none⟩ m (cap - i) ((L1.drop i).take m) Zr (hml.out.trans hki.2) hm (λj x hx=>qd6 (w:=w2.drew) hgg (hmid j x hx)) (by have:=hN2.out;omega) hbase2 ?_;intro u2 w3 hr2 hgr2 hob2;obtain⟨TA,TC,rfl,hTl,hTR⟩:=hr2.shape;generalize (L2++(L1.drop i).take m).length=TN at hr2 hob2 hTl ⊢;have hA3:=(show At2 w2.drew base b2 o2 C2 t2 (.slice VA N2 VC) L2 from⟨hA2.out.blk,hA2.out.val,hA2.out.row,hA2.out.ty⟩).blk;have hA3b:w3.heap[b2]? =some (.cells C2 t2 (0,0)):=(hgr2.block b2 (wak h2l hzs) (λe=>hn4 e.symm)).trans hA3;have hA3c:w3.cell? ⟨b2,o2,none⟩=some (.slice VA N2 VC):=by rw[qab hA3b];exact hA2.out.val
   have hA3f:w3.frozen? ⟨b2,o2,none⟩=false:=qah hA3b o2;have k5':w3.cell? ⟨c2,0,none⟩=some (.pointer (some ⟨b2,o2,none⟩)):=hgr2.cell (a:=⟨c2,0,none⟩) k2' (λe=>hnc2 e.symm);refine hK.out _ _ (k5') (λhHeld2=>?_);clear hK K hHeld;have hHeld:=hHeld2;clear hHeld2;try simp only[Act.put,waf,wae,wag,wab,wac,wad]
   refine wpAnyH_take (i:=6) (v:=?_) rfl Zk Zk Zk (λ_ _ _ h=>h) (Or.inl ⟨by rfl,?_⟩) Za ?_;rotate_left;(·intro u h;(try dsimp only at h);(try simp only[wab,wac,wad]);go_simp;try with_reducible rfl);try simp only[Act.put,waf,wae,wag,wab,wac,wad]
   refine wpAnyH_ready (rs:=[7]) Zk Zs ?_;refine AllReadyH.cons rfl (λK hK=>?_) AllReadyH.nil
   (try simp only[wab,wac,wad])
   go_simp
   refine hK.out _ _ (qdt k5' (λe=>hbc2b e)) (λhHeld2=>?_);clear hK K hHeld;have hHeld:=hHeld2;clear hHeld2;try simp only[Act.put,waf,wae,wag,wab,wac,wad]
   refine wpAnyH_done Zk ?_ _;go_wp2_with fail;go_end0
   refine⟨rfl,?_⟩;have hgr3:w2.grownBy w3 (Value.slice VA N2 VC).ownBlock:=⟨hgr2.os,hgr2.tape,hgr2.output,hgr2.size,hgr2.block⟩
   have hA4:=(hB1.out.grown hgr3 (λe=>hn2 e.symm) (λg' hg' e=>hob1'.out g' hg' e.symm))
   have hu34:=(Upd.refl (λk=>k=b2) w3).setCell (p:=⟨b2,o2,none⟩) (.inl rfl) (.slice TA TN TC);have hnb2:=qbm hA3b h2.ty.1 hA4.row;have hnb3:=qbm hA3b h2.ty.1 hr2;have ho2:=(waj.1 h2.val).1;have hob2':(Value.slice TA TN TC).ownBlock=(Value.slice VA N2 VC).ownBlock\/∃g',(Value.slice TA TN TC).ownBlock=some g'/\w2.heap.size<=g':=hob2;refine⟨_,_,hA4.upd hu34 hb (λg' hg' e=>hnb2 (e▸hg')),⟨by rw[qaj hA3b],by rw[wb1 ho2],hr2.upd hu34 (λg' hg' e=>hnb3 (e▸hg')),h2.ty⟩,hob3.out,?_,?_,?_⟩
   ·rcases hob2' with e|⟨g',e,hg'⟩
    ·exact .inl e
    ·exact .inr ⟨g',e,wam hzs hg'⟩
   ·intro g' hg' e2
    rcases hob2' with e|⟨g2,e,hg2⟩
    ·exact hob1'.out g' hg' (by rw[<-e];exact e2)
    ·rw[e2] at e
     injection e with e;have:=(hB1.out.row.lt g' hg').2
     omega
   ·exact((huw2.out.mono (λk e=> .inl e)).grown hgr3 (λk e=> .inl (.inr (.inr e)))).setCell (.inl (.inr (.inl rfl))) _
  ·obtain rfl:cap=k:=Zo
   obtain rfl:n=cap:=Zo
   go_wp2_with fail;go_region_held3 (λV=>V.cell? ⟨c1,0,none⟩=some (.pointer (some ⟨b1,o1,none⟩)))
    (first|with_reducible exact k1|with_reducible exact x0|with_reducible exact y0|go_keep)
    ((refine qe5 Zr _ _ Zr base (g:=g) (i:=i) (m:=0) (c:=0) (cur:=cur) (pre:=L1.take i) (news:=L1.drop n) Zr hgh hbg hbase hp1.out hpre hic hi6 ⟨g,0,none⟩ Zr (by have:=hp2.out;omega) Zo (λj x hx=>by rw[wa6 (by have:=hN.out;omega)] at hx;simp at hx) ?_;intro u1 w1 hr1 hgr1 hob1;obtain⟨UA,UC,rfl,hUl,hUR⟩:=hr1.shape;generalize hUNN:(L1.take i++L1.drop n).length=UN at hr1 hob1 hUl ⊢;have x0:=hgr1.cell (a:=⟨c1,0,none⟩) k1 Zs;have hA1:=h1d.out.grown hgr1 Zs Zs;have hc1':=hA1.cell;have hf1':=hA1.froz;have y0:=qdt (w:=w1) (b:=b1) (o:=o1) (u:= .slice UA UN UC) x0 (λe=>hbc1 e.symm)))
   have hB1:=waa (hA1.set hr1);have hgrw:w.grownBy w1 none:=⟨hgr1.os,hgr1.tape,hgr1.output,hgr1.size,hgr1.block⟩
   have hu12:=(Upd.refl (λk=>k=b1) w1).setCell (p:=⟨b1,o1,none⟩) (.inl rfl) (.slice UA UN UC);have huw1:Upd (λ_=>False) w w1:=(Upd.refl _ w).grown hgrw Zs;have hA2:=((h2.upd huw1 (λe=>e) (λ_ _ e=>e)).upd hu12 (λe=>hb e.symm) (λg' hg' e=>hn2 (e▸hg')))
   have k2':(w1.setCell ⟨b1,o1,none⟩ (.slice UA UN UC)).cell? ⟨c2,0,none⟩=some (.pointer (some ⟨b2,o2,none⟩)):=qdt (hgrw.cell k2 Zs) (λe=>hbc2 e.symm);have k4':=hA2.cell;have hgg:(w1.setCell ⟨b1,o1,none⟩ (.slice UA UN UC)).heap[g]? =some (.cells cur 3 (0,0)):=(wa5 w1 ⟨b1,o1,none⟩ (.slice UA UN UC) g (λe=>hn1 (by show some g=some b1;rw[show g=b1 from e]))).trans ((hgrw.block g (waj.1 hgh).1 Zs).trans hgh);have hob1':∀g',(Value.slice UA UN UC).ownBlock=some g'->(Value.slice VA N2 VC).ownBlock≠some g':=λg' e1 e2=>by
    rcases hob1 with e|⟨g2,e,hg2⟩
    ·rw[e1] at e
     exact hap g' e.symm e2
    ·rw[e1] at e
     injection e with e;have:=(h2.row.lt g' e2).2
     have hg2:w.heap.size<=g2:=hg2;omega
   have hob3:(Value.slice UA UN UC).ownBlock=some g\/∃g',(Value.slice UA UN UC).ownBlock=some g'/\w.heap.size<=g':=hob1;have hbase2:base<=(w1.setCell ⟨b1,o1,none⟩ (.slice UA UN UC)).heap.size:=wam hbase (wam hgrw.size (by simp[World.setCell]));have huw2:Upd (λk=>k=b1) w (w1.setCell ⟨b1,o1,none⟩ (.slice UA UN UC)):=(huw1.mono (λ_ e=>e.elim)).trans hu12;replace hA2:=waa hA2;replace hob1':=waa hob1';replace hob3:=waa hob3;replace huw2:=waa huw2;generalize hW2:w1.setCell ⟨b1,o1,none⟩ (.slice UA UN UC)=w2 at hB1 hA2 k2' k4' hgg hbase2 huw2 ⊢;clear hW2 hA1 hc1' hf1' x0 y0 hu12 huw1 hr1 hob1 hgrw;have hzs:w.heap.size<=w2.heap.size:=huw2.out.size;go_wp2_with fail;refine wp_region_held_drew (S:=(λU=>U.cell? ⟨c2,0,none⟩=some (.pointer (some ⟨b2,o2,none⟩)))) Zk (k2') (λhHeld=>?_);refine wpAnyH_take (i:=0) (v:=?_) rfl Zk Zk Zk (λ_ _ _ h=>h) (Or.inl ⟨by rfl,?_⟩) Za ?_;rotate_left;(·intro u h;(try dsimp only at h);(try simp only[wab,wac]);go_simp;try with_reducible rfl);try simp only[Act.put,waf,wae,wag,wab,wac]
   refine wpAnyH_take (i:=1) (v:=?_) rfl Zk Zk Zk (λ_ _ _ h=>h) (Or.inl ⟨by rfl,?_⟩) Za ?_;rotate_left;(·intro u h;(try dsimp only at h);(try simp only[wab,wac,wad]);go_simp;try with_reducible rfl);try simp only[Act.put,waf,wae,wag,wab,wac,wad]
   refine wpAnyH_take (i:=2) (v:=?_) rfl Zk Zk Zk (λ_ _ _ h=>h) (Or.inl ⟨by rfl,?_⟩) Za ?_;rotate_left;(·intro u h;(try dsimp only at h);(try simp only[wab,wac,wad]);go_simp;try with_reducible rfl);try simp only[Act.put,waf,wae,wag,wab,wac,wad]
   refine wpAnyH_take (i:=4) (v:=?_) rfl Zk Zk Zk (λ_ _ _ h=>h) (Or.inl ⟨by rfl,?_⟩) Za ?_;rotate_left;(·intro u h;(try dsimp only at h);(try simp only[wab,wac,wad]);go_simp;try with_reducible rfl);try simp only[Act.put,waf,wae,wag,wab,wac,wad]
   refine wpAnyH_ready (rs:=[3]) Zk Zs ?_;refine AllReadyH.cons rfl (λK hK=>?_) AllReadyH.nil
   (try simp only[wab,wac,wad])
   go_simp
   refine hK.out _ _ (k2') (λhHeld2=>?_);clear hK K hHeld;have hHeld:=hHeld2;clear hHeld2;try simp only[Act.put,waf,wae,wag,wab,wac,wad]
   refine wpAnyH_ready (rs:=[5]) Zk Zs ?_;refine AllReadyH.cons rfl (λK hK=>?_) AllReadyH.nil;refine qcm Zr _ _ Zr base (.slice VA N2 VC) L2 Zr (show RowI w2.drew base _ L2 from hA2.out.row) ⟨g,i,none⟩ m m ((L1.drop i).take m) Zr (hml.out.trans hki.2) hm (λj x hx=>qd6 (w:=w2.drew) hgg (hmid j x hx)) (by have:=hN2.out;omega) hbase2 ?_;intro u2 w3 hr2 hgr2 hob2;obtain⟨TA,TC,rfl,hTl,hTR⟩:=hr2.shape;generalize (L2++(L1.drop i).take m).length=TN at hr2 hob2 hTl ⊢;have hA3:=(show At2 w2.drew base b2 o2 C2 t2 (.slice VA N2 VC) L2 from⟨hA2.out.blk,hA2.out.val,hA2.out.row,hA2.out.ty⟩).blk;have hA3b:w3.heap[b2]? =some (.cells C2 t2 (0,0)):=(hgr2.block b2 (wak h2l hzs) (λe=>hn4 e.symm)).trans hA3;have hA3c:w3.cell? ⟨b2,o2,none⟩=some (.slice VA N2 VC):=by rw[qab hA3b];exact hA2.out.val
   have hA3f:w3.frozen? ⟨b2,o2,none⟩=false:=qah hA3b o2;have k5':w3.cell? ⟨c2,0,none⟩=some (.pointer (some ⟨b2,o2,none⟩)):=hgr2.cell (a:=⟨c2,0,none⟩) k2' (λe=>hnc2 e.symm);refine hK.out _ _ (k5') (λhHeld2=>?_);clear hK K hHeld;have hHeld:=hHeld2;clear hHeld2;try simp only[Act.put,waf,wae,wag,wab,wac,wad]
   refine wpAnyH_take (i:=6) (v:=?_) rfl Zk Zk Zk (λ_ _ _ h=>h) (Or.inl ⟨by rfl,?_⟩) Za ?_;rotate_left;(·intro u h;(try dsimp only at h);(try simp only[wab,wac,wad]);go_simp;try with_reducible rfl);try simp only[Act.put,waf,wae,wag,wab,wac,wad]
   refine wpAnyH_ready (rs:=[7]) Zk Zs ?_;refine AllReadyH.cons rfl (λK hK=>?_) AllReadyH.nil
   (try simp only[wab,wac,wad])
   go_simp
   refine hK.out _ _ (qdt k5' (λe=>hbc2b e)) (λhHeld2=>?_);clear hK K hHeld;have hHeld:=hHeld2;clear hHeld2;try simp only[Act.put,waf,wae,wag,wab,wac,wad]
   refine wpAnyH_done Zk ?_ _;go_wp2_with fail;go_end0
   refine⟨rfl,?_⟩;have hgr3:w2.grownBy w3 (Value.slice VA N2 VC).ownBlock:=⟨hgr2.os,hgr2.tape,hgr2.output,hgr2.size,hgr2.block⟩
   have hA4:=(hB1.out.grown hgr3 (λe=>hn2 e.symm) (λg' hg' e=>hob1'.out g' hg' e.symm))
   have hu34:=(Upd.refl (λk=>k=b2) w3).setCell (p:=⟨b2,o2,none⟩) (.inl rfl) (.slice TA TN TC);have hnb2:=qbm hA3b h2.ty.1 hA4.row;have hnb3:=qbm hA3b h2.ty.1 hr2;have ho2:=(waj.1 h2.val).1;have hob2':(Value.slice TA TN TC).ownBlock=(Value.slice VA N2 VC).ownBlock\/∃g',(Value.slice TA TN TC).ownBlock=some g'/\w2.heap.size<=g':=hob2;refine⟨_,_,hA4.upd hu34 hb (λg' hg' e=>hnb2 (e▸hg')),⟨by rw[qaj hA3b],by rw[wb1 ho2],hr2.upd hu34 (λg' hg' e=>hnb3 (e▸hg')),h2.ty⟩,hob3.out,?_,?_,?_⟩
   ·rcases hob2' with e|⟨g',e,hg'⟩
    ·exact .inl e
    ·exact .inr ⟨g',e,wam hzs hg'⟩
   ·intro g' hg' e2
    rcases hob2' with e|⟨g2,e,hg2⟩
    ·exact hob1'.out g' hg' (by rw[<-e];exact e2)
    ·rw[e2] at e
     injection e with e;have:=(hB1.out.row.lt g' hg').2
     omega
   ·exact((huw2.out.mono (λk e=> .inl e)).grown hgr3 (λk e=> .inl (.inr (.inr e)))).setCell (.inl (.inr (.inl rfl))) _
end Go.Proofs.YtgjhkafggagniaaGreat
