/- Parts. No condition. -/
import Derived.Laws.LoneSync
import Derived.Test.YtgjhkafggagniaaGreatJoinV02
import Derived.Test.YtgjhkafggagniaaGreatJoinV01
set_option linter.unusedVariables false
set_option maxRecDepth 100000
set_option maxHeartbeats 8000000
namespace Go.Proofs.YtgjhkafggagniaaGreat
open Go Go.RowKit
open Go.Maps (Keyed)
section
variable {w:World} {base p n c:Nat} {S K:List Nat} {f:Nat->Option (List Nat)}
theorem Reg.base_le(h:Reg w base p n c S K f):base<=w.heap.size:=Nat.le_of_lt (wb6 h.lt.1 h.lt.2.1)
theorem ql7(a:Nat):a/8*8+a%8=a:=Zo
end
def rgF(p gs gk m:Nat)(k:Nat):Prop:=k=p\/k=gs\/k=gk\/k=m
def RegQ(w:World)(base p n c gs gk m:Nat)(S K:List Nat)(f:Nat->Option (List Nat)):Prop:=
 ∃(cs ck:Nat) (st:Int) (D:DataW Value),RegAt w base p n c gs cs gk ck m st D S K f
section
variable {w:World} {base p n c gs gk m:Nat} {S K:List Nat} {f:Nat->Option (List Nat)}
theorem RegQ.reg(h:RegQ w base p n c gs gk m S K f):Reg w base p n c S K f:=by
 obtain⟨cs,ck,st,D,h⟩:=h;exact h.reg
theorem Reg.q(h:Reg w base p n c S K f):∃gs gk m,RegQ w base p n c gs gk m S K f:=by
 obtain⟨gs,cs,gk,ck,m,st,D,h⟩:=h;exact⟨gs,gk,m,cs,ck,st,D,h⟩
theorem RegQ.lts(h:RegQ w base p n c gs gk m S K f):(base<=p/\p<w.heap.size)/\(base<=gs/\gs<w.heap.size)/\(base<=gk/\gk<w.heap.size)/\(base<=m/\m<w.heap.size):=by
 obtain⟨cs,ck,st,D,h⟩:=h;exact h.lts
theorem RegQ.own(h:RegQ w base p n c gs gk m S K f):∀k,rgF p gs gk m k->base<=k/\k<w.heap.size:=by
 obtain⟨h1,h2,h3,h4⟩:=h.lts;rintro k (rfl|rfl|rfl|rfl)
 ·exact h1
 ·exact h2
 ·exact h3
 ·exact h4
theorem RegQ.upd{w':World}{G:Nat->Prop}(h:RegQ w base p n c gs gk m S K f)(hu:Upd G w w')(hG:∀k,rgF p gs gk m k->¬G k):RegQ w' base p n c gs gk m S K f:=by
 obtain⟨cs,ck,st,D,h⟩:=h;obtain⟨⟨_,l1⟩,⟨_,l2⟩,⟨_,l3⟩,⟨_,l4⟩⟩:=h.lts;obtain⟨h1,h2,h3,h4,h5,h6,h6',hp,hs,hk,hm,hD⟩:=h;exact⟨cs,ck,st,D,h1,h2,h3,h4,h5,h6,h6',by rw[hu.block p l1 (hG p (.inl rfl))];exact hp,qa4 hs (hu.block gs l2 (hG gs (.inr (.inl rfl)))),qa4 hk (hu.block gk l3 (hG gk (.inr (.inr (.inl rfl))))),qb5 hm (hu.block m l4 (hG m (.inr (.inr (.inr rfl))))),hD⟩
theorem RegQ.alloc(h:RegQ w base p n c gs gk m S K f)(o:Obj):RegQ (w.alloc o) base p n c gs gk m S K f:=by
 obtain⟨cs,ck,st,D,h⟩:=h;exact⟨cs,ck,st,D,h.alloc o⟩
theorem RegQ.stepped(h:RegQ w base p n c gs gk m S K f)(s:Int):RegQ (w.setCell ⟨p,3,none⟩ (.int .i64 s)) base p n c gs gk m S K f:=by
 obtain⟨cs,ck,st,D,h⟩:=h;exact⟨cs,ck,s,D,h.stepped s⟩
theorem qvh(h:RegQ w base p n c gs gk m S K f)(i j x bx br:Nat)(hi:i<n)(hj:j<8)(hx:x<18446744073709551616)(hbx:Boxed w bx 40 (.int .u64 (x:Int)))(hbr:Boxed w br 53 (.pointer (some ⟨p,0,none⟩))):
  Calls Tryz.prog 329 #[.int .i64 (i:Int),.int .i64 (j:Int),.pointer (some ⟨bx,0,none⟩),.pointer (some ⟨br,0,none⟩)] w λe w'=>
   e= .returned (.tuple #[])/\RegQ w' base p n c gs gk m (S.set (i*8+j) x) K f/\Upd (rgF p gs gk m) w w':=by
 obtain⟨_,_,hn,hn0⟩:=h.reg.lt;obtain⟨cs,ck,st,D,h⟩:=h;obtain⟨c0,c1,c2,c3,f3⟩:=h.cells;obtain⟨u,_,_,hold⟩:=qga (h.2.2.2.2.2.2.2.2.1) (j:=i*8+j) Zo;have hf:=(h.2.2.2.2.2.2.2.2.1).frozenAt (i*8+j);have hb1:=hbx.cell;have hb2:=hbr.cell;have z1:(0:Int)<=(i:Int):=Zo
 have z2:(i:Int)<(n:Int):=Zo
 have z3:(0:Int)<=(j:Int):=Zo
 have z4:(j:Int)<8:=Zo
 go_enter Tryz.func329,Tryz.ntmps329;go_wp2
 go_still_tail 9,Zk
 change wpList _ _ _ _ _ w.drew;go_wp2
 go_end0
 exact⟨rfl,⟨_,_,_,_,(h.stored Zo hx).drew⟩,((Upd.refl _ w).setCell (p:=⟨gs,i*8+j,none⟩) (.inl (.inr (.inl rfl))) _).drew⟩
theorem qte(h:RegQ w base p n c gs gk m S K f)(hc:c<maxLen)(i j br:Nat)(hi:i<n)(hbr:Boxed w br 53 (.pointer (some ⟨p,0,none⟩))):
  Calls Tryz.prog 373 #[.int .i64 (i:Int),.int .i64 (j:Int),.pointer (some ⟨br,0,none⟩)] w λe w'=>
   e= .returned (.tuple #[])/\RegQ w' base p n (c+1) gs gk m S K (λk=>if k=i then some (qaw S i) else f k)/\Upd (rgF p gs gk m) w w':=by
 obtain⟨_,_,hn,hn0⟩:=h.reg.lt;obtain⟨cs,ck,st,D,h⟩:=h;obtain⟨c0,c1,c2,c3,f3⟩:=h.cells;have hb2:=hbr.cell;obtain⟨hSl,_⟩:=h.len;have hll:=qkx hSl hi;have hrange:=qvn (h.2.2.2.2.2.2.2.2.1) hi;obtain⟨_,_,_,_,_,_,_,_,_,_,hm,hD,hS,_⟩:=id h;have hD':=hD.put hi hll (λx hx=>hS x (qvm hx));have z1:(0:Int)<=(i:Int):=Zo
 have z2:(i:Int)<(n:Int):=Zo
 go_enter Tryz.func373,Tryz.ntmps373;go_wp2
 go_still_tail 12,Zk
 refine qg5 rfl _ rfl gs (i*8) rfl hrange hll ?_;refine wpStill_nil ?_;change wpList _ _ _ _ _ w.drew;go_wp2_with (at_mapUpdate;refine wpList_mapUpdate_own _ rfl _ _ _ 101 rfl 3 130 qjo wel qdh m c D rfl (show w.drew.ownsMap _ _ _ _ _ _ from hm) hc _ _ (.int .i64 (i:Int)) rfl rfl (qz3 Zo) (.held (qcq (qaw S i))) [] rfl ?_;intro w1 hown1 hgrow1)
 go_end0
 exact⟨rfl,⟨_,_,_,_,h.drew.noted hgrow1 hown1 hD'⟩,(Upd.refl _ w).drew.grown hgrow1 (λk hk=>by injection hk with hk;exact .inl (.inr (.inr (.inr hk.symm))))⟩
theorem qwc(h:RegQ w base p n c gs gk m S K f)(i j:Int)(br:Nat)(hbr:Boxed w br 53 (.pointer (some ⟨p,0,none⟩))):
  Calls Tryz.prog 374 #[.int .i64 i,.int .i64 j,.pointer (some ⟨br,0,none⟩)] w λe w'=>
   e= .returned (.tuple #[])/\∃K',(∀k,k<n->qaw K' k=(f k).getD (qaw K k))/\RegQ w' base p n c gs gk m S K' (λ_=>none)/\Upd (rgF p gs gk m) w w':=by
 obtain⟨_,_,hn,hn0⟩:=h.reg.lt;obtain⟨cs,ck,st,D,h⟩:=h;obtain⟨c0,c1,c2,c3,f3⟩:=h.cells;have hb2:=hbr.cell;have hm:=h.2.2.2.2.2.2.2.2.2.2.1;have hD:=h.2.2.2.2.2.2.2.2.2.2.2.1;have hlts:=h.lts;have hbrl:=hbr.lt;go_enter Tryz.func374,Tryz.ntmps374;go_wp2_with (at_range;refine wpList_range_own _ rfl _ 101 rfl 3 130 qjo wel qdh m c D rfl hm ?_;intro w0 hrg0 hg0 hs0)
 go_frame
 have h0:RegAt w0 base p n c gs cs gk ck m st D S K f:=h.of_blocks λk hk=>hg0.block k hk Zs
 have hbr0:Boxed w0 br 53 (.pointer (some ⟨p,0,none⟩)):=hbr.kept hg0 Zs;have hB0:Upd (rgF p gs gk m) w w0:=(Upd.refl _ w).grown hg0 Zs;clear c0 c1 c2 c3 f3 hb2 hm h hbr hg0;go_loopw [5] (λ_ wr=>∃(W:World) (left:Lit->Bool) (cnt:Nat) (K':List Nat),W=wr/\W.ranges Tryz.prog 3 qdh m w.heap.size c D left cnt/\RegAt W base p n c gs cs gk ck m st D S K' f/\qhk D n f K K' left/\Boxed W br 53 (.pointer (some ⟨p,0,none⟩))/\Upd (rgF p gs gk m) w W) (λ_ wr=>wr.rangeLeft m w.heap.size)
 case atStart=>exact⟨_,_,_,K,rfl,hrg0,h0,qk1 hD K,hbr0,hB0⟩
 case round=>
  clear hrg0 h0 hbr0 hB0 hs0;obtain⟨wr,left,cnt,K',rfl,hrg,hr,hF,hbr,hB⟩:=hrel;have hleft:=hF.1;go_wp2_with (at_next;refine qib rfl _ rfl rfl hrg hD hleft ?_ ?_)
  ·intro hdone
   obtain⟨c0,c1,c2,c3,f3⟩:=hr.cells;have hb2:=hbr.cell;have hm:=hr.2.2.2.2.2.2.2.2.2.2.1;have hfin:Hid (∀k,k<n->qaw K' k=(f k).getD (qaw K k)):=waa λk hk=>by rw[hF.2 k hk,hdone];rfl
   clear hdone hleft hF hrg;go_wp2_with (refine qhy rfl _ _ rfl wel rfl hm ?_;intro w3 hown3 hg3)
   go_end0
   exact⟨rfl,K',hfin.out,⟨_,_,_,_,hr.noted hg3 hown3 Noted.empty⟩,hB.grown hg3 (λk hk=>by injection hk with hk;exact .inl (.inr (.inr (.inr hk.symm))))⟩
  ·intro q l w1 cnt1 hq hfq hlq hrg1 hlt hg1 hs1 hen
   have hlts2:=hr.lts;have hbl:=hbr.lt;have hr1:RegAt w1 base p n c gs cs gk ck m st D S K' f:=hr.kept hg1 Zo Zo Zo Zo;have hbr1:Boxed w1 br 53 (.pointer (some ⟨p,0,none⟩)):=hbr.kept hg1 Zx;have hB1:Upd (rgF p gs gk m) w w1:=hB.grown hg1 (λk hk=>by injection hk with hk;exact .inr Zo);have hl8:=(hD.2.2.2 q l hfq).2.1;have hlb:=(hD.2.2.2 q l hfq).2.2.1;have hF1:=qnd hF hr.len.2 hq hfq hl8;have hbox:=qe4 (W:=w1) #[.int .u64 0,.int .u64 0,.int .u64 0,.int .u64 0,.int .u64 0,.int .u64 0,.int .u64 0,.int .u64 0] 130 (u64V l);have hr2:=hr1.below hbox;have hbr2:Boxed _ br 53 (.pointer (some ⟨p,0,none⟩)):=(hbox.block br hbr1.lt).trans hbr1;have hB2:=hB1.trans (.of_below hbox (wah _));have hrg2:=hrg1.kept (row:=none) (w':=(w1.alloc (.cells #[.int .u64 0,.int .u64 0,.int .u64 0,.int .u64 0,.int .u64 0,.int .u64 0,.int .u64 0,.int .u64 0] 130)).setCells w1.heap.size 0 (u64V l)) ⟨hbox.os,hbox.tape,hbox.output,hbox.size,λk hk _=>hbox.block k hk⟩ Zs Zs;have hrng2:=qgx (W:=w1) (C:=#[.int .u64 0,.int .u64 0,.int .u64 0,.int .u64 0,.int .u64 0,.int .u64 0,.int .u64 0,.int .u64 0]) (t:=130) (vs:=u64V l) (by rw[qat,hl8];rfl);have hz1:(0:Int)<=(q:Int):=Zo
   have hz2:(q:Int)<(n:Int):=Zo
   have hleq:=hrg.left_eq;clear hbox hr hbr hB hF hrg hr1 hbr1 hB1 hrg1 hg1 hlq hfq hleft hs1;go_wp2_with (refine qei rfl _ _ rfl w1.heap.size 0 rfl rfl (qc2 rfl _ _) hl8 ?_;generalize (w1.alloc (.cells #[.int .u64 0,.int .u64 0,.int .u64 0,.int .u64 0,.int .u64 0,.int .u64 0,.int .u64 0,.int .u64 0] 130)).setCells w1.heap.size 0 (u64V l)=W2 at hr2 hB2 hbr2 hrg2 hrng2 ⊢;obtain⟨c0,c1,c2,c3,f3⟩:=hr2.cells;have hb2:=hbr2.cell)
   simp only[Act.put];have hthere:=qso (hr2.2.2.2.2.2.2.2.2.2.1) hq;have h3:=hr2.drew.keptLine hq hl8 hlb;have hap:=hr2.apart;have hrgd:W2.drew.ranges Tryz.prog 3 qdh m w.heap.size c D (λz=>left z&&!z.sameKey (Lit.int .i64 (q:Int))) cnt1:=hrg2;have hrg3:=hrgd.kept (qdg gk (u64V l) (q*8) W2.drew) (λe=>by injection e with e;omega) (λe=>by injection e with e;omega);have hbrk:br≠gk:=λe=>by
    have h1:W2.heap[br]? =_:=hbr2;obtain⟨_,e2⟩:=hr2.2.2.2.2.2.2.2.2.2.1;rcases e2 with ⟨e2,_⟩|⟨g,cap,cur,a1,a2,a3,a4⟩
    ·cases e2
    ·injection a1 with a1;injection a1 with a1;injection a1 with a1
     rw[<-a1,<-e,h1] at a3;cases a3
   have hbr3:Boxed (W2.drew.setCells gk (q*8) (u64V l)) br 53 (.pointer (some ⟨p,0,none⟩)):=Boxed.kept (W:=W2.drew) hbr2 (qdg _ _ _ _) (λe=>hbrk (by injection e));have hB3:Upd (rgF p gs gk m) w (W2.drew.setCells gk (q*8) (u64V l)):=hB2.drew.grown (qdg gk (u64V l) (q*8) W2.drew) (λk hk=>by injection hk with hk;exact .inl (.inr (.inr (.inl hk.symm))));go_still_tail 7,Zk
   refine qg5 rfl _ rfl w1.heap.size 0 rfl hrng2 hl8 ?_;repeat still_step
   refine wpStill_nil ?_;change wpList _ _ _ _ _ W2.drew;refine qei rfl _ _ rfl gk (q*8) rfl rfl hthere hl8 ?_;simp only[Act.put];generalize W2.drew.setCells gk (q*8) (u64V l)=W3 at h3 hrg3 hbr3 hB3 ⊢;go_wp2
   go_roundw
   case rel=>exact⟨_,_,cnt1,_,rfl,hrg3,h3,hF1,hbr3,hB3⟩
   case measure=>rw[hrg3.left_eq,hleq];exact hlt
end
section
variable {w:World} {base p n c gs gk m:Nat} {S K:List Nat} {f:Nat->Option (List Nat)}
theorem quo(h:RegQ w base p n c gs gk m S K f){a x:Nat}(ha:a<n*8)(hx:x<18446744073709551616):
  Calls Tryz.prog 283 #[.pointer (some ⟨p,0,none⟩),.int .i64 (a:Int),.int .u64 (x:Int)] w λe w'=>e= .returned (.int .i64 0)/\RegQ w' base p n c gs gk m (S.set a x) K f/\Upd (rgF p gs gk m) w w':=by
 have hmf:∀(fn:Fn) (first cap:Array Value) (w:World),(Instr.makeFunc fn first cap).run Tryz.prog w= .ok (.func fn first cap) w:=λ_ _ _ _=>rfl
 have hW:=(h.alloc (.cells #[.pointer (some ⟨p,0,none⟩)] 53)).alloc (.cells #[.int .u64 (x:Int)] 40);have hbr:=(Boxed.new w 53 (.pointer (some ⟨p,0,none⟩))).alloc (.cells #[.int .u64 (x:Int)] 40);have hbx:=Boxed.new (w.alloc (.cells #[.pointer (some ⟨p,0,none⟩)] 53)) 40 (.int .u64 (x:Int));have hB:=((Upd.refl (rgF p gs gk m) w).alloc (.cells #[.pointer (some ⟨p,0,none⟩)] 53)).alloc (.cells #[.int .u64 (x:Int)] 40);rw[show(w.alloc (.cells #[.pointer (some ⟨p,0,none⟩)] 53)).heap.size=w.heap.size+1 by simp] at hbx;have hdo:=qvh hW (a/8) (a%8) x _ _ Zo Zo hx hbx hbr;rw[ql7] at hdo;have hst:=qqy hW.reg ha (R:=λw1=>RegQ w1 base p n c gs gk m (S.set a x) K f/\Upd (rgF p gs gk m) _ w1) hdo (λw1 hr=>hr.1.reg.count);clear hdo hbr hbx hW;go_enter Tryz.func283,Tryz.ntmps283;go_wp2_with (go_at_call 328;refine hst.mono ?_;rintro e w1 ⟨rfl,w2,s,⟨hr,hb⟩,rfl⟩)
 go_ret;exact⟨rfl,hr.stepped s,(hB.trans hb).setCell (p:=⟨p,3,none⟩) (.inl (.inl rfl)) _⟩
theorem qqp(h:RegQ w base p n c gs gk m S K f){a:Int}(ha:¬(0<=a/\a<(n:Int)*8))(x:Int):
  Calls Tryz.prog 283 #[.pointer (some ⟨p,0,none⟩),.int .i64 a,.int .u64 x] w λe w'=>e= .returned (.int .i64 13)/\RegQ w' base p n c gs gk m S K f/\Upd (rgF p gs gk m) w w':=by
 have hmf:∀(fn:Fn) (first cap:Array Value) (w:World),(Instr.makeFunc fn first cap).run Tryz.prog w= .ok (.func fn first cap) w:=λ_ _ _ _=>rfl
 have hW:=(h.alloc (.cells #[.pointer (some ⟨p,0,none⟩)] 53)).alloc (.cells #[.int .u64 x] 40);have hB:=((Upd.refl (rgF p gs gk m) w).alloc (.cells #[.pointer (some ⟨p,0,none⟩)] 53)).alloc (.cells #[.int .u64 x] 40);go_enter Tryz.func283,Tryz.ntmps283;go_wp2_with (go_at_call 328;refine(qjy hW.reg ha _).mono ?_;rintro e w1 ⟨rfl,rfl⟩)
 go_ret;exact⟨rfl,hW,hB⟩
theorem qx3(h:RegQ w base p n c gs gk m S K f){a:Nat}(ha:a<n*8):
  Calls Tryz.prog 326 #[.pointer (some ⟨p,0,none⟩),.int .i64 (a:Int)] w λe w'=>∃x:Nat,S[a]? =some x/\e= .returned (.tuple #[.int .u64 (x:Int),.int .i64 0])/\RegQ w' base p n c gs gk m S K f/\Upd (rgF p gs gk m) w w':=by
 have hmf:∀(fn:Fn) (first cap:Array Value) (w:World),(Instr.makeFunc fn first cap).run Tryz.prog w= .ok (.func fn first cap) w:=λ_ _ _ _=>rfl
 have hbase:=h.reg.base_le;have hlt:=h.reg.lt;have hW:=(h.reg.alloc (.cells #[.pointer (some ⟨p,0,none⟩)] 53)).alloc (.cells #[.int .u64 0] 40);have hbr:=(Boxed.new w 53 (.pointer (some ⟨p,0,none⟩))).alloc (.cells #[.int .u64 0] 40);have hbx:=Boxed.new (w.alloc (.cells #[.pointer (some ⟨p,0,none⟩)] 53)) 40 (.int .u64 0);have hB:=((wai w.heap.size w).alloc (wah _) (.cells #[.pointer (some ⟨p,0,none⟩)] 53)).alloc Zs (.cells #[.int .u64 0] 40);rw[show(w.alloc (.cells #[.pointer (some ⟨p,0,none⟩)] 53)).heap.size=w.heap.size+1 by simp] at hbx;have hdo:=q0q hW (a/8) (a%8) _ _ _ Zo Zo hbx hbr Zo;rw[ql7] at hdo;have hst:=qtw hW ha (R:=λw1=>∃x:Nat,S[a]? =some x/\w1=World.setCell _ ⟨w.heap.size+1,0,none⟩ (.int .u64 (x:Int))) hdo (λw1 hr=>by
  obtain⟨x,_,rfl⟩:=hr;exact(h.reg.below (hB.setCell (p:=⟨w.heap.size+1,0,none⟩) Zs (.int .u64 (x:Int)))).count)
 clear hdo hbr hW;go_enter Tryz.func326,Tryz.ntmps326;go_wp2_with (go_at_call 328;refine hst.mono ?_;rintro e w1 ⟨rfl,w2,s,⟨x,hx,rfl⟩,rfl⟩;have hcx:=(hbx.set (.int .u64 (x:Int))).cell;have hne:((⟨p,3,none⟩:Addr)=⟨w.heap.size+1,0,none⟩)=False:=by simp)
 go_ret2;exact⟨x,hx,rfl,((h.stepped s).alloc _).alloc _,(((Upd.refl _ w).setCell (p:=⟨p,3,none⟩) (.inl (.inl rfl)) (.int .i64 s)).alloc _).alloc _⟩
theorem qsy(h:RegQ w base p n c gs gk m S K f){a:Int}(ha:¬(0<=a/\a<(n:Int)*8)):
  Calls Tryz.prog 326 #[.pointer (some ⟨p,0,none⟩),.int .i64 a] w λe w'=>e= .returned (.tuple #[.int .u64 0,.int .i64 13])/\RegQ w' base p n c gs gk m S K f/\Upd (rgF p gs gk m) w w':=by
 have hmf:∀(fn:Fn) (first cap:Array Value) (w:World),(Instr.makeFunc fn first cap).run Tryz.prog w= .ok (.func fn first cap) w:=λ_ _ _ _=>rfl
 have hW:=(h.alloc (.cells #[.pointer (some ⟨p,0,none⟩)] 53)).alloc (.cells #[.int .u64 0] 40);have hB:=((Upd.refl (rgF p gs gk m) w).alloc (.cells #[.pointer (some ⟨p,0,none⟩)] 53)).alloc (.cells #[.int .u64 0] 40);go_enter Tryz.func326,Tryz.ntmps326;go_wp2_with (go_at_call 328;refine(qjy hW.reg ha _).mono ?_;rintro e w1 ⟨rfl,rfl⟩)
 go_ret2;exact⟨rfl,hW,hB⟩
theorem quz(h:RegQ w base p n c gs gk m S K f)(hc:c<maxLen){a:Nat}(ha:a<n*8):
  Calls Tryz.prog 333 #[.pointer (some ⟨p,0,none⟩),.int .i64 (a:Int)] w λe w'=>e= .returned (.int .i64 0)/\RegQ w' base p n (c+1) gs gk m S K (λk=>if k=a/8 then some (qaw S (a/8)) else f k)/\Upd (rgF p gs gk m) w w':=by
 have hmf:∀(fn:Fn) (first cap:Array Value) (w:World),(Instr.makeFunc fn first cap).run Tryz.prog w= .ok (.func fn first cap) w:=λ_ _ _ _=>rfl
 have hW:=h.alloc (.cells #[.pointer (some ⟨p,0,none⟩)] 53);have hbr:=Boxed.new w 53 (.pointer (some ⟨p,0,none⟩));have hB:=(Upd.refl (rgF p gs gk m) w).alloc (.cells #[.pointer (some ⟨p,0,none⟩)] 53);have hdo:=qte hW hc (a/8) (a%8) _ Zo hbr;have hst:=qqh hW.reg ha (R:=λw1=>RegQ w1 base p n (c+1) gs gk m S K (λk=>if k=a/8 then some (qaw S (a/8)) else f k)/\Upd (rgF p gs gk m) _ w1) hdo (λw1 hr=>hr.1.reg.count);clear hdo hbr hW;go_enter Tryz.func333,Tryz.ntmps333;go_wp2_with (go_at_call 328;refine hst.mono ?_;rintro e w1 ⟨rfl,w2,s,⟨hr,hb⟩,rfl⟩)
 go_ret;exact⟨rfl,hr.stepped s,(hB.trans hb).setCell (p:=⟨p,3,none⟩) (.inl (.inl rfl)) _⟩
theorem qsc(h:RegQ w base p n c gs gk m S K f){a:Int}(ha:¬(0<=a/\a<(n:Int)*8)):
  Calls Tryz.prog 333 #[.pointer (some ⟨p,0,none⟩),.int .i64 a] w λe w'=>e= .returned (.int .i64 13)/\RegQ w' base p n c gs gk m S K f/\Upd (rgF p gs gk m) w w':=by
 have hmf:∀(fn:Fn) (first cap:Array Value) (w:World),(Instr.makeFunc fn first cap).run Tryz.prog w= .ok (.func fn first cap) w:=λ_ _ _ _=>rfl
 have hW:=h.alloc (.cells #[.pointer (some ⟨p,0,none⟩)] 53);have hB:=(Upd.refl (rgF p gs gk m) w).alloc (.cells #[.pointer (some ⟨p,0,none⟩)] 53);go_enter Tryz.func333,Tryz.ntmps333;go_wp2_with (go_at_call 328;refine(qjy hW.reg ha _).mono ?_;rintro e w1 ⟨rfl,rfl⟩)
 go_ret;exact⟨rfl,hW,hB⟩
theorem qqc(h:RegQ w base p n c gs gk m S K f):
  Calls Tryz.prog 335 #[.pointer (some ⟨p,0,none⟩)] w λe w'=>∃K',(∀k,k<n->qaw K' k=(f k).getD (qaw K k))/\e= .returned (.int .i64 0)/\RegQ w' base p n c gs gk m S K' (λ_=>none)/\Upd (rgF p gs gk m) w w':=by
 have hmf:∀(fn:Fn) (first cap:Array Value) (w:World),(Instr.makeFunc fn first cap).run Tryz.prog w= .ok (.func fn first cap) w:=λ_ _ _ _=>rfl
 have hW:=h.alloc (.cells #[.pointer (some ⟨p,0,none⟩)] 53);have hbr:=Boxed.new w 53 (.pointer (some ⟨p,0,none⟩));have hB:=(Upd.refl (rgF p gs gk m) w).alloc (.cells #[.pointer (some ⟨p,0,none⟩)] 53);have hn:=h.reg.lt.2.2.2;have hdo:=qwc hW ((0/8:Nat):Int) ((0%8:Nat):Int) _ hbr;have hst:=qrd (a:=0) hW.reg Zo (R:=λw1=>∃K',(∀k,k<n->qaw K' k=(f k).getD (qaw K k))/\RegQ w1 base p n c gs gk m S K' (λ_=>none)/\Upd (rgF p gs gk m) _ w1) hdo (λw1 hr=>by obtain⟨_,_,hr,_⟩:=hr;exact hr.reg.count);clear hdo hbr hW;go_enter Tryz.func335,Tryz.ntmps335;go_wp2_with (go_at_call 328;refine hst.mono ?_;rintro e w1 ⟨rfl,w2,s,⟨K',hK',hr,hb⟩,rfl⟩;have hKh:=waa hK';clear hK')
 go_ret;exact⟨K',hKh.out,rfl,hr.stepped s,(hB.trans hb).setCell (p:=⟨p,3,none⟩) (.inl (.inl rfl)) _⟩
end
end Go.Proofs.YtgjhkafggagniaaGreat
namespace Go.Proofs.YtgjhkafggagniaaGreat
open Go Go.RowKit
def Alike(m:Nat)(f:Nat->Option (List Nat))(N:List Nat)(B:List Bool):Prop:=
 ∀j,j<m->B[j]?.getD false=(f j).isSome/\∀l,f j=some l->qaw N j=l
theorem qbz(S:List Nat)(j k:Nat):(qaw S j)[k]? =if k<8 then S[j*8+k]? else none:=by
 unfold qaw;rw[waw,wa3]
theorem qv1{N S:List Nat}{m i j:Nat}(hN:N.length=m*8)(hS:S.length=m*8)(hi:i<m)(hj:j<m):qaw (qdy N S (i*8) 8) j=if j=i then qaw S i else qaw N j:=by
 apply wa2
 intro k;rw[qbz];by_cases hk:k<8
 ·rw[if_pos hk,qdy,List.getElem?_mapIdx,wan (show j*8+k<N.length by omega),wc5]
  by_cases hji:j=i
  ·subst hji
   rw[if_pos Zo,if_pos rfl,qbz,if_pos hk,wan (show j*8+k<S.length by omega),wem]
  ·rw[if_neg Zo,if_neg hji,qbz,if_pos hk,wan (show j*8+k<N.length by omega)]
 ·rw[if_neg hk]
  split<;>rw[qbz,if_neg hk]
theorem qp1{K N:List Nat}{B:List Bool}{m j:Nat}(hK:K.length=m*8)(hN:N.length=m*8)(hj:j<m):qaw (fenL K N B (m*8)) j=if B[j]?.getD false=true then qaw N j else qaw K j:=by
 apply wa2
 intro k;rw[qbz];by_cases hk:k<8
 ·rw[if_pos hk,fenL,List.getElem?_mapIdx,wan (show j*8+k<K.length by omega),wc5,show(j*8+k)/8=j by omega]
  by_cases hb:B[j]?.getD false=true
  ·rw[if_pos ⟨Zo,hb⟩,if_pos hb,qbz,if_pos hk,wan (show j*8+k<N.length by omega),wem]
  ·rw[if_neg (λh=>hb h.2),if_neg hb,qbz,if_pos hk,wan (show j*8+k<K.length by omega)]
 ·rw[if_neg hk]
  split<;>rw[qbz,if_neg hk]
theorem quj{S T:List Nat}{m:Nat}(hS:S.length=m*8)(hT:T.length=m*8)(h:∀j,j<m->qaw S j=qaw T j):S=T:=by
 apply wa2
 intro i;by_cases hi:i<m*8
 ·have e:=congrArg (λl:List Nat=>l[i%8]?) (h (i/8) Zo)
  simp only[qbz] at e;rwa [if_pos Zo,if_pos Zo,show i/8*8+i%8=i by omega] at e
 ·rw[wb7 Zo,wb7 Zo]
theorem Alike.none(m:Nat)(N:List Nat):Alike m (λ_=>Option.none) N (List.replicate m false):=λj hj=>⟨by rw[wb8,if_pos hj];rfl,λl h=>by cases h⟩
theorem Alike.flush{m i:Nat}{f:Nat->Option (List Nat)}{N S:List Nat}{B:List Bool}(h:Alike m f N B)(hN:N.length=m*8)(hS:S.length=m*8)(hB:B.length=m)(hi:i<m):
  Alike m (λk=>if k=i then some (qaw S i) else f k) (qdy N S (i*8) 8) (B.set i true):=by
 intro j hj;rw[qv1 hN hS hi hj,wen];by_cases hji:j=i
 ·subst hji
  rw[if_pos rfl,if_pos Zo,if_pos rfl];exact⟨by simp,λl hl=>by simpa using hl⟩
 ·rw[if_neg (Ne.symm hji),if_neg hji]
  have:=h j hj
  exact⟨by simpa[hji] using this.1,λl hl=>this.2 l (by simpa[hji] using hl)⟩
theorem Alike.fence{m:Nat}{f:Nat->Option (List Nat)}{K K' N:List Nat}{B:List Bool}(h:Alike m f N B)(hN:N.length=m*8)(hK:K.length=m*8)(hK':K'.length=m*8)(hl:∀k,k<m->qaw K' k=(f k).getD (qaw K k)):K'=fenL K N B (m*8):=by
 refine quj hK' (by rw[qwu];exact hK) (λj hj=>?_);rw[hl j hj,qp1 hK hN hj];obtain⟨h1,h2⟩:=h j hj;rw[h1];cases hf:f j with
 |none=>simp
 |some l=>simp[h2 l hf]
theorem qtr:(Tryz.prog.info? 3).map (λi=>(i.zero,i.size,i.bytes))=some (some (.int .i64 0),1,8):=by kernel_rfl
theorem qs4(t:Nat):madeCells #[Value.int .i64 0] t=(i64V (List.replicate t 0)).toArray:=by
 apply Array.ext'
 apply wa2
 intro j;by_cases hj:j<t
 ·simp[madeCells,i64V,hj,Nat.mod_one]
 ·simp[madeCells,i64V,hj]
theorem qkf(t:Nat)(ht:t<=2000)(w:World):(Instr.makeSlice 24 (.int .i64 (t:Int)) (.int .i64 (t:Int))).run Tryz.prog w= .ok (.slice (some ⟨w.heap.size,0,none⟩) t t) (w.alloc (.cells (i64V (List.replicate t 0)).toArray 3)):=by
 obtain⟨i,hi,hz,hs,hb⟩:=info_parts qtr;have h:=run_makeSlice (P:=Tryz.prog) w 24 3 i _ wa9 hi hz .i64 .i64 (t:Int) (t:Int) Zo (wcz _) (by rw[hs,wao];omega) (by rw[hb];omega) Zo;rw[hs,wao,wbr] at h;rw[h,<-qs4];rfl
theorem qws{w:World}{t:Nat}(ht:t<=2000){g:Nat}(h:w.heap[g]? =some (.cells (i64V (List.replicate t 0)).toArray 3 (0,0))):w.ownsRow 0 3 1 (.slice (some ⟨g,0,none⟩) t t) t (i64V (List.replicate t 0)):=
 ⟨by simp[i64V],.inr ⟨g,t,_,rfl,wat _,h,wah _,by unfold maxLen;omega,by simp[i64V],by simp[i64V]⟩⟩
theorem qrf{w:World}{p o:Nat}{c:Int}(hc:w.cell? ⟨p,o,none⟩=some (.int .i64 c))(hf:w.frozen? ⟨p,o,none⟩=false)(d:Int):
  Calls Tryz.prog 350 #[.pointer (some ⟨p,o,none⟩),.int .i64 d] w λe w'=>∃s,e= .returned (.int .i64 s)/\w'=w.setCell ⟨p,o,none⟩ (.int .i64 s):=by
 have hadd:=run_call_add (P:=Tryz.prog) Tryz.func382 Zk Zk Zk .i64 Zk (y:=d) (s:=IntKind.i64.wrap (c+d)) hc hf (by simp[go_sem]);go_enter Tryz.func350,Tryz.ntmps350;go_wp2_with fail;go_ret;exact⟨_,rfl,rfl⟩
end Go.Proofs.YtgjhkafggagniaaGreat
