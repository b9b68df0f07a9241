/- Parts. No condition. -/
import Derived.Laws.LoneSync
import Derived.Test.YtocncmbeinmiaaaGreatJoinU10
import Derived.Test.YtocncmbeinmiaaaGreatJoinU09
set_option linter.unusedVariables false
set_option maxRecDepth 100000
set_option maxHeartbeats 8000000
namespace Go.Proofs.YtocncmbeinmiaaaGreat
open Go Go.RowKit
open Go.Maps (Keyed)
def rgF(p gs gk m:Nat)(k:Nat):Prop:=k=p\/k=gs\/k=gk\/k=m
def RegQ(w:World)(base p n c gs gk m:Nat)(S K:List Nat)(f:Nat->Option (List Nat)):Prop:=
 ∃(cs ck:Nat) (st:Int) (D:DataW Value),RegAt w base p n c gs cs gk ck m st D S K f
section
variable {w:World} {base p n c gs gk m:Nat} {S K:List Nat} {f:Nat->Option (List Nat)}
theorem RegQ.reg(h:RegQ w base p n c gs gk m S K f):Reg w base p n c S K f:=by
 obtain⟨cs,ck,st,D,h⟩:=h;exact h.reg
theorem Reg.q(h:Reg w base p n c S K f):∃gs gk m,RegQ w base p n c gs gk m S K f:=by
 obtain⟨gs,cs,gk,ck,m,st,D,h⟩:=h;exact⟨gs,gk,m,cs,ck,st,D,h⟩
theorem RegQ.lts(h:RegQ w base p n c gs gk m S K f):(base<=p/\p<w.heap.size)/\(base<=gs/\gs<w.heap.size)/\(base<=gk/\gk<w.heap.size)/\(base<=m/\m<w.heap.size):=by
 obtain⟨cs,ck,st,D,h⟩:=h;exact h.lts
theorem RegQ.own(h:RegQ w base p n c gs gk m S K f):∀k,rgF p gs gk m k->base<=k/\k<w.heap.size:=by
 obtain⟨h1,h2,h3,h4⟩:=h.lts;rintro k (rfl|rfl|rfl|rfl)
 ·exact h1
 ·exact h2
 ·exact h3
 ·exact h4
theorem RegQ.upd{w':World}{G:Nat->Prop}(h:RegQ w base p n c gs gk m S K f)(hu:Upd G w w')(hG:∀k,rgF p gs gk m k->¬G k):RegQ w' base p n c gs gk m S K f:=by
 obtain⟨cs,ck,st,D,h⟩:=h;obtain⟨⟨_,l1⟩,⟨_,l2⟩,⟨_,l3⟩,⟨_,l4⟩⟩:=h.lts;obtain⟨h1,h2,h3,h4,h5,h6,h6',hp,hs,hk,hm,hD⟩:=h;exact⟨cs,ck,st,D,h1,h2,h3,h4,h5,h6,h6',by rw[hu.block p l1 (hG p (.inl rfl))];exact hp,qa5 hs (hu.block gs l2 (hG gs (.inr (.inl rfl)))),qa5 hk (hu.block gk l3 (hG gk (.inr (.inr (.inl rfl))))),qc4 hm (hu.block m l4 (hG m (.inr (.inr (.inr rfl))))),hD⟩
theorem RegQ.alloc(h:RegQ w base p n c gs gk m S K f)(o:Obj):RegQ (w.alloc o) base p n c gs gk m S K f:=by
 obtain⟨cs,ck,st,D,h⟩:=h;exact⟨cs,ck,st,D,h.alloc o⟩
theorem RegQ.stepped(h:RegQ w base p n c gs gk m S K f)(s:Int):RegQ (w.setCell ⟨p,3,none⟩ (.int .i64 s)) base p n c gs gk m S K f:=by
 obtain⟨cs,ck,st,D,h⟩:=h;exact⟨cs,ck,s,D,h.stepped s⟩
theorem q1w(h:RegQ w base p n c gs gk m S K f)(i j x bx br:Nat)(hi:i<n)(hj:j<8)(hx:x<18446744073709551616)(hbx:Boxed w bx 27 (.int .u64 (x:Int)))(hbr:Boxed w br 43 (.pointer (some ⟨p,0,none⟩))):
  Calls Tryz.prog 295 #[.int .i64 (i:Int),.int .i64 (j:Int),.pointer (some ⟨bx,0,none⟩),.pointer (some ⟨br,0,none⟩)] w λe w'=>
   e= .returned (.tuple #[])/\RegQ w' base p n c gs gk m (S.set (i*8+j) x) K f/\Upd (rgF p gs gk m) w w':=by
 obtain⟨_,_,hn,hn0⟩:=h.reg.lt;obtain⟨cs,ck,st,D,h⟩:=h;obtain⟨c0,c1,c2,c3,f3⟩:=h.cells;obtain⟨u,_,_,hold⟩:=qdx (h.2.2.2.2.2.2.2.2.1) (j:=i*8+j) Zo;have hf:=(h.2.2.2.2.2.2.2.2.1).frozenAt (i*8+j);have hb1:=hbx.cell;have hb2:=hbr.cell;have z1:(0:Int)<=(i:Int):=Zo
 have z2:(i:Int)<(n:Int):=Zo
 have z3:(0:Int)<=(j:Int):=Zo
 have z4:(j:Int)<8:=Zo
 go_enter Tryz.func295,Tryz.ntmps295;go_wp2
 go_still_tail 9,Zk
 change wpList _ _ _ _ _ w.drew;go_wp2
 go_end0
 exact⟨rfl,⟨_,_,_,_,(h.stored Zo hx).drew⟩,((Upd.refl _ w).setCell (p:=⟨gs,i*8+j,none⟩) (.inl (.inr (.inl rfl))) _).drew⟩
theorem q1h(h:RegQ w base p n c gs gk m S K f)(hc:c<maxLen)(i j br:Nat)(hi:i<n)(hbr:Boxed w br 43 (.pointer (some ⟨p,0,none⟩))):
  Calls Tryz.prog 298 #[.int .i64 (i:Int),.int .i64 (j:Int),.pointer (some ⟨br,0,none⟩)] w λe w'=>
   e= .returned (.tuple #[])/\RegQ w' base p n (c+1) gs gk m S K (λk=>if k=i then some (qap S i) else f k)/\Upd (rgF p gs gk m) w w':=by
 obtain⟨_,_,hn,hn0⟩:=h.reg.lt;obtain⟨cs,ck,st,D,h⟩:=h;obtain⟨c0,c1,c2,c3,f3⟩:=h.cells;have hb2:=hbr.cell;obtain⟨hSl,_⟩:=h.len;have hll:=qhr hSl hi;have hrange:=qjr (h.2.2.2.2.2.2.2.2.1) hi;obtain⟨_,_,_,_,_,_,_,_,_,_,hm,hD,hS,_⟩:=id h;have hD':=hD.put hi hll (λx hx=>hS x (q4e hx));have z1:(0:Int)<=(i:Int):=Zo
 have z2:(i:Int)<(n:Int):=Zo
 go_enter Tryz.func298,Tryz.ntmps298;go_wp2
 go_still_tail 12,Zk
 refine qj8 rfl _ rfl gs (i*8) rfl hrange hll ?_;refine wpStill_nil ?_;change wpList _ _ _ _ _ w.drew;go_wp2_with (at_mapUpdate;refine wpList_mapUpdate_own _ rfl _ _ _ 95 rfl 3 101 qk6 we1 qd1 m c D rfl (show w.drew.ownsMap _ _ _ _ _ _ from hm) hc _ _ (.int .i64 (i:Int)) rfl rfl (qxb Zo) (.held (qcd (qap S i))) [] rfl ?_;intro w1 hown1 hgrow1)
 go_end0
 exact⟨rfl,⟨_,_,_,_,h.drew.noted hgrow1 hown1 hD'⟩,(Upd.refl _ w).drew.grown hgrow1 (λk hk=>by injection hk with hk;exact .inl (.inr (.inr (.inr hk.symm))))⟩
theorem q23(h:RegQ w base p n c gs gk m S K f)(i j:Int)(br:Nat)(hbr:Boxed w br 43 (.pointer (some ⟨p,0,none⟩))):
  Calls Tryz.prog 299 #[.int .i64 i,.int .i64 j,.pointer (some ⟨br,0,none⟩)] w λe w'=>
   e= .returned (.tuple #[])/\∃K',(∀k,k<n->qap K' k=(f k).getD (qap K k))/\RegQ w' base p n c gs gk m S K' (λ_=>none)/\Upd (rgF p gs gk m) w w':=by
 obtain⟨_,_,hn,hn0⟩:=h.reg.lt;obtain⟨cs,ck,st,D,h⟩:=h;obtain⟨c0,c1,c2,c3,f3⟩:=h.cells;have hb2:=hbr.cell;have hm:=h.2.2.2.2.2.2.2.2.2.2.1;have hD:=h.2.2.2.2.2.2.2.2.2.2.2.1;have hlts:=h.lts;have hbrl:=hbr.lt;go_enter Tryz.func299,Tryz.ntmps299;go_wp2_with (at_range;refine wpList_range_own _ rfl _ 95 rfl 3 101 qk6 we1 qd1 m c D rfl hm ?_;intro w0 hrg0 hg0 hs0)
 go_frame
 have h0:RegAt w0 base p n c gs cs gk ck m st D S K f:=h.of_blocks λk hk=>hg0.block k hk Zs
 have hbr0:Boxed w0 br 43 (.pointer (some ⟨p,0,none⟩)):=hbr.kept hg0 Zs;have hB0:Upd (rgF p gs gk m) w w0:=(Upd.refl _ w).grown hg0 Zs;clear c0 c1 c2 c3 f3 hb2 hm h hbr hg0;go_loopw [5] (λ_ wr=>∃(W:World) (left:Lit->Bool) (cnt:Nat) (K':List Nat),W=wr/\W.ranges Tryz.prog 3 qd1 m w.heap.size c D left cnt/\RegAt W base p n c gs cs gk ck m st D S K' f/\qlb D n f K K' left/\Boxed W br 43 (.pointer (some ⟨p,0,none⟩))/\Upd (rgF p gs gk m) w W) (λ_ wr=>wr.rangeLeft m w.heap.size)
 case atStart=>exact⟨_,_,_,K,rfl,hrg0,h0,qqy hD K,hbr0,hB0⟩
 case round=>
  clear hrg0 h0 hbr0 hB0 hs0;obtain⟨wr,left,cnt,K',rfl,hrg,hr,hF,hbr,hB⟩:=hrel;have hleft:=hF.1;go_wp2_with (at_next;refine ql7 rfl _ rfl rfl hrg hD hleft ?_ ?_)
  ·intro hdone
   obtain⟨c0,c1,c2,c3,f3⟩:=hr.cells;have hb2:=hbr.cell;have hm:=hr.2.2.2.2.2.2.2.2.2.2.1;have hfin:Hid (∀k,k<n->qap K' k=(f k).getD (qap K k)):=waa λk hk=>by rw[hF.2 k hk,hdone];rfl
   clear hdone hleft hF hrg;go_wp2_with (refine qhe rfl _ _ rfl we1 rfl hm ?_;intro w3 hown3 hg3)
   go_end0
   exact⟨rfl,K',hfin.out,⟨_,_,_,_,hr.noted hg3 hown3 Noted.empty⟩,hB.grown hg3 (λk hk=>by injection hk with hk;exact .inl (.inr (.inr (.inr hk.symm))))⟩
  ·intro q l w1 cnt1 hq hfq hlq hrg1 hlt hg1 hs1 hen
   have hlts2:=hr.lts;have hbl:=hbr.lt;have hr1:RegAt w1 base p n c gs cs gk ck m st D S K' f:=hr.kept hg1 Zo Zo Zo Zo;have hbr1:Boxed w1 br 43 (.pointer (some ⟨p,0,none⟩)):=hbr.kept hg1 Zx;have hB1:Upd (rgF p gs gk m) w w1:=hB.grown hg1 (λk hk=>by injection hk with hk;exact .inr Zo);have hl8:=(hD.2.2.2 q l hfq).2.1;have hlb:=(hD.2.2.2 q l hfq).2.2.1;have hF1:=qrr hF hr.len.2 hq hfq hl8;have hbox:=qdc (W:=w1) #[.int .u64 0,.int .u64 0,.int .u64 0,.int .u64 0,.int .u64 0,.int .u64 0,.int .u64 0,.int .u64 0] 101 (u64V l);have hr2:=hr1.below hbox;have hbr2:Boxed _ br 43 (.pointer (some ⟨p,0,none⟩)):=(hbox.block br hbr1.lt).trans hbr1;have hB2:=hB1.trans (.of_below hbox (wab _));have hrg2:=hrg1.kept (row:=none) (w':=(w1.alloc (.cells #[.int .u64 0,.int .u64 0,.int .u64 0,.int .u64 0,.int .u64 0,.int .u64 0,.int .u64 0,.int .u64 0] 101)).setCells w1.heap.size 0 (u64V l)) ⟨hbox.os,hbox.tape,hbox.output,hbox.size,λk hk _=>hbox.block k hk⟩ Zs Zs;have hrng2:=qdq (W:=w1) (C:=#[.int .u64 0,.int .u64 0,.int .u64 0,.int .u64 0,.int .u64 0,.int .u64 0,.int .u64 0,.int .u64 0]) (t:=101) (vs:=u64V l) (by rw[qai,hl8];rfl);have hz1:(0:Int)<=(q:Int):=Zo
   have hz2:(q:Int)<(n:Int):=Zo
   have hleq:=hrg.left_eq;clear hbox hr hbr hB hF hrg hr1 hbr1 hB1 hrg1 hg1 hlq hfq hleft hs1;go_wp2_with (refine qbu rfl _ _ rfl w1.heap.size 0 rfl rfl (qb0 rfl _ _) hl8 ?_;generalize (w1.alloc (.cells #[.int .u64 0,.int .u64 0,.int .u64 0,.int .u64 0,.int .u64 0,.int .u64 0,.int .u64 0,.int .u64 0] 101)).setCells w1.heap.size 0 (u64V l)=W2 at hr2 hB2 hbr2 hrg2 hrng2 ⊢;obtain⟨c0,c1,c2,c3,f3⟩:=hr2.cells;have hb2:=hbr2.cell)
   simp only[Act.put];have hthere:=q3q (hr2.2.2.2.2.2.2.2.2.2.1) hq;have h3:=hr2.drew.keptLine hq hl8 hlb;have hap:=hr2.apart;have hrgd:W2.drew.ranges Tryz.prog 3 qd1 m w.heap.size c D (λz=>left z&&!z.sameKey (Lit.int .i64 (q:Int))) cnt1:=hrg2;have hrg3:=hrgd.kept (qek gk (u64V l) (q*8) W2.drew) (λe=>by injection e with e;omega) (λe=>by injection e with e;omega);have hbrk:br≠gk:=λe=>by
    have h1:W2.heap[br]? =_:=hbr2;obtain⟨_,e2⟩:=hr2.2.2.2.2.2.2.2.2.2.1;rcases e2 with ⟨e2,_⟩|⟨g,cap,cur,a1,a2,a3,a4⟩
    ·cases e2
    ·injection a1 with a1;injection a1 with a1;injection a1 with a1
     rw[<-a1,<-e,h1] at a3;cases a3
   have hbr3:Boxed (W2.drew.setCells gk (q*8) (u64V l)) br 43 (.pointer (some ⟨p,0,none⟩)):=Boxed.kept (W:=W2.drew) hbr2 (qek _ _ _ _) (λe=>hbrk (by injection e));have hB3:Upd (rgF p gs gk m) w (W2.drew.setCells gk (q*8) (u64V l)):=hB2.drew.grown (qek gk (u64V l) (q*8) W2.drew) (λk hk=>by injection hk with hk;exact .inl (.inr (.inr (.inl hk.symm))));go_still_tail 7,Zk
   refine qj8 rfl _ rfl w1.heap.size 0 rfl hrng2 hl8 ?_;repeat still_step
   refine wpStill_nil ?_;change wpList _ _ _ _ _ W2.drew;refine qbu rfl _ _ rfl gk (q*8) rfl rfl hthere hl8 ?_;simp only[Act.put];generalize W2.drew.setCells gk (q*8) (u64V l)=W3 at h3 hrg3 hbr3 hB3 ⊢;go_wp2
   go_roundw
   case rel=>exact⟨_,_,cnt1,_,rfl,hrg3,h3,hF1,hbr3,hB3⟩
   case measure=>rw[hrg3.left_eq,hleq];exact hlt
end
section
variable {w:World} {base p n c gs gk m:Nat} {S K:List Nat} {f:Nat->Option (List Nat)}
theorem q29(h:RegQ w base p n c gs gk m S K f){a x:Nat}(ha:a<n*8)(hx:x<18446744073709551616):
  Calls Tryz.prog 222 #[.pointer (some ⟨p,0,none⟩),.int .i64 (a:Int),.int .u64 (x:Int)] w λe w'=>e= .returned (.int .i64 0)/\RegQ w' base p n c gs gk m (S.set a x) K f/\Upd (rgF p gs gk m) w w':=by
 have hmf:∀(fn:Fn) (first cap:Array Value) (w:World),(Instr.makeFunc fn first cap).run Tryz.prog w= .ok (.func fn first cap) w:=λ_ _ _ _=>rfl
 have hW:=(h.alloc (.cells #[.pointer (some ⟨p,0,none⟩)] 43)).alloc (.cells #[.int .u64 (x:Int)] 27);have hbr:=(Boxed.new w 43 (.pointer (some ⟨p,0,none⟩))).alloc (.cells #[.int .u64 (x:Int)] 27);have hbx:=Boxed.new (w.alloc (.cells #[.pointer (some ⟨p,0,none⟩)] 43)) 27 (.int .u64 (x:Int));have hB:=((Upd.refl (rgF p gs gk m) w).alloc (.cells #[.pointer (some ⟨p,0,none⟩)] 43)).alloc (.cells #[.int .u64 (x:Int)] 27);rw[show(w.alloc (.cells #[.pointer (some ⟨p,0,none⟩)] 43)).heap.size=w.heap.size+1 by simp] at hbx;have hdo:=q1w hW (a/8) (a%8) x _ _ Zo Zo hx hbx hbr;rw[qt9] at hdo;have hst:=qzl hW.reg ha (R:=λw1=>RegQ w1 base p n c gs gk m (S.set a x) K f/\Upd (rgF p gs gk m) _ w1) hdo (λw1 hr=>hr.1.reg.count);clear hdo hbr hbx hW;go_enter Tryz.func222,Tryz.ntmps222;go_wp2_with (go_at_call 287;refine hst.mono ?_;rintro e w1 ⟨rfl,w2,s,⟨hr,hb⟩,rfl⟩)
 go_ret;exact⟨rfl,hr.stepped s,(hB.trans hb).setCell (p:=⟨p,3,none⟩) (.inl (.inl rfl)) _⟩
theorem qxn(h:RegQ w base p n c gs gk m S K f){a:Int}(ha:¬(0<=a/\a<(n:Int)*8))(x:Int):
  Calls Tryz.prog 222 #[.pointer (some ⟨p,0,none⟩),.int .i64 a,.int .u64 x] w λe w'=>e= .returned (.int .i64 13)/\RegQ w' base p n c gs gk m S K f/\Upd (rgF p gs gk m) w w':=by
 have hmf:∀(fn:Fn) (first cap:Array Value) (w:World),(Instr.makeFunc fn first cap).run Tryz.prog w= .ok (.func fn first cap) w:=λ_ _ _ _=>rfl
 have hW:=(h.alloc (.cells #[.pointer (some ⟨p,0,none⟩)] 43)).alloc (.cells #[.int .u64 x] 27);have hB:=((Upd.refl (rgF p gs gk m) w).alloc (.cells #[.pointer (some ⟨p,0,none⟩)] 43)).alloc (.cells #[.int .u64 x] 27);go_enter Tryz.func222,Tryz.ntmps222;go_wp2_with (go_at_call 287;refine(qod hW.reg ha _).mono ?_;rintro e w1 ⟨rfl,rfl⟩)
 go_ret;exact⟨rfl,hW,hB⟩
theorem q7r(h:RegQ w base p n c gs gk m S K f){a:Nat}(ha:a<n*8):
  Calls Tryz.prog 216 #[.pointer (some ⟨p,0,none⟩),.int .i64 (a:Int)] w λe w'=>∃x:Nat,S[a]? =some x/\e= .returned (.tuple #[.int .u64 (x:Int),.int .i64 0])/\RegQ w' base p n c gs gk m S K f/\Upd (rgF p gs gk m) w w':=by
 have hmf:∀(fn:Fn) (first cap:Array Value) (w:World),(Instr.makeFunc fn first cap).run Tryz.prog w= .ok (.func fn first cap) w:=λ_ _ _ _=>rfl
 have hbase:=h.reg.base_le;have hlt:=h.reg.lt;have hW:=(h.reg.alloc (.cells #[.pointer (some ⟨p,0,none⟩)] 43)).alloc (.cells #[.int .u64 0] 27);have hbr:=(Boxed.new w 43 (.pointer (some ⟨p,0,none⟩))).alloc (.cells #[.int .u64 0] 27);have hbx:=Boxed.new (w.alloc (.cells #[.pointer (some ⟨p,0,none⟩)] 43)) 27 (.int .u64 0);have hB:=((wac w.heap.size w).alloc (wab _) (.cells #[.pointer (some ⟨p,0,none⟩)] 43)).alloc Zs (.cells #[.int .u64 0] 27);rw[show(w.alloc (.cells #[.pointer (some ⟨p,0,none⟩)] 43)).heap.size=w.heap.size+1 by simp] at hbx;have hdo:=qaa6 hW (a/8) (a%8) _ _ _ Zo Zo hbx hbr Zo;rw[qt9] at hdo;have hst:=q3l hW ha (R:=λw1=>∃x:Nat,S[a]? =some x/\w1=World.setCell _ ⟨w.heap.size+1,0,none⟩ (.int .u64 (x:Int))) hdo (λw1 hr=>by
  obtain⟨x,_,rfl⟩:=hr;exact(h.reg.below (hB.setCell (p:=⟨w.heap.size+1,0,none⟩) Zs (.int .u64 (x:Int)))).count)
 clear hdo hbr hW;go_enter Tryz.func216,Tryz.ntmps216;go_wp2_with (go_at_call 287;refine hst.mono ?_;rintro e w1 ⟨rfl,w2,s,⟨x,hx,rfl⟩,rfl⟩;have hcx:=(hbx.set (.int .u64 (x:Int))).cell;have hne:((⟨p,3,none⟩:Addr)=⟨w.heap.size+1,0,none⟩)=False:=by simp)
 go_ret2;exact⟨x,hx,rfl,((h.stepped s).alloc _).alloc _,(((Upd.refl _ w).setCell (p:=⟨p,3,none⟩) (.inl (.inl rfl)) (.int .i64 s)).alloc _).alloc _⟩
theorem q38(h:RegQ w base p n c gs gk m S K f){a:Int}(ha:¬(0<=a/\a<(n:Int)*8)):
  Calls Tryz.prog 216 #[.pointer (some ⟨p,0,none⟩),.int .i64 a] w λe w'=>e= .returned (.tuple #[.int .u64 0,.int .i64 13])/\RegQ w' base p n c gs gk m S K f/\Upd (rgF p gs gk m) w w':=by
 have hmf:∀(fn:Fn) (first cap:Array Value) (w:World),(Instr.makeFunc fn first cap).run Tryz.prog w= .ok (.func fn first cap) w:=λ_ _ _ _=>rfl
 have hW:=(h.alloc (.cells #[.pointer (some ⟨p,0,none⟩)] 43)).alloc (.cells #[.int .u64 0] 27);have hB:=((Upd.refl (rgF p gs gk m) w).alloc (.cells #[.pointer (some ⟨p,0,none⟩)] 43)).alloc (.cells #[.int .u64 0] 27);go_enter Tryz.func216,Tryz.ntmps216;go_wp2_with (go_at_call 287;refine(qod hW.reg ha _).mono ?_;rintro e w1 ⟨rfl,rfl⟩)
 go_ret2;exact⟨rfl,hW,hB⟩
theorem q19(h:RegQ w base p n c gs gk m S K f)(hc:c<maxLen){a:Nat}(ha:a<n*8):
  Calls Tryz.prog 226 #[.pointer (some ⟨p,0,none⟩),.int .i64 (a:Int)] w λe w'=>e= .returned (.int .i64 0)/\RegQ w' base p n (c+1) gs gk m S K (λk=>if k=a/8 then some (qap S (a/8)) else f k)/\Upd (rgF p gs gk m) w w':=by
 have hmf:∀(fn:Fn) (first cap:Array Value) (w:World),(Instr.makeFunc fn first cap).run Tryz.prog w= .ok (.func fn first cap) w:=λ_ _ _ _=>rfl
 have hW:=h.alloc (.cells #[.pointer (some ⟨p,0,none⟩)] 43);have hbr:=Boxed.new w 43 (.pointer (some ⟨p,0,none⟩));have hB:=(Upd.refl (rgF p gs gk m) w).alloc (.cells #[.pointer (some ⟨p,0,none⟩)] 43);have hdo:=q1h hW hc (a/8) (a%8) _ Zo hbr;have hst:=qyr hW.reg ha (R:=λw1=>RegQ w1 base p n (c+1) gs gk m S K (λk=>if k=a/8 then some (qap S (a/8)) else f k)/\Upd (rgF p gs gk m) _ w1) hdo (λw1 hr=>hr.1.reg.count);clear hdo hbr hW;go_enter Tryz.func226,Tryz.ntmps226;go_wp2_with (go_at_call 287;refine hst.mono ?_;rintro e w1 ⟨rfl,w2,s,⟨hr,hb⟩,rfl⟩)
 go_ret;exact⟨rfl,hr.stepped s,(hB.trans hb).setCell (p:=⟨p,3,none⟩) (.inl (.inl rfl)) _⟩
theorem qyh(h:RegQ w base p n c gs gk m S K f){a:Int}(ha:¬(0<=a/\a<(n:Int)*8)):
  Calls Tryz.prog 226 #[.pointer (some ⟨p,0,none⟩),.int .i64 a] w λe w'=>e= .returned (.int .i64 13)/\RegQ w' base p n c gs gk m S K f/\Upd (rgF p gs gk m) w w':=by
 have hmf:∀(fn:Fn) (first cap:Array Value) (w:World),(Instr.makeFunc fn first cap).run Tryz.prog w= .ok (.func fn first cap) w:=λ_ _ _ _=>rfl
 have hW:=h.alloc (.cells #[.pointer (some ⟨p,0,none⟩)] 43);have hB:=(Upd.refl (rgF p gs gk m) w).alloc (.cells #[.pointer (some ⟨p,0,none⟩)] 43);go_enter Tryz.func226,Tryz.ntmps226;go_wp2_with (go_at_call 287;refine(qod hW.reg ha _).mono ?_;rintro e w1 ⟨rfl,rfl⟩)
 go_ret;exact⟨rfl,hW,hB⟩
theorem qz3(h:RegQ w base p n c gs gk m S K f):
  Calls Tryz.prog 228 #[.pointer (some ⟨p,0,none⟩)] w λe w'=>∃K',(∀k,k<n->qap K' k=(f k).getD (qap K k))/\e= .returned (.int .i64 0)/\RegQ w' base p n c gs gk m S K' (λ_=>none)/\Upd (rgF p gs gk m) w w':=by
 have hmf:∀(fn:Fn) (first cap:Array Value) (w:World),(Instr.makeFunc fn first cap).run Tryz.prog w= .ok (.func fn first cap) w:=λ_ _ _ _=>rfl
 have hW:=h.alloc (.cells #[.pointer (some ⟨p,0,none⟩)] 43);have hbr:=Boxed.new w 43 (.pointer (some ⟨p,0,none⟩));have hB:=(Upd.refl (rgF p gs gk m) w).alloc (.cells #[.pointer (some ⟨p,0,none⟩)] 43);have hn:=h.reg.lt.2.2.2;have hdo:=q23 hW ((0/8:Nat):Int) ((0%8:Nat):Int) _ hbr;have hst:=qxs (a:=0) hW.reg Zo (R:=λw1=>∃K',(∀k,k<n->qap K' k=(f k).getD (qap K k))/\RegQ w1 base p n c gs gk m S K' (λ_=>none)/\Upd (rgF p gs gk m) _ w1) hdo (λw1 hr=>by obtain⟨_,_,hr,_⟩:=hr;exact hr.reg.count);clear hdo hbr hW;go_enter Tryz.func228,Tryz.ntmps228;go_wp2_with (go_at_call 287;refine hst.mono ?_;rintro e w1 ⟨rfl,w2,s,⟨K',hK',hr,hb⟩,rfl⟩;have hKh:=waa hK';clear hK')
 go_ret;exact⟨K',hKh.out,rfl,hr.stepped s,(hB.trans hb).setCell (p:=⟨p,3,none⟩) (.inl (.inl rfl)) _⟩
end
end Go.Proofs.YtocncmbeinmiaaaGreat
namespace Go.Proofs.YtocncmbeinmiaaaGreat
open Go Go.RowKit
def Alike(m:Nat)(f:Nat->Option (List Nat))(N:List Nat)(B:List Bool):Prop:=
 ∀j,j<m->B[j]?.getD false=(f j).isSome/\∀l,f j=some l->qap N j=l
theorem qc0(S:List Nat)(j k:Nat):(qap S j)[k]? =if k<8 then S[j*8+k]? else none:=by
 unfold qap;rw[wbh,wbd]
theorem q2a{N S:List Nat}{m i j:Nat}(hN:N.length=m*8)(hS:S.length=m*8)(hi:i<m)(hj:j<m):qap (qc2 N S (i*8) 8) j=if j=i then qap S i else qap N j:=by
 apply wa3
 intro k;rw[qc0];by_cases hk:k<8
 ·rw[if_pos hk,qc2,wd6,waj (show j*8+k<N.length by omega),wbo]
  by_cases hji:j=i
  ·subst hji
   rw[if_pos Zo,if_pos rfl,qc0,if_pos hk,waj (show j*8+k<S.length by omega),wa8]
  ·rw[if_neg Zo,if_neg hji,qc0,if_pos hk,waj (show j*8+k<N.length by omega)]
 ·rw[if_neg hk]
  split<;>rw[qc0,if_neg hk]
theorem qz9{K N:List Nat}{B:List Bool}{m j:Nat}(hK:K.length=m*8)(hN:N.length=m*8)(hj:j<m):qap (fenL K N B (m*8)) j=if B[j]?.getD false=true then qap N j else qap K j:=by
 apply wa3
 intro k;rw[qc0];by_cases hk:k<8
 ·rw[if_pos hk,fenL,wd6,waj (show j*8+k<K.length by omega),wbo,show(j*8+k)/8=j by omega]
  by_cases hb:B[j]?.getD false=true
  ·rw[if_pos ⟨Zo,hb⟩,if_pos hb,qc0,if_pos hk,waj (show j*8+k<N.length by omega),wa8]
  ·rw[if_neg (λh=>hb h.2),if_neg hb,qc0,if_pos hk,waj (show j*8+k<K.length by omega)]
 ·rw[if_neg hk]
  split<;>rw[qc0,if_neg hk]
theorem q4v{S T:List Nat}{m:Nat}(hS:S.length=m*8)(hT:T.length=m*8)(h:∀j,j<m->qap S j=qap T j):S=T:=by
 apply wa3
 intro i;by_cases hi:i<m*8
 ·have e:=congrArg (λl:List Nat=>l[i%8]?) (h (i/8) Zo)
  simp only[qc0] at e;rwa [if_pos Zo,if_pos Zo,show i/8*8+i%8=i by omega] at e
 ·rw[wbp Zo,wbp Zo]
theorem Alike.none(m:Nat)(N:List Nat):Alike m (λ_=>Option.none) N (List.replicate m false):=λj hj=>⟨by rw[wcu,if_pos hj];rfl,λl h=>by cases h⟩
theorem Alike.flush{m i:Nat}{f:Nat->Option (List Nat)}{N S:List Nat}{B:List Bool}(h:Alike m f N B)(hN:N.length=m*8)(hS:S.length=m*8)(hB:B.length=m)(hi:i<m):
  Alike m (λk=>if k=i then some (qap S i) else f k) (qc2 N S (i*8) 8) (B.set i true):=by
 intro j hj;rw[q2a hN hS hi hj,wcx];by_cases hji:j=i
 ·subst hji
  rw[if_pos rfl,if_pos Zo,if_pos rfl];exact⟨by simp,λl hl=>by simpa using hl⟩
 ·rw[if_neg (Ne.symm hji),if_neg hji]
  have:=h j hj
  exact⟨by simpa[hji] using this.1,λl hl=>this.2 l (by simpa[hji] using hl)⟩
theorem Alike.fence{m:Nat}{f:Nat->Option (List Nat)}{K K' N:List Nat}{B:List Bool}(h:Alike m f N B)(hN:N.length=m*8)(hK:K.length=m*8)(hK':K'.length=m*8)(hl:∀k,k<m->qap K' k=(f k).getD (qap K k)):K'=fenL K N B (m*8):=by
 refine q4v hK' (by rw[qt0];exact hK) (λj hj=>?_);rw[hl j hj,qz9 hK hN hj];obtain⟨h1,h2⟩:=h j hj;rw[h1];cases hf:f j with
 |none=>simp
 |some l=>simp[h2 l hf]
def LkR(w:World)(p g n:Nat)(L:List Int):Prop:=
 ∃(c:Nat) (st:Int),p≠g/\(1<=n/\n<=16)/\w.heap[p]? =some (.cells #[.slice (some ⟨g,0,none⟩) n c,.int .i64 st] 132 (0,0))/\w.ownsRow 0 3 1 (.slice (some ⟨g,0,none⟩) n c) n (i64V L)
section
variable {w w':World} {p g n:Nat} {L:List Int}
theorem LkR.len(h:LkR w p g n L):L.length=n/\1<=n/\n<=16:=by
 obtain⟨c,st,_,hn,_,ho⟩:=h;have:=ho.1
 rw[qcn] at this;omega
theorem LkR.lts(h:LkR w p g n L):p<w.heap.size/\g<w.heap.size:=by
 obtain⟨c,st,_,_,hp,ho⟩:=h;exact⟨(wal.1 hp).1,(ho.lt g rfl).2⟩
theorem LkR.upd{G:Nat->Prop}(h:LkR w p g n L)(hu:Upd G w w')(h1:¬G p)(h2:¬G g):LkR w' p g n L:=by
 obtain⟨l1,l2⟩:=h.lts;obtain⟨c,st,hne,hn,hp,ho⟩:=h;exact⟨c,st,hne,hn,(hu.block p l1 h1).trans hp,q88 ho (hu.block g l2 h2)⟩
theorem LkR.cell(h:LkR w p g n L){k:Nat}(hk:k<n):w.cell? ⟨g,k,none⟩=some (.int .i64 (L[k]?.getD 0))/\w.frozen? ⟨g,k,none⟩=false:=by
 have hl:=h.len;obtain⟨c,st,hne,hn,hp,ho⟩:=h;refine⟨?_,ho.frozenAt k⟩;rw[ho.cellAt k Zo];simp[i64V,List.getElem?_eq_getElem (show k<L.length by omega)]
theorem LkR.set(h:LkR w p g n L)(k:Nat)(x:Int):LkR (w.setCell ⟨g,k,none⟩ (.int .i64 x)) p g n (L.set k x):=by
 obtain⟨c,st,hne,hn,hp,ho⟩:=h;refine⟨c,st,hne,hn,(wat _ _ _ _ hne).trans hp,?_⟩;have:=(ho.stored k (.int .i64 x)).1
 rwa [q9k] at this
theorem LkR.cells(h:LkR w p g n L):∃(c:Nat) (st:Int),w.cell? ⟨p,0,none⟩=some (.slice (some ⟨g,0,none⟩) n c)/\w.cell? ⟨p,1,none⟩=some (.int .i64 st)/\w.frozen? ⟨p,1,none⟩=false:=by
 obtain⟨c,st,hne,hn,hp,ho⟩:=h;exact⟨c,st,by rw[qaa hp];rfl,by rw[qaa hp];rfl,qaj hp 1⟩
theorem q7s(h:LkR w p g n L):Calls Tryz.prog 106 #[.pointer (some ⟨p,0,none⟩)] w λe w'=>e= .returned (.int .i64 (n:Int))/\w'=w:=by
 obtain⟨c,st,c0,c1,f1⟩:=h.cells;go_enter Tryz.func106,Tryz.ntmps106;go_wp2_with fail;go_ret;exact⟨rfl,rfl⟩
def Free(L:List Int):Prop:=∀x∈L,-1<=x
theorem q00{L:List Int}{t:Nat}(h:t<L.length):(List.replicate t (-1:Int)++L.drop t).set t (-1)=List.replicate (t+1) (-1)++L.drop (t+1):=by
 rw[wbc h,List.set_append_right _ _ Zs,wfo,wcw,wah,List.replicate_succ',wbm];rfl
theorem q4d(h:LkR w p g n L):
  Calls Tryz.prog 68 #[.pointer (some ⟨p,0,none⟩)] w λe w'=>e= .returned (.tuple #[])/\LkR w' p g n (List.replicate n (-1))/\Upd (tbF p g) w w':=by
 obtain⟨c,st,c0,c1,f1⟩:=h.cells;have hl:=h.len;have hU:=waa (Upd.refl (tbF p g) w);have h0:LkR w p g n (List.replicate 0 (-1)++L.drop 0):=by simpa using h
 have h0:=waa h0;clear h;have hle:=waa (q7s h0.out);go_enter Tryz.func68,Tryz.ntmps68;go_wp2_with fail;refine hle.out.mono ?_;rintro e w1 ⟨rfl,hw1⟩;subst hw1;go_wp2_with fail;go_loopg [5,2] n (λk s5 s2 wr=>∃t:Nat,s5= .int .i64 (t:Int)/\n - t<=k/\t<=n/\Hid (LkR wr p g n (List.replicate t (-1)++L.drop t))/\Hid (Upd (tbF p g) w1 wr))
 case atStart=>exact⟨0,rfl,Zo,Zo,h0,hU⟩
 case round=>
  obtain⟨t,rfl,hkt,ht,hT,hU⟩:=hrel;obtain⟨c',st,c0,c1,f1⟩:=hT.out.cells;by_cases hlt:t<n
  ·obtain⟨y0,y1⟩:=hT.out.cell hlt
   have hT1:=hT.out.set t (-1);rw[q00 (show t<L.length by omega)] at hT1;have hT1:=waa hT1;have hU1:=waa (hU.out.setCell (p:=⟨g,t,none⟩) (.inl (.inr rfl)) (.int .i64 (-1)));generalize (List.replicate t (-1)++L.drop t)[t]?.getD 0=y at y0;have z0:(0:Int)<=(t:Int):=Zo
   have z1:(t:Int)<(n:Int):=Zo
   go_wp2_with fail;go_roundg (n - (t+1))
   case measure=>omega
   case rel=>exact⟨t+1,by go_num,Zo,Zo,hT1,hU1⟩
  ·obtain rfl:t=n:=Zo
   have hfin:=hT.out;rw[List.drop_of_length_le Zo,wbl] at hfin;have hfin:=waa hfin;go_wp2_with fail
   first|go_end0|go_ret
   exact⟨rfl,hfin.out,hU.out⟩
end
theorem q8o(k:Nat)(h1:1<=k)(h2:k<=16)(w:World):
  Calls Tryz.prog 37 #[.int .i64 (k:Int)] w λe w'=>(∃p g,e= .returned (.pointer (some ⟨p,0,none⟩))/\w.heap.size<=p/\w.heap.size<=g/\LkR w' p g k (List.replicate k (-1)))/\Below w.heap.size w w':=by
 have hmk:=qoy k Zo;have hB0:=((wac w.heap.size w).alloc (wab _) (.cells (i64V (List.replicate k 0)).toArray 3)).alloc Zs (.cells #[.slice (some ⟨w.heap.size,0,none⟩) k k,.int .i64 0] 132);have hT0:LkR ((w.alloc (.cells (i64V (List.replicate k 0)).toArray 3)).alloc (.cells #[.slice (some ⟨w.heap.size,0,none⟩) k k,.int .i64 0] 132)) (w.heap.size+1) w.heap.size k (List.replicate k 0):=
  ⟨k,0,Zo,⟨h1,h2⟩,qan Zs _ _,q6f Zo (qag (qan rfl _ _) _)⟩
 have hdr:=waa (q4d hT0);have hB0:=waa hB0;have z1:¬(k:Int)<1:=Zo
 have z2:¬16<(k:Int):=Zo
 have d1:decide ((k:Int)<1)=false:=decide_eq_false z1;have d2:decide (16<(k:Int))=false:=decide_eq_false z2;clear hT0;go_enter Tryz.func37,Tryz.ntmps37;go_wp2_with (go_at_call 68;go_loud (refine hdr.out.mono ?_;rintro e w1 ⟨rfl,hT,hU⟩;have hT:=waa hT;have hU:=waa hU))
 go_ret;refine⟨⟨_,_,rfl,wd7 _,wab _,hT.out⟩,hB0.out.trans ((hU.out.below (B:=w.heap.size) ?_ hB0.out.size).mono (wab _))⟩;rintro j (rfl|rfl)
 ·exact wd7 _
 ·exact wab _
def PsR(w:World)(p gs gk m n tp tg nl C:Nat)(D:DM):Prop:=
 (∃f,RegQ w 0 p n C gs gk m D.S D.K f/\Alike n f D.N D.B)/\LkR w tp tg nl D.L/\Free D.L/\D.N.length=n*8/\D.B.length=n/\(∀x∈D.S,x<18446744073709551616)
def psF(p gs gk m tp tg:Nat)(k:Nat):Prop:=rgF p gs gk m k\/tbF tp tg k
def doF(n nl:Nat)(who:Int)(kind:Nat)(a:Int)(x:Nat)(D:DM):Option (Nat×DM):=
 if kind=0 then some (0,{D with S:=if qay n a then D.S.set a.toNat x else D.S})
 else if kind=1 then some (if qay n a then D.S[a.toNat]?.getD 0 else 0,D)
 else if kind=2 then some (0,{D with N:=if qay n a then qc2 D.N D.S (a.toNat/8*8) 8 else D.N,B:=if qay n a then D.B.set (a.toNat/8) true else D.B})
 else if kind=3 then some (0,{D with K:=fenL D.K D.N D.B (n*8),B:=List.replicate n false})
 else if kind=4 then(if q9q D.L nl a who=0 then some (0,{D with L:=qacu D.L nl a who}) else none)
 else if kind=5 then some (0,{D with L:=qab6 D.L nl a who})
 else some (x,D)
section
variable {w w':World} {p gs gk m n tp tg nl C:Nat} {D:DM} {G:Nat->Prop}
theorem RegQ.more{base c d:Nat}{S K:List Nat}{f:Nat->Option (List Nat)}(h:RegQ w base p n c gs gk m S K f)(hd:c<=d):RegQ w base p n d gs gk m S K f:=by
 obtain⟨cs,ck,st,D,h1,h2,h3,h4,h5,h6,h6',hp,hs,hk,hm,hD⟩:=h;exact⟨cs,ck,st,D,h1,h2,h3,h4,h5,h6,h6',hp,hs,hk,hm.mono hd,hD⟩
theorem RegQ.lower{base c:Nat}{S K:List Nat}{f:Nat->Option (List Nat)}(h:RegQ w base p n c gs gk m S K f):RegQ w 0 p n c gs gk m S K f:=by
 obtain⟨cs,ck,st,D,h1,h2,h3,h4,h5,h6,h6',hp,hs,hk,hm,hD⟩:=h;exact⟨cs,ck,st,D,wau _,wau _,h3,h4,h5,h6,h6',hp,qax hs (wau _),qax hk (wau _),hm,hD⟩
theorem RegQ.words{base c:Nat}{S K:List Nat}{f:Nat->Option (List Nat)}(h:RegQ w base p n c gs gk m S K f):S.length=n*8/\K.length=n*8/\(∀x∈S,x<18446744073709551616)/\n<=2048:=by
 have hl:=h.reg.len;have hb:=h.reg.lt;obtain⟨cs,ck,st,D,h1,h2,h3,h4,h5,h6,h6',hp,hs,hk,hm,hD,hS,hK⟩:=h;exact⟨hl.1,hl.2,hS,hb.2.2.1⟩
theorem RegQ.not{base c b:Nat}{S K:List Nat}{f:Nat->Option (List Nat)}{Cs:Array Value}{t:TypeId}{fr:Nat×Nat}(h:RegQ w base p n c gs gk m S K f)(hb:w.heap[b]? =some (.cells Cs t fr))(h1:t≠97)(h2:t≠101):¬rgF p gs gk m b:=by
 obtain⟨cs,ck,st,D,_,_,_,_,_,_,_,hp,hs,hk,hm,_⟩:=h;rintro(rfl|rfl|rfl|rfl)
 ·exact qbn hb hp h1 rfl
 ·exact qaz hb h2 hs rfl
 ·exact qaz hb h2 hk rfl
 ·obtain⟨es,clock,a1,a2⟩:=hm
  rw[hb] at a1;cases a1
theorem LkR.apart{base c:Nat}{S K:List Nat}{f:Nat->Option (List Nat)}{L:List Int}(h:LkR w tp tg nl L)(hR:RegQ w base p n c gs gk m S K f):∀k,tbF tp tg k->¬rgF p gs gk m k:=by
 obtain⟨c,st,hne,hn,hp,ho⟩:=h;rintro k (rfl|rfl)
 ·exact hR.not hp Zd Zd
 ·rcases ho.2 with ⟨e,_⟩|⟨g,cap,cur,e,_,hg,_⟩
  ·cases e
  ·injection e with e;injection e with e;injection e with e
   subst e;exact hR.not hg Zd Zd
theorem PsR.more{C':Nat}(h:PsR w p gs gk m n tp tg nl C D)(hC:C<=C'):PsR w p gs gk m n tp tg nl C' D:=by
 obtain⟨⟨f,h1,h2⟩,h3⟩:=h;exact⟨⟨f,h1.more hC,h2⟩,h3⟩
theorem PsR.lts(h:PsR w p gs gk m n tp tg nl C D){k:Nat}(hk:psF p gs gk m tp tg k):k<w.heap.size:=by
 obtain⟨⟨f,h1,h2⟩,h3,_⟩:=h;rcases hk with hk|hk
 ·exact(h1.own k hk).2
 ·rcases hk with rfl|rfl
  ·exact h3.lts.1
  ·exact h3.lts.2
theorem PsR.upd(h:PsR w p gs gk m n tp tg nl C D)(hu:Upd G w w')(hG:∀k,psF p gs gk m tp tg k->¬G k):PsR w' p gs gk m n tp tg nl C D:=by
 obtain⟨⟨f,h1,h2⟩,h3,h4⟩:=h;exact⟨⟨f,h1.upd hu (λk hk=>hG k (.inl hk)),h2⟩,h3.upd hu (hG _ (.inr (.inl rfl))) (hG _ (.inr (.inr rfl))),h4⟩
theorem qj4{a:Int}(h:qay n a=true):∃j:Nat,a=(j:Int)/\j<n*8:=by
 obtain⟨j,rfl⟩:∃j:Nat,a=(j:Int):=waz (by simp[qay] at h;omega);exact⟨j,rfl,by simp[qay] at h;omega⟩
theorem qmg{a:Int}(h:qay n a=false):¬(0<=a/\a<(n:Int)*8):=by
 simp[qay] at h
 omega
theorem qaco(h:PsR w p gs gk m n tp tg nl C D)(a:Int){x:Nat}(hx:x<18446744073709551616):
  Calls Tryz.prog 222 #[.pointer (some ⟨p,0,none⟩),.int .i64 a,.int .u64 (x:Int)] w λe w'=>(∃c,e= .returned (.int .i64 c))/\PsR w' p gs gk m n tp tg nl C {D with S:=if qay n a then D.S.set a.toNat x else D.S}/\Upd (psF p gs gk m tp tg) w w':=by
 obtain⟨⟨f,h1,h2⟩,h3,h4,h5,h6,h7⟩:=h;have hap:=h3.apart h1;cases hb:qay n a with
 |true=>
  obtain⟨j,rfl,hj⟩:=qj4 hb;refine(q29 h1 hj hx).mono ?_;rintro e w' ⟨he,hr,hu⟩;exact⟨⟨_,he⟩,⟨⟨f,hr,h2⟩,h3.upd hu (hap _ (.inl rfl)) (hap _ (.inr rfl)),h4,h5,h6,λy hy=>(wey hy).elim (h7 y) (λe=>e▸hx)⟩,hu.mono (λk e=> .inl e)⟩
 |false=>
  refine(qxn h1 (qmg hb) (x:Int)).mono ?_;rintro e w' ⟨he,hr,hu⟩;exact⟨⟨_,he⟩,⟨⟨f,hr,h2⟩,h3.upd hu (hap _ (.inl rfl)) (hap _ (.inr rfl)),h4,h5,h6,h7⟩,hu.mono (λk e=> .inl e)⟩
theorem qac1(h:PsR w p gs gk m n tp tg nl C D)(a:Int):
  Calls Tryz.prog 216 #[.pointer (some ⟨p,0,none⟩),.int .i64 a] w λe w'=>(∃c,e= .returned (.tuple #[.int .u64 ((if qay n a then D.S[a.toNat]?.getD 0 else 0:Nat):Int),.int .i64 c]))/\PsR w' p gs gk m n tp tg nl C D/\Upd (psF p gs gk m tp tg) w w':=by
 obtain⟨⟨f,h1,h2⟩,h3,h4,h5,h6,h7⟩:=h;have hap:=h3.apart h1;cases hb:qay n a with
 |true=>
  obtain⟨j,rfl,hj⟩:=qj4 hb;refine(q7r h1 hj).mono ?_;rintro e w' ⟨x,hx,he,hr,hu⟩;refine⟨⟨0,he.trans ?_⟩,⟨⟨f,hr,h2⟩,h3.upd hu (hap _ (.inl rfl)) (hap _ (.inr rfl)),h4,h5,h6,h7⟩,hu.mono (λk e=> .inl e)⟩;rw[if_pos rfl,wam,hx];rfl
 |false=>
  refine(q38 h1 (qmg hb)).mono ?_;rintro e w' ⟨he,hr,hu⟩;exact⟨⟨_,he⟩,⟨⟨f,hr,h2⟩,h3.upd hu (hap _ (.inl rfl)) (hap _ (.inr rfl)),h4,h5,h6,h7⟩,hu.mono (λk e=> .inl e)⟩
theorem qacg(h:PsR w p gs gk m n tp tg nl C D)(hC:C<maxLen)(a:Int):
  Calls Tryz.prog 226 #[.pointer (some ⟨p,0,none⟩),.int .i64 a] w λe w'=>(∃c,e= .returned (.int .i64 c))/\PsR w' p gs gk m n tp tg nl (C+1) {D with N:=if qay n a then qc2 D.N D.S (a.toNat/8*8) 8 else D.N,B:=if qay n a then D.B.set (a.toNat/8) true else D.B}/\Upd (psF p gs gk m tp tg) w w':=by
 obtain⟨⟨f,h1,h2⟩,h3,h4,h5,h6,h7⟩:=h;have hap:=h3.apart h1;cases hb:qay n a with
 |true=>
  obtain⟨j,rfl,hj⟩:=qj4 hb;refine(q19 h1 hC hj).mono ?_;rintro e w' ⟨he,hr,hu⟩;refine⟨⟨_,he⟩,⟨⟨_,hr,?_⟩,h3.upd hu (hap _ (.inl rfl)) (hap _ (.inr rfl)),h4,?_,?_,h7⟩,hu.mono (λk e=> .inl e)⟩
  ·simp only[if_true,wam]
   exact h2.flush h5 h1.words.1 h6 Zo
  ·simp only[if_true]
   rw[qpj];exact h5
  ·simp only[if_true]
   rw[wb1];exact h6
 |false=>
  refine(qyh h1 (qmg hb)).mono ?_;rintro e w' ⟨he,hr,hu⟩;exact⟨⟨_,he⟩,⟨⟨f,hr.more Zo,h2⟩,h3.upd hu (hap _ (.inl rfl)) (hap _ (.inr rfl)),h4,h5,h6,h7⟩,hu.mono (λk e=> .inl e)⟩
theorem qab1(h:PsR w p gs gk m n tp tg nl C D):
  Calls Tryz.prog 228 #[.pointer (some ⟨p,0,none⟩)] w λe w'=>(∃c,e= .returned (.int .i64 c))/\PsR w' p gs gk m n tp tg nl C {D with K:=fenL D.K D.N D.B (n*8),B:=List.replicate n false}/\Upd (psF p gs gk m tp tg) w w':=by
 obtain⟨⟨f,h1,h2⟩,h3,h4,h5,h6,h7⟩:=h;have hap:=h3.apart h1;refine(qz3 h1).mono ?_;rintro e w' ⟨K',hK,he,hr,hu⟩;have hK':=h2.fence h5 h1.words.2.1 hr.words.2.1 hK;subst hK';exact⟨⟨_,he⟩,⟨⟨_,hr,Alike.none n D.N⟩,h3.upd hu (hap _ (.inl rfl)) (hap _ (.inr rfl)),h4,h5,by simp,h7⟩,hu.mono (λk e=> .inl e)⟩
end
end Go.Proofs.YtocncmbeinmiaaaGreat
