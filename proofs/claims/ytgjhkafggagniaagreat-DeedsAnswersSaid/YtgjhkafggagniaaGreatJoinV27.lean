/- Parts. No condition. -/
import Derived.Test.YtgjhkafggagniaaGreatJoinV26
import Derived.Test.YtgjhkafggagniaaGreatJoinV22
set_option linter.unusedVariables false
set_option maxRecDepth 100000
set_option maxHeartbeats 8000000
namespace Go.Proofs.YtgjhkafggagniaaGreat
open Go Go.RowKit
def qcd(b z:Int)(n:Nat):List Int:=(List.range n).map λk:Nat=>b+(k:Int)*z
theorem qg3(b z:Int)(n:Nat):(qcd b z n).length=n:=by simp[qcd]
theorem qgb{b z:Int}{n k:Nat}(h:k<=n):(qcd b z n).take k=qcd b z k:=by
 unfold qcd;rw[<-List.map_take,List.take_range,weg h]
theorem qp7(b z:Int)(n:Nat):qcd b z (n+1)=qcd b z n++[b+(n:Int)*z]:=by
 unfold qcd;rw[wd3,List.map_append];rfl
def blkL(s L:Nat)(r:Int)(hs:List (Int×Int×Int))(i:Int):List Int:=if(hdOf hs i).1=1 then qcd (qci s L r i) (szN (hdOf hs i).2.1) (bkN (hdOf hs i).2.1).toNat else[]
theorem qaa{w w':World}(hB:Below w.heap.size w w'){q:Addr}{v:Value}(h:w.cell? q=some v):w'.cell? q=some v:=(hB.cell (wal w _ h)).trans h
theorem qpk(c:Int):0<=bkN c/\bkN c<=32:=by
 unfold bkN;split
 ·omega
 ·split
  ·omega
  ·split
   ·omega
   ·split<;>omega
section
variable {w w':World} {base p gh gc hcap ccap s L:Nat} {r:Int} {hs:List (Int×Int×Int)} {rv:Nat->Value} {rx:Nat->List Int} {F:Nat->Prop}
theorem HpR.span_bd(h:HpR w base p gh gc hcap ccap s L r hs rv rx F)(i:Int):-1<=qci s L r i/\qci s L r i<=2000:=by
 have hd:=h.dims;unfold qci;split<;>omega
theorem qhw(h:HpR w base p gh gc hcap ccap s L r hs rv rx F)(i:Int):
  Calls Tryz.prog 64 #[.pointer (some ⟨p,0,none⟩),.int .i64 i] w λe w'=>∃v,e= .returned v/\RowI w' w.heap.size v (blkL s L r hs i)/\Below w.heap.size w w':=by
 have hho:=waa (qr8 h i);have hsb:=h.span_bd i;unfold blkL;generalize hdOf hs i=hd at hho ⊢;obtain⟨kd,c,nn⟩:=hd;unfold hdV at hho;dsimp only at hho ⊢;obtain⟨q0,q1,q2,-,-,-⟩:=h.cells;have hpl:=h.lts p h.cov.1;have hpb:=waa h.blk;by_cases hk:kd=1
 ·subst hk
  rw[if_pos rfl];have hbd:=qpk c;have hzd:=qls c;have hsp:=waa (λW=>qnj (s:Int) (L:Int) r i W);have hsz:=waa (λW=>qdq c W);have hcb:=waa (λW=>qff c W);generalize qci (s:Int) (L:Int) r i=S0 at hsb hsp ⊢;generalize szN c=Z at hzd hsz ⊢;obtain⟨KK,hK⟩:=waq hbd.1;rw[hK] at hcb hbd ⊢;rw[wao];clear h hK;go_enter Tryz.func64,Tryz.ntmps64;go_wp2_with fail;refine hho.out.mono ?_;rintro e w1 ⟨rfl,hB1⟩;have hh0:(w1.alloc (.cells #[.int .i64 1,.int .i64 c,.int .i64 nn] 134)).heap[w1.heap.size]? =some (.cells #[.int .i64 1,.int .i64 c,.int .i64 nn] 134 (0,0)):=heap_alloc_new w1 _;have hB2:=waa (hB1.alloc hB1.size (.cells #[.int .i64 1,.int .i64 c,.int .i64 nn] 134));replace hh0:=waa hh0;clear hB1;go_wp2_with fail;refine(hcb.out _).mono ?_;rintro e w3 ⟨rfl,rfl⟩;generalize w1.heap.size=hb at hh0 ⊢;go_wp2_with fail;go_loopg [6,17] KK (λgk s6 s17 wr=>∃(n:Nat) (RA:Option Addr) (RN RC:Nat),s17= .int .i64 (n:Int)/\s6= .slice RA RN RC/\KK - n<=gk/\n<=KK/\Hid (RowI wr w.heap.size (.slice RA RN RC) ((qcd S0 Z KK).take n))/\Hid (wr.heap[hb]? =some (.cells #[.int .i64 1,.int .i64 c,.int .i64 nn] 134 (0,0)))/\Hid (Below w.heap.size w wr))
  case atStart=>exact⟨0,none,0,0,rfl,rfl,Zo,Zo,waa (RowI.nil _ _),hh0,hB2⟩
  case round=>
  obtain⟨n,RA,RN,RC,rfl,rfl,hkn,hn,hr,hh,hB⟩:=hrel;clear hh0 hB2 hho;by_cases hnK:n<KK
  ·have k0:=qaa hB.out q0
   have k1:=qaa hB.out q1;have k2:=qaa hB.out q2;have k3:wr.cell? ⟨hb,1,none⟩=some (.int .i64 c):=by rw[qab hh.out];rfl
   have hpb:Hid (wr.heap[p]? =_):=waa ((hB.out.block p hpl).trans hpb.out);have hlen:=waa (show((qcd S0 Z KK).take n).length<=32 from by rw[qgb hn,qg3];omega);have hz:(n:Int)<(KK:Int):=Zo
   have hmul:0<=(n:Int)*Z/\(n:Int)*Z<=512:=by
    have h1:(n:Int)*Z<=32*16:=Int.mul_le_mul Zo Zo Zo Zo;exact⟨Int.mul_nonneg Zo Zo,Zo⟩
   have hw1:IntKind.i64.wrap ((n:Int)*Z)=(n:Int)*Z:=wap _ Zo;have hw2:IntKind.i64.wrap (S0+(n:Int)*Z)=S0+(n:Int)*Z:=wap _ Zo;have hnext:=waa (show(qcd S0 Z KK).take n++[S0+(n:Int)*Z]=(qcd S0 Z KK).take (n+1) from by rw[qgb hn,qgb hnK,qp7]);go_wp2_with fail;refine wp_region_held_drew (S:=(λU=>U.cell? ⟨p,0,none⟩=some (.int .i64 (s:Int))/\U.cell? ⟨p,1,none⟩=some (.int .i64 (L:Int))/\U.cell? ⟨p,2,none⟩=some (.int .i64 r)/\U.cell? ⟨hb,1,none⟩=some (.int .i64 c))) Zk (⟨k0,k1,k2,k3⟩) (λhHeld=>?_);refine wpAnyH_take (i:=0) (v:=?_) rfl Zk Zk Zk (λ_ _ _ h=>h) (Or.inl ⟨by rfl,?_⟩) Za ?_;rotate_left;(·intro u h;(try dsimp only at h);(try simp only[wab,wac]);go_simp;try with_reducible rfl);try simp only[Act.put,waf,wae,wag,wab,wac]
   refine wpAnyH_take (i:=1) (v:=?_) rfl Zk Zk Zk (λ_ _ _ h=>h) (Or.inl ⟨by rfl,?_⟩) Za ?_;rotate_left;(·intro u h;(try dsimp only at h);(try simp only[wab,wac,wad]);go_simp;try with_reducible rfl);try simp only[Act.put,waf,wae,wag,wab,wac,wad]
   refine wpAnyH_take (i:=2) (v:=?_) rfl Zk Zk Zk (λ_ _ _ h=>h) (Or.inl ⟨by rfl,?_⟩) Za ?_;rotate_left;(·intro u h;(try dsimp only at h);(try simp only[wab,wac,wad]);go_simp;try with_reducible rfl);try simp only[Act.put,waf,wae,wag,wab,wac,wad]
   refine wpAnyH_take (i:=3) (v:=?_) rfl Zk Zk Zk (λ_ _ _ h=>h) (Or.inl ⟨by rfl,?_⟩) Za ?_;rotate_left;(·intro u h;(try dsimp only at h);(try simp only[wab,wac,wad]);go_simp;try with_reducible rfl);try simp only[Act.put,waf,wae,wag,wab,wac,wad]
   refine wpAnyH_take (i:=4) (v:=?_) rfl Zk Zk Zk (λ_ _ _ h=>h) (Or.inl ⟨by rfl,?_⟩) Za ?_;rotate_left;(·intro u h;(try dsimp only at h);(try simp only[wab,wac,wad]);go_simp;try with_reducible rfl);try simp only[Act.put,waf,wae,wag,wab,wac,wad]
   refine wpAnyH_take (i:=5) (v:=?_) rfl Zk Zk Zk (λ_ _ _ h=>h) (Or.inl ⟨by rfl,?_⟩) Za ?_;rotate_left;(·intro u h;(try dsimp only at h);(try simp only[wab,wac,wad]);go_simp;try with_reducible rfl);try simp only[Act.put,waf,wae,wag,wab,wac,wad]
   refine wpAnyH_take (i:=7) (v:=?_) rfl Zk Zk Zk (λ_ _ _ h=>h) (Or.inl ⟨by rfl,?_⟩) Za ?_;rotate_left;(·intro u h;(try dsimp only at h);(try simp only[wab,wac,wad]);go_simp;try with_reducible rfl);try simp only[Act.put,waf,wae,wag,wab,wac,wad]
   refine wpAnyH_take (i:=8) (v:=?_) rfl Zk Zk Zk (λ_ _ _ h=>h) (Or.inl ⟨by rfl,?_⟩) Za ?_;rotate_left;(·intro u h;(try dsimp only at h);(try simp only[wab,wac,wad]);go_simp;try with_reducible rfl);try simp only[Act.put,waf,wae,wag,wab,wac,wad]
   refine wpAnyH_take (i:=9) (v:=?_) rfl Zk Zk Zk (λ_ _ _ h=>h) (Or.inl ⟨by rfl,?_⟩) Za ?_;rotate_left;(·intro u h;(try dsimp only at h);(try simp only[wab,wac,wad]);go_simp;try with_reducible rfl);try simp only[Act.put,waf,wae,wag,wab,wac,wad]
   refine wpAnyH_ready (rs:=[6]) Zk Zs ?_;refine AllReadyH.cons rfl (λK hK=>?_) AllReadyH.nil
   (try simp only[wab,wac,wad])
   go_simp
   refine(hsp.out _).mono ?_;rintro e w2 ⟨rfl,hC⟩;have hC2:=(wai wr.heap.size wr).drew.trans hC;have e0:=qaa hC2 k0;have e1:=qaa hC2 k1;have e2:=qaa hC2 k2;have e3:=qaa hC2 k3;go_wp2_with fail;refine hK.out _ _ (⟨e0,e1,e2,e3⟩) (λhHeld2=>?_);clear hK K hHeld;have hHeld:=hHeld2;clear hHeld2;try simp only[Act.put,waf,wae,wag,wab,wac,wad]
   refine wpAnyH_ready (rs:=[10]) Zk Zs ?_;refine AllReadyH.cons rfl (λK hK=>?_) AllReadyH.nil
   (try simp only[wab,wac,wad])
   go_simp
   refine(hsz.out _).mono ?_;rintro e w3 ⟨rfl,rfl⟩;go_wp2_with fail;refine hK.out _ _ (⟨e0,e1,e2,e3⟩) (λhHeld2=>?_);clear hK K hHeld;have hHeld:=hHeld2;clear hHeld2;try simp only[Act.put,waf,wae,wag,wab,wac,wad]
   refine wpAnyH_take (i:=11) (v:=?_) rfl Zk Zk Zk (λ_ _ _ h=>h) (Or.inl ⟨by rfl,?_⟩) Za ?_;rotate_left;(·intro u h;(try dsimp only at h);(try simp only[wab,wac,wad]);go_simp;try with_reducible rfl);try simp only[Act.put,waf,wae,wag,wab,wac,wad]
   refine wpAnyH_take (i:=12) (v:=?_) rfl Zk Zk Zk (λ_ _ _ h=>h) (Or.inl ⟨by rfl,?_⟩) Za ?_;rotate_left;(·intro u h;(try dsimp only at h);(try simp only[wab,wac,wad]);go_simp;try with_reducible rfl);try simp only[Act.put,waf,wae,wag,wab,wac,wad]
   refine wpAnyH_ready (rs:=[13]) Zk Zs ?_;refine AllReadyH.cons rfl (λK hK=>?_) AllReadyH.nil
   (try simp only[wab,wac,wad])
   go_simp
   obtain⟨x,hx⟩:∃x,x=S0+(n:Int)*Z:=⟨_,rfl⟩
   rw[<-hx];have hBw:Below w2.heap.size w2 (w2.alloc (.cells #[.int .i64 x] 3)):=(wai w2.heap.size w2).alloc (wah _) _;have hal:=waa (And.intro (qaa hBw e0) (And.intro (qaa hBw e1) (And.intro (qaa hBw e2) (qaa hBw e3))));have hBx:=hC2.trans (hBw.mono hC2.size);have hrow:=waa (hr.out.below hBx);have hnew:=waa (λ(j:Nat) (z:Int) (hz:[x][j]? =some z)=>show(w2.alloc (.cells #[.int .i64 x] 3)).cell? ((⟨w2.heap.size,0,none⟩:Addr).add j)=some (Value.int .i64 z) from by
    cases j with
    |zero=>
     obtain rfl:x=z:=by simpa using hz
     exact qd6 (heap_alloc_new w2 _) rfl
    |succ j=>simp at hz)
   have hbs:=waa (show w.heap.size<=(w2.alloc (.cells #[.int .i64 x] 3)).heap.size from wam hB.out.size hBx.size);have hnp:=waa (λe=>qbm hpb.out Zd hr.out e.symm:some p≠(Value.slice RA RN RC).ownBlock);have hnh:=waa (λe=>qbm hh.out Zd hr.out e.symm:some hb≠(Value.slice RA RN RC).ownBlock);replace hx:=waa hx;replace hBx:=waa hBx;clear hBw;refine hK.out _ _ (hal.out) (λhHeld2=>?_);clear hK K hHeld;have hHeld:=hHeld2;clear hHeld2;try simp only[Act.put,waf,wae,wag,wab,wac,wad]
   refine wpAnyH_ready (rs:=[14]) Zk Zs ?_;refine AllReadyH.cons rfl (λK hK=>?_) AllReadyH.nil;refine qcm Zr _ _ Zr w.heap.size (.slice RA RN RC) ((qcd S0 Z KK).take n) Zr hrow.out ⟨w2.heap.size,0,none⟩ 1 1 [x] Zr rfl Zo hnew.out (by have:=hlen.out;omega) hbs.out ?_;intro u2 w4 hr2 hgr2 hob2;obtain⟨TA,TC,rfl,-,-⟩:=hr2.shape;generalize hYl:((qcd S0 Z KK).take n++[x]).length=TN at hr2 hob2 ⊢;have f0:=hgr2.cell (a:=⟨p,0,none⟩) (show(w2.alloc (.cells #[.int .i64 x] 3)).cell? ⟨p,0,none⟩=_ from hal.out.1) hnp.out;have f1:=hgr2.cell (a:=⟨p,1,none⟩) (show(w2.alloc (.cells #[.int .i64 x] 3)).cell? ⟨p,1,none⟩=_ from hal.out.2.1) hnp.out;have f2:=hgr2.cell (a:=⟨p,2,none⟩) (show(w2.alloc (.cells #[.int .i64 x] 3)).cell? ⟨p,2,none⟩=_ from hal.out.2.2.1) hnp.out;have f3:=hgr2.cell (a:=⟨hb,1,none⟩) (show(w2.alloc (.cells #[.int .i64 x] 3)).cell? ⟨hb,1,none⟩=_ from hal.out.2.2.2) hnh.out;refine hK.out _ _ (⟨f0,f1,f2,f3⟩) (λhHeld2=>?_);clear hK K hHeld;have hHeld:=hHeld2;clear hHeld2;try simp only[Act.put,waf,wae,wag,wab,wac,wad]
   refine wpAnyH_take (i:=15) (v:=?_) rfl Zk Zk Zk (λ_ _ _ h=>h) (Or.inl ⟨by rfl,?_⟩) Za ?_;rotate_left;(·intro u h;(try dsimp only at h);(try simp only[wab,wac,wad]);go_simp;try with_reducible rfl);try simp only[Act.put,waf,wae,wag,wab,wac,wad]
   refine wpAnyH_done Zk ?_ _;have hB3:Below w.heap.size w w4:=(hB.out.trans (hBx.out.mono hB.out.size)).grown hgr2 hbs.out (λj e=>(hr.out.lt j e).1);go_wp2_with fail;go_roundg (KK - (n+1))
   case measure=>omega
   case rel=>exact⟨n+1,_,_,_,by go_num,rfl,wah _,Zo,waa (by rw[<-hnext.out,<-hx.out];exact hr2),waa ((hgr2.block hb (wal _ _ hal.out.2.2.2) hnh.out).trans ((hBx.out.block hb (wal _ _ k3)).trans hh.out)),waa hB3⟩
  ·obtain rfl:n=KK:=Zo
   have hz:¬(n:Int)<(n:Int):=Zo
   go_wp2_with fail;go_ret;exact⟨_,rfl,by
    have:=hr.out
    rwa [wax (wbk (qg3 _ _ _))] at this,hB.out⟩
 ·rw[if_neg hk]
  clear h;have hk2:(kd !=1)=true:=by simp[hk]
  replace hk:=waa hk;go_enter Tryz.func64,Tryz.ntmps64;go_wp2_with fail;refine hho.out.mono ?_;rintro e w1 ⟨rfl,hB1⟩;have hB2:=waa (hB1.alloc hB1.size (.cells #[.int .i64 kd,.int .i64 c,.int .i64 nn] 134));clear hB1;go_wp2_with fail;go_ret;exact⟨_,rfl,RowI.nil _ _,hB2.out⟩
end
def nhB(x:Int×Int×Int):Bool:=!qav x.1 x.2.1 x.2.2
theorem qom(a b c:Int)(w:World):Calls Tryz.prog 117 #[.agg #[.int .i64 a,.int .i64 b,.int .i64 c]] w λe w'=>e= .returned (.bool (nhB (a,b,c)))/\Below w.heap.size w w':=by
 have hB:=waa ((wai w.heap.size w).alloc (wah _) (.cells #[.int .i64 a,.int .i64 b,.int .i64 c] 134));unfold nhB;dsimp only
 cases hm:qav a b c with
 |true=>
  have hw:=waa (λW=>qh6 a b c W hm);clear hm;generalize qcw a b c=z at hw;go_enter Tryz.func117,Tryz.ntmps117;go_wp2_with fail;refine(hw.out _).mono ?_;rintro e w1 ⟨rfl,hB1⟩;have hfin:=waa (hB.out.trans (hB1.mono hB.out.size));clear hB1 hw;go_wp2_with fail;go_ret;exact⟨rfl,hfin.out⟩
 |false=>
  have hw:=waa (λW=>qo9 a b c W hm);clear hm;go_enter Tryz.func117,Tryz.ntmps117;go_wp2_with fail;refine(hw.out _).mono ?_;rintro e w1 ⟨rfl,hB1⟩;have hfin:=waa (hB.out.trans (hB1.mono hB.out.size));clear hB1 hw;go_wp2_with fail;go_ret;exact⟨rfl,hfin.out⟩
theorem qp5{s L:Nat}{r:Int}{hs:List (Int×Int×Int)}(A:Option Addr)(cap:Nat)(w:World)(hm:mayB (s:Int) (L:Int) r=true)(hl:hs.length=s)(hs16:s<=16)(hR:HdsRd w A hs.length hs)(hok:hs.any nhB=false):
  Calls Tryz.prog 62 #[.agg #[.int .i64 (s:Int),.int .i64 (L:Int),.int .i64 r],.slice A s cap] w λe w'=>e= .returned (.bool true)/\Below w.heap.size w w':=by
 have hma:=waa (λW=>qha (s:Int) (L:Int) r W);rw[hm] at hma;have hB:=(wai w.heap.size w).alloc (wah _) (.cells #[.int .i64 (s:Int),.int .i64 (L:Int),.int .i64 r] 36);have hcn:=waa (λ(W:World) (hW:Below w.heap.size w W)=>show Calls Tryz.prog 119 #[.slice A s cap,.func (.func 117) #[] #[]] W λe w'=>e= .returned (.bool false)/\Below W.heap.size W w' from by
  have:=qkq (P:=nhB) (λ_ _=>by simp[go_sem]) qom A cap hs W (hR.below hW) Zo
  rwa [hok,hl] at this)
 have hx:(w.alloc (.cells #[.int .i64 (s:Int),.int .i64 (L:Int),.int .i64 r] 36)).heap[w.heap.size]? =some (.cells #[.int .i64 (s:Int),.int .i64 (L:Int),.int .i64 r] 36 (0,0)):=heap_alloc_new w _;replace hB:=waa hB;replace hx:=waa hx;clear hm hok hR;go_enter Tryz.func62,Tryz.ntmps62;go_wp2_with fail;refine(hma.out _).mono ?_;rintro e w1 ⟨rfl,hB1⟩;have hx1:w1.heap[w.heap.size]? =some (.cells #[.int .i64 (s:Int),.int .i64 (L:Int),.int .i64 r] 36 (0,0)):=(hB1.block _ Zs).trans hx.out;have c0:w1.cell? ⟨w.heap.size,0,none⟩=some (.int .i64 (s:Int)):=by rw[qab hx1];rfl
 have hB2:=waa (hB.out.trans (hB1.mono hB.out.size));have hcn2:=waa (hcn.out w1 hB2.out);clear hB1 hx1 hcn hma hx hB;go_wp2_with fail;refine hcn2.out.mono ?_;rintro e w3 ⟨rfl,hB3⟩;have hfin:=waa (hB2.out.trans (hB3.mono hB2.out.size));clear hB3 hcn2;go_wp2_with fail;go_ret;exact⟨rfl,hfin.out⟩
theorem qjx(w:World)(a:Addr)(n c:Nat):(binOp .eql 90 (.slice (some a) n c) (.slice none 0 0)).run Tryz.prog w= .ok (.bool false) w:=by
 have h:∀d:Nat,(Op.equalIn (d+1) 90 (.slice (some a) n c) (.slice none 0 0)).run Tryz.prog w= .ok false w:=λd=>by
  simp[Op.equalIn,run_underlying Tryz.underlying90]
 simp only[binOp];simp[Op.equal,Op.maxDepth,h 9999]
theorem qux{w:World}{g n:Nat}{hs:List (Int×Int×Int)}(h:HdsRd w (some ⟨g,0,none⟩) n hs):∀j u,(hV hs)[j]? =some u->w.cell? ((⟨g,0,none⟩:Addr).add j)=some u:=by
 obtain⟨h1,h2⟩:=h;intro j u hu;have hj:j<hs.length*3:=by have:=(was.1 hu).1;rwa [qgw] at this
 obtain⟨b,e,hc⟩:=h2 Zo;injection e with e;subst e;obtain⟨x,hx⟩:∃x,hs[j/3]? =some x:=⟨_,wan Zo⟩
 obtain⟨c0,c1,c2⟩:=hc _ _ hx;obtain⟨v0,v1,v2⟩:=qla hx;rw[wbg] at c0 c1 c2;rw[wbg];simp only[wav] at c0 c1 c2 ⊢;have h3:j%3=0\/j%3=1\/j%3=2:=Zo
 rcases h3 with e|e|e
 ·have:j/3*3=j:=Zo
  rw[this,hu] at v0;injection v0 with v0;rw[this] at c0;rw[v0];exact c0
 ·have:j/3*3+1=j:=Zo
  rw[this,hu] at v1;injection v1 with v1;rw[this] at c1;rw[v1];exact c1
 ·have:j/3*3+2=j:=Zo
  rw[this,hu] at v2;injection v2 with v2;rw[this] at c2;rw[v2];exact c2
theorem qi3{g cap n:Nat}{hs:List (Int×Int×Int)}(w:World)(h:HdsRd w (some ⟨g,0,none⟩) n hs)(h0:0<n)(hn:n<=16):
  Calls Tryz.prog 63 #[.slice (some ⟨g,0,none⟩) n cap] w λe w'=>∃g' cap',e= .returned (.slice (some ⟨g',0,none⟩) n cap')/\w'.ownsRow w.heap.size 134 3 (.slice (some ⟨g',0,none⟩) n cap') n (hV hs)/\Below w.heap.size w w':=by
 obtain⟨i0,ii,iz0,iz1,iz2⟩:=info_parts qj0;have hlen:(hV hs).length=n*3:=by rw[qgw,h.1]
 have hnews:=qux (h.below ((wai w.heap.size w).alloc (wah _) (.cells #[] 134)));have h1:∀u∈hV hs,u.oneCell'=true:=λv hv=>by
  unfold hV at hv;rw[wep] at hv;obtain⟨x,-,hx⟩:=hv;simp only[wa1,wci,or_false] at hx;rcases hx with rfl|rfl|rfl<;>rfl
 have hnil:=λw=>qjx w ⟨g,0,none⟩ n cap
 have hlit:=wdd (base:=w.heap.size) (e:=134) (size:=3) w #[] 0 (wah _) Zd rfl;go_enter Tryz.func63,Tryz.ntmps63;go_wp2_with (at_builtin;go_loud (refine wpList_append_own _ rfl _ _ 90 rfl w.heap.size 134 i0 _ 3 24 weu ii iz0 iz1 iz2 rfl Zd _ 0 [] rfl hlit ⟨g,0,none⟩ n cap (hV hs) rfl hlen hnews h1 (by simp only[maxLen];omega) Zo Zs ?_;intro v' w2 hown2 hgrow _;rw[wav,wa7] at hown2;obtain⟨g',cap',rfl⟩:=(by rcases hown2.2 with ⟨-,e⟩|⟨g,c,cur,e,_⟩;exact absurd e Zo;exact⟨g,c,e⟩:∃g' cap',v'= .slice (some ⟨g',0,none⟩) n cap');have hB:=((wai _ w).alloc (wah _) (.cells #[] 134)).grown hgrow Zs (qbv hlit)))
 go_ret;exact⟨g',cap',rfl,hown2,hB⟩
theorem qol(w:World):(Instr.makeSlice 135 (.int .i64 1) (.int .i64 1)).run Tryz.prog w= .ok (.slice (some ⟨w.heap.size,0,none⟩) 1 1) (w.alloc (.cells (caC (λ_=> .slice none 0 0) 1) 137)):=by kernel_rfl
theorem qnw(w:World):(Instr.makeSlice 135 (.int .i64 2) (.int .i64 2)).run Tryz.prog w= .ok (.slice (some ⟨w.heap.size,0,none⟩) 2 2) (w.alloc (.cells (caC (λ_=> .slice none 0 0) 2) 137)):=by kernel_rfl
theorem qn3(w:World):(Instr.makeSlice 135 (.int .i64 3) (.int .i64 3)).run Tryz.prog w= .ok (.slice (some ⟨w.heap.size,0,none⟩) 3 3) (w.alloc (.cells (caC (λ_=> .slice none 0 0) 3) 137)):=by kernel_rfl
theorem qoj(w:World):(Instr.makeSlice 135 (.int .i64 4) (.int .i64 4)).run Tryz.prog w= .ok (.slice (some ⟨w.heap.size,0,none⟩) 4 4) (w.alloc (.cells (caC (λ_=> .slice none 0 0) 4) 137)):=by kernel_rfl
theorem qmh{L:Nat}(h:1<=L/\L<=4)(w:World):(Instr.makeSlice 135 (.int .i64 (L:Int)) (.int .i64 (L:Int))).run Tryz.prog w= .ok (.slice (some ⟨w.heap.size,0,none⟩) L L) (w.alloc (.cells (caC (λ_=> .slice none 0 0) L) 137)):=by
 have h4:L=1\/L=2\/L=3\/L=4:=Zo
 rcases h4 with rfl|rfl|rfl|rfl
 ·exact qol w
 ·exact qnw w
 ·exact qn3 w
 ·exact qoj w
theorem qk4(w:World)(a:Addr)(n c:Nat):(binOp .eql 24 (.slice (some a) n c) (.slice none 0 0)).run Tryz.prog w= .ok (.bool false) w:=by
 have h:∀d:Nat,(Op.equalIn (d+1) 24 (.slice (some a) n c) (.slice none 0 0)).run Tryz.prog w= .ok false w:=λd=>by
  simp[Op.equalIn,run_underlying Tryz.underlying24]
 simp only[binOp];simp[Op.equal,Op.maxDepth,h 9999]
theorem ql2(w:World):(binOp .eql 24 (.slice none 0 0) (.slice none 0 0)).run Tryz.prog w= .ok (.bool true) w:=by
 have h:∀d:Nat,(Op.equalIn (d+1) 24 (.slice none 0 0) (.slice none 0 0)).run Tryz.prog w= .ok true w:=λd=>by
  simp[Op.equalIn,run_underlying Tryz.underlying24]
 simp only[binOp];simp[Op.equal,Op.maxDepth,h 9999]
theorem qij{w:World}{base:Nat}{v:Value}{L:List Int}(h:RowI w base v L)(hn:L.length<=1000000):
  Calls Tryz.prog 315 #[v] w λe w'=>∃v',e= .returned v'/\RowI w' w.heap.size v' L/\Below w.heap.size w w':=by
 obtain⟨i0,ii,iz0,iz1,iz2⟩:=info_parts qek;rcases h with ⟨rfl,rfl⟩|⟨g,cap,cur,rfl,hb,hg,h1,h2,h3,h4⟩
 ·have hnil:=ql2
  go_enter Tryz.func315,Tryz.ntmps315;go_wp2_with fail;go_ret;exact⟨_,rfl,RowI.nil _ _,wai _ _⟩
 ·have hlen:(i64V L).length=L.length*1:=by rw[qbi,wbr]
  have hlt:=(waj.1 hg).1;have hnews:∀j u,(i64V L)[j]? =some u->(w.alloc (.cells #[] 3)).cell? ((⟨g,0,none⟩:Addr).add j)=some u:=λj u hu=>by
   simp only[i64V,way,wb3] at hu;obtain⟨y,hy,rfl⟩:=hu;rw[wbg,qab (qag hg _),wav];exact h4 j y hy
  have hone:∀u∈i64V L,u.oneCell'=true:=λv hv=>by
   obtain⟨x,_,rfl⟩:=wbb.1 hv;rfl
  have hnil:=λw=>qk4 w ⟨g,0,none⟩ L.length cap
  have hlit:=wdd (base:=w.heap.size) (e:=3) (size:=1) w #[] 0 (wah _) Zd rfl;obtain⟨N,hN⟩:∃N,L.length=N:=⟨_,rfl⟩
  rw[hN] at hlen hnil hn ⊢;replace hN:=waa hN;clear hg h1 h2 h3 h4;go_enter Tryz.func315,Tryz.ntmps315;go_wp2_with (at_builtin;go_loud (refine wpList_append_own _ rfl _ _ 24 rfl w.heap.size 3 i0 _ 1 8 wa9 ii iz0 iz1 iz2 rfl Zd _ 0 [] rfl hlit ⟨g,0,none⟩ N cap (i64V L) rfl hlen hnews hone (by simp only[maxLen];omega) Zo Zs ?_;intro v' w2 hown2 hgrow _;rw[wav,wa7] at hown2;have hB:=((wai _ w).alloc (wah _) (.cells #[] 3)).grown hgrow Zs (qbv hlit);have hfin:=waa (And.intro hown2 hB);clear hown2 hB hgrow))
  go_ret;exact⟨_,rfl,RowI.of_own hfin.out.1,hfin.out.2⟩
section
variable {w:World} {base p gh gc hcap ccap s L:Nat} {r:Int} {hs:List (Int×Int×Int)} {rv:Nat->Value} {rx:Nat->List Int} {F:Nat->Prop}
theorem qv6(h:HpR w base p gh gc hcap ccap s L r hs rv rx F):
  Calls Tryz.prog 352 #[.pointer (some ⟨p,0,none⟩)] w λe w'=>∃g' cap',e= .returned (.slice (some ⟨g',0,none⟩) s cap')/\w'.ownsRow w.heap.size 134 3 (.slice (some ⟨g',0,none⟩) s cap') s (hV hs)/\Below w.heap.size w w':=by
 obtain⟨d0,d1,d2,d3,d4,df⟩:=h.cells;have hd:=h.dims;obtain⟨A,cap,e,hR⟩:=HdsRd.of_own h.heads;injection e with e1 e2 e3;subst e1 e3;have hcl:=waa (qi3 (cap:=hcap) w hR Zo hd.1.2);clear h hR;go_enter Tryz.func352,Tryz.ntmps352;go_wp2_with fail;refine hcl.out.mono ?_;rintro e w2 ⟨g',cap',rfl,hr,hB⟩;have hfin:=waa (And.intro hr hB);clear hr hB hcl;go_wp2_with fail;go_ret;exact⟨g',cap',rfl,hfin.out.1,hfin.out.2⟩
end
abbrev HS:=List (Int×Int×Int)×(Nat->List Int)
def HpX(base p s L:Nat)(r:Int)(t:HS)(G:Nat->Prop)(w:World):Prop:=
 ∃gh gc hcap ccap rv,HpR w base p gh gc hcap ccap s L r t.1 rv t.2 G/\∀k,G k->k=p\/k=gh\/k=gc\/∃j,j<4+4*L/\(rv j).ownBlock=some k
section
variable {w w':World} {base p s L:Nat} {r:Int} {t:HS} {G F H:Nat->Prop} {hs:List (Int×Int×Int)} {rx:Nat->List Int}
theorem HpX.of(h:Hp w base p s L r hs rx F):∃G,HpX base p s L r (hs,rx) G w/\∀k,G k->F k:=by
 obtain⟨gh,gc,hcap,ccap,rv,h⟩:=h;have hF:∀k,(k=p\/k=gh\/k=gc\/∃j,j<4+4*L/\(rv j).ownBlock=some k)->F k:=by
  rintro k (rfl|rfl|rfl|⟨j,hj,e⟩)
  ·exact h.cov.1
  ·exact h.cov.2.1
  ·exact h.cov.2.2.1
  ·exact h.cov.2.2.2 j hj k e
 refine⟨λk=>k=p\/k=gh\/k=gc\/∃j,j<4+4*L/\(rv j).ownBlock=some k,⟨gh,gc,hcap,ccap,rv,⟨h.blk,h.heads,h.cach,h.rows,h.apart,h.low,h.dims,⟨.inl rfl,.inr (.inl rfl),.inr (.inr (.inl rfl)),λj hj g hg=> .inr (.inr (.inr ⟨j,hj,hg⟩))⟩,λk hk=>h.lts k (hF k hk)⟩,λk hk=>hk⟩,hF⟩
theorem HpX.to(h:HpX base p s L r t G w):Hp w base p s L r t.1 t.2 G:=by
 obtain⟨gh,gc,hcap,ccap,rv,h,-⟩:=h;exact⟨gh,gc,hcap,ccap,rv,h⟩
theorem HpX.upd(h:HpX base p s L r t G w)(hu:Upd H w w')(hG:∀k,G k->¬H k):HpX base p s L r t G w':=by
 obtain⟨gh,gc,hcap,ccap,rv,h,k⟩:=h;exact⟨gh,gc,hcap,ccap,rv,h.upd hu hG,k⟩
theorem HpX.lt{k:Nat}(h:HpX base p s L r t G w)(hk:G k):k<w.heap.size:=h.to.lts k hk
theorem HpX.not{k:Nat}{Cs:Array Value}{ty:TypeId}{fr:Nat×Nat}(h:HpX base p s L r t G w)(hk:G k)(hb:w.heap[k]? =some (.cells Cs ty fr)):ty=139\/ty=134\/ty=137\/ty=3:=by
 obtain⟨gh,gc,hcap,ccap,rv,h,hc⟩:=h;have hty:∀{Cs':Array Value} {ty':TypeId} {fr':Nat×Nat},w.heap[k]? =some (.cells Cs' ty' fr')->ty=ty':=λe=>by
  rw[hb] at e;injection e with e;injection e
 rcases hc k hk with rfl|rfl|rfl|⟨j,hj,e⟩
 ·exact .inl (hty h.blk)
 ·rcases h.heads.2 with ⟨e,h0⟩|⟨g,cap,cur,e,a1,a2,a3⟩
  ·cases e
  ·have hg:k=g:=by
    injection e with e;injection e with e;injection e
   subst hg;exact .inr (.inl (hty a2))
 ·exact .inr (.inr (.inl (hty h.cach)))
 ·rcases h.rows j hj with ⟨e2,-⟩|⟨g,cap,cur,e2,a1,a2,a3⟩
  ·rw[e2] at e
   cases e
  ·rw[e2] at e
   injection e with e;subst e;exact .inr (.inr (.inr (hty a2)))
noncomputable def onceH (g:HS->Int×HS):AP (DM×HS) Int:=λsp i l s=>by
 classical exact if ∀j,(s.2.2 j).length<=300000 then qec g sp i l s else .wild
theorem qrj{g:HS->Int×HS}{sp:Nat->Bool}{i:Nat}{l:List Nat}{s:DM×HS}(h:onceH g sp i l s≠ .wild):(∀j,(s.2.2 j).length<=300000)/\onceH g sp i l s=qec g sp i l s:=by
 unfold onceH at h ⊢;by_cases hx:∀j,(s.2.2 j).length<=300000
 ·exact⟨hx,if_pos hx⟩
 ·exact absurd (if_neg hx) h
structure DdE (A:AC) (E:DP HS) (base s L:Nat):Prop where
 ex:E.Ex=HpX base A.hb s L A.r
 s:A.s=(s:Int)
 l:A.l=(L:Int)
 who:A.who=E.who
def bwN(s l r:Int)(hs:List HD)(a:Int):Int:=match (qeo s l r hs).find? (pAt a) with
 |some b=>b.2.2.2
 |none=>0
theorem qyq(s l r:Int)(hs:List HD)(a:Int):∃x y ok,qy0 ((qeo s l r hs).find? (pAt a))= .returned (.tuple #[.agg #[.int .i64 x,.int .i64 y,.int .i64 (bwN s l r hs a)],.bool ok]):=by
 unfold bwN;cases (qeo s l r hs).find? (pAt a) with
 |none=>exact⟨0,0,false,rfl⟩
 |some b=>exact⟨_,_,true,rfl⟩
end
end Go.Proofs.YtgjhkafggagniaaGreat
