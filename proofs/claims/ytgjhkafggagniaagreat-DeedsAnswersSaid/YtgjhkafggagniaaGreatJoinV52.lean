/- Parts. No condition. -/
import Derived.Test.YtgjhkafggagniaaGreatJoinV51
set_option linter.unusedVariables false
set_option maxRecDepth 100000
set_option maxHeartbeats 8000000
namespace Go.Proofs.YtgjhkafggagniaaGreat
open Go Go.RowKit Go.ChangeShapes Go.WideShapes Go.Deep
theorem qov:Tryz.prog.cellsOf 40=1:=by kernel_rfl
section
variable {H:Type} {enc:TypeId×Value->H} {W:World} {held:Bool}
theorem qq5{r:Reach}{b0:Nat}{v:Value}{d:DataW H}{p:List MemPlace}(hv:Value.okWide Tryz.prog W r b0 22 v)(h:DataW.Trod enc Tryz.prog W 0 (λ_=>true) held 22 v d p):
  ∃(A:Option Addr) (n c:Nat) (l:List Nat),v= .slice A n c/\l.length=n/\n<=maxLen/\n<=c/\((A=none/\n=0/\c=0)\/∃q,A=some q)/\Rd W A n (u64V l)/\∀x∈l,x<18446744073709551616:=by
 obtain⟨fuel,hf⟩:=h;obtain⟨A,len,cap,rfl⟩:=okWide_slice wbq hv;rcases open_ints wbq Tryz.underlying40 qov hf with ⟨hcs,_⟩|⟨a,l,c,zs,hcs,_,hl,hm,hz,_,hcell,hw⟩
 ·injection hcs with hcs
  injection hcs with h1 h2 h3;subst h1 h2 h3;exact⟨none,0,0,[],rfl,rfl,wat _,wah _,.inl ⟨rfl,rfl,rfl⟩,Rd.nil_ _ _,by simp⟩
 ·injection hcs with hcs
  injection hcs with h1 h2 h3;subst h1 h2 h3;obtain⟨l,hll,hlm,hr,hlw⟩:=qum (k:= .u64) (w:=W) (a:=some a) (len:=len) (cap:=cap) (zs:=zs) (.inr ⟨a,rfl,hl,hm,by simpa using hz,hcell,hw⟩);obtain⟨v,hvl,hvr,hvb⟩:=qog hr hlw;exact⟨_,_,_,v,rfl,Zo,hlm,hl,.inr ⟨_,rfl⟩,hvr,hvb⟩
end
end Go.Proofs.YtgjhkafggagniaaGreat
namespace Go.Proofs.YtgjhkafggagniaaGreat
open Go Go.RowKit
theorem q1a{V:World}{p:Addr}{v:Value}(h:V.cell? p=some v):∃b o,p=⟨b,o,none⟩:=by
 obtain⟨b,o,s⟩:=p;cases s with
 |none=>exact⟨b,o,rfl⟩
 |some x=>
  unfold World.cell? at h;split at h
  ·simp at h
  ·cases h
theorem qob(A:Option Addr)(n c:Nat)(ws:List Nat)(w:World)(hr:Rd w A n (u64V ws))(h3:n≠3)(hl:n<=9223372036854775807):
  Calls Tryz.prog 6 #[.slice A n c] w λe w'=>e= .returned (.bool true)/\Below w.heap.size w w':=by
 have hn:ws.length=n:=by have:=hr.1;rw[qat] at this;exact this
 have han:=waa (λ(V:World) (hV:Below w.heap.size w V)=>show Calls Tryz.prog 19 #[.slice A n c] V λe w'=>e= .returned (.agg #[.int .i64 0,.int .i64 0,.int .u64 0])/\Below V.heap.size V w' from by
  have:=qf3 A n c ws V (hr.below hV)
  rw[qmd Zo] at this;exact this)
 have hne:((n:Int) !=3)=true:=bne_iff_ne.2 Zo;clear hr hn;go_enter Tryz.func6,Tryz.ntmps6;go_wp2_with fail;refine(qhq w).mono ?_;rintro e w1 ⟨rfl,hB1⟩;have hB1:=waa hB1;go_wp2_with fail;refine(han.out _ hB1.out).mono ?_;rintro e w2 ⟨rfl,hB2⟩;have hfin:=waa (hB1.out.trans (hB2.mono hB1.out.size));clear han hB1 hB2;go_wp2_with fail;go_ret;exact⟨rfl,hfin.out⟩
theorem qmo(A:Option Addr)(c x0 x1 x2:Nat)(w:World)(hr:Rd w A 3 (u64V [x0,x1,x2])):
  Calls Tryz.prog 6 #[.slice A 3 c] w λe w'=>e= .returned (.bool true)/\Below w.heap.size w w':=by
 have han:=waa (λ(V:World) (hV:Below w.heap.size w V)=>show Calls Tryz.prog 19 #[.slice A 3 c] V λe w'=>e= .returned (.agg #[.int .i64 (IntKind.i64.wrap (x0:Int)),.int .i64 (IntKind.i64.wrap (x1:Int)),.int .u64 (x2:Int)])/\Below V.heap.size V w' from qf3 A 3 c [x0,x1,x2] V (hr.below hV));obtain⟨pp,hA⟩:∃pp,A=some pp:=by
  obtain⟨pp,-,e,-,-⟩:=hr.at_ (k:=0) Zo;exact⟨pp,e⟩
 subst hA;obtain⟨pb,po,rfl⟩:∃pb po,pp=⟨pb,po,none⟩:=by
  obtain⟨p',u,e,hu,hc⟩:=hr.at_ (k:=0) Zo;injection e with e;subst e;cases pp with
  |mk b o s=>
   cases s with
   |none=>exact⟨b,o,rfl⟩
   |some x=>
    exfalso
    have:(Addr.mk b o (some x)).add 0=Addr.mk b o (some x):=by unfold Addr.add;simp
    rw[this] at hc;obtain⟨b',o',e⟩:=q1a hc;injection e with _ _ e;cases e
 have hcell:=waa (λ(V:World) (hV:Below w.heap.size w V)=>show V.cell? ⟨pb,po,none⟩=some (.int .u64 (x0:Int))/\V.cell? ⟨pb,po+1,none⟩=some (.int .u64 (x1:Int))/\V.cell? ⟨pb,po+2,none⟩=some (.int .u64 (x2:Int)) from by
  have hr2:=hr.below hV;obtain⟨p0,u0,a0,b0,d0⟩:=hr2.at_ (k:=0) Zo;obtain⟨p1,u1,a1,b1,d1⟩:=hr2.at_ (k:=1) Zo;obtain⟨p2,u2,a2,b2,d2⟩:=hr2.at_ (k:=2) Zo;injection a0 with a0;injection a1 with a1;injection a2 with a2;subst a0 a1 a2;injection b0 with b0;injection b1 with b1;injection b2 with b2;rw[Addr.add_mid] at d0 d1 d2;subst b0 b1 b2;exact⟨d0,d1,d2⟩)
 clear hr;go_enter Tryz.func6,Tryz.ntmps6;go_wp2_with fail;refine(qhq w).mono ?_;rintro e w1 ⟨rfl,hB1⟩;have hBd:=hB1.drew;obtain⟨c0,c1,c2⟩:=hcell.out _ hBd;go_wp2_with fail;refine wp_region_held_drew (S:=(λU=>U.cell? ⟨pb,po,none⟩=some (.int .u64 (x0:Int))/\U.cell? ⟨pb,po+1,none⟩=some (.int .u64 (x1:Int))/\U.cell? ⟨pb,po+2,none⟩=some (.int .u64 (x2:Int)))) Zk (⟨c0,c1,c2⟩) (λhHeld=>?_);refine wpAnyH_take (i:=0) (v:=?_) rfl Zk Zk Zk (λ_ _ _ h=>h) (Or.inl ⟨by rfl,?_⟩) Za ?_;rotate_left;(·intro u h;(try dsimp only at h);(try simp only[wab,wac]);go_simp;try with_reducible rfl);try simp only[Act.put,waf,wae,wag,wab,wac]
 refine wpAnyH_take (i:=2) (v:=?_) rfl Zk Zk Zk (λ_ _ _ h=>h) (Or.inl ⟨by rfl,?_⟩) Za ?_;rotate_left;(·intro u h;(try dsimp only at h);(try simp only[wab,wac,wad]);go_simp;try with_reducible rfl);try simp only[Act.put,waf,wae,wag,wab,wac,wad]
 refine wpAnyH_take (i:=3) (v:=?_) rfl Zk Zk Zk (λ_ _ _ h=>h) (Or.inl ⟨by rfl,?_⟩) Za ?_;rotate_left;(·intro u h;(try dsimp only at h);(try simp only[wab,wac,wad]);go_simp;try with_reducible rfl);try simp only[Act.put,waf,wae,wag,wab,wac,wad]
 refine wpAnyH_take (i:=4) (v:=?_) rfl Zk Zk Zk (λ_ _ _ h=>h) (Or.inl ⟨by rfl,?_⟩) Za ?_;rotate_left;(·intro u h;(try dsimp only at h);(try simp only[wab,wac,wad]);go_simp;try with_reducible rfl);try simp only[Act.put,waf,wae,wag,wab,wac,wad]
 refine wpAnyH_take (i:=5) (v:=?_) rfl Zk Zk Zk (λ_ _ _ h=>h) (Or.inl ⟨by rfl,?_⟩) Za ?_;rotate_left;(·intro u h;(try dsimp only at h);(try simp only[wab,wac,wad]);go_simp;try with_reducible rfl);try simp only[Act.put,waf,wae,wag,wab,wac,wad]
 refine wpAnyH_take (i:=6) (v:=?_) rfl Zk Zk Zk (λ_ _ _ h=>h) (Or.inl ⟨by rfl,?_⟩) Za ?_;rotate_left;(·intro u h;(try dsimp only at h);(try simp only[wab,wac,wad]);go_simp;try with_reducible rfl);try simp only[Act.put,waf,wae,wag,wab,wac,wad]
 refine wpAnyH_take (i:=7) (v:=?_) rfl Zk Zk Zk (λ_ _ _ h=>h) (Or.inl ⟨by rfl,?_⟩) Za ?_;rotate_left;(·intro u h;(try dsimp only at h);(try simp only[wab,wac,wad]);go_simp;try with_reducible rfl);try simp only[Act.put,waf,wae,wag,wab,wac,wad]
 refine wpAnyH_take (i:=8) (v:=?_) rfl Zk Zk Zk (λ_ _ _ h=>h) (Or.inl ⟨by rfl,?_⟩) Za ?_;rotate_left;(·intro u h;(try dsimp only at h);(try simp only[wab,wac,wad]);go_simp;try with_reducible rfl);try simp only[Act.put,waf,wae,wag,wab,wac,wad]
 refine wpAnyH_take (i:=9) (v:=?_) rfl Zk Zk Zk (λ_ _ _ h=>h) (Or.inl ⟨by rfl,?_⟩) Za ?_;rotate_left;(·intro u h;(try dsimp only at h);(try simp only[wab,wac,wad]);go_simp;try with_reducible rfl);try simp only[Act.put,waf,wae,wag,wab,wac,wad]
 refine wpAnyH_take (i:=10) (v:=?_) rfl Zk Zk Zk (λ_ _ _ h=>h) (Or.inl ⟨by rfl,?_⟩) Za ?_;rotate_left;(·intro u h;(try dsimp only at h);(try simp only[wab,wac,wad]);go_simp;try with_reducible rfl);try simp only[Act.put,waf,wae,wag,wab,wac,wad]
 refine wpAnyH_take (i:=11) (v:=?_) rfl Zk Zk Zk (λ_ _ _ h=>h) (Or.inl ⟨by rfl,?_⟩) Za ?_;rotate_left;(·intro u h;(try dsimp only at h);(try simp only[wab,wac,wad]);go_simp;try with_reducible rfl);try simp only[Act.put,waf,wae,wag,wab,wac,wad]
 refine wpAnyH_take (i:=12) (v:=?_) rfl Zk Zk Zk (λ_ _ _ h=>h) (Or.inl ⟨by rfl,?_⟩) Za ?_;rotate_left;(·intro u h;(try dsimp only at h);(try simp only[wab,wac,wad]);go_simp;try with_reducible rfl);try simp only[Act.put,waf,wae,wag,wab,wac,wad]
 refine wpAnyH_take (i:=13) (v:=?_) rfl Zk Zk Zk (λ_ _ _ h=>h) (Or.inl ⟨by rfl,?_⟩) Za ?_;rotate_left;(·intro u h;(try dsimp only at h);(try simp only[wab,wac,wad]);go_simp;try with_reducible rfl);try simp only[Act.put,waf,wae,wag,wab,wac,wad]
 refine wpAnyH_ready (rs:=[1]) Zk Zs ?_;refine AllReadyH.cons rfl (λK hK=>?_) AllReadyH.nil
 (try simp only[wab,wac,wad])
 go_simp
 refine(han.out _ hBd).mono ?_;rintro e w3 ⟨rfl,hC⟩;have hB3:=hBd.trans (hC.mono hBd.size);have f0:=(hC.cell (p:=⟨pb,po,none⟩) (wal _ _ c0)).trans c0;have f1:=(hC.cell (p:=⟨pb,po+1,none⟩) (wal _ _ c1)).trans c1;have f2:=(hC.cell (p:=⟨pb,po+2,none⟩) (wal _ _ c2)).trans c2;go_wp2_with fail;refine hK.out _ _ (⟨f0,f1,f2⟩) (λhHeld2=>?_);clear hK K hHeld;have hHeld:=hHeld2;clear hHeld2;try simp only[Act.put,waf,wae,wag,wab,wac,wad]
 refine wpAnyH_take (i:=14) (v:=?_) rfl Zk Zk Zk (λ_ _ _ h=>h) (Or.inl ⟨by rfl,?_⟩) Za ?_;rotate_left;(·intro u h;(try dsimp only at h);(try simp only[wab,wac,wad]);go_simp;try with_reducible rfl);try simp only[Act.put,waf,wae,wag,wab,wac,wad]
 refine wpAnyH_take (i:=15) (v:=?_) rfl Zk Zk Zk (λ_ _ _ h=>h) (Or.inl ⟨by rfl,?_⟩) Za ?_;rotate_left;(·intro u h;(try dsimp only at h);(try simp only[wab,wac,wad]);go_simp;try with_reducible rfl);try simp only[Act.put,waf,wae,wag,wab,wac,wad]
 refine wpAnyH_done Zk ?_ _;go_wp2_with fail;go_ret;exact⟨rfl,hB3⟩
theorem qhm(w:World)(A:Option Addr)(n c:Nat)(ws:List Nat)(hn:ws.length=n)(hm:n<=maxLen)(hc:n<=c)(hA:(A=none/\n=0/\c=0)\/∃q,A=some q)(hr:Rd w A n (u64V ws))(hw:∀y∈ws,y<18446744073709551616):
  Calls Tryz.prog 6 #[.slice A n c] w λe w'=>e= .returned (.bool true)/\Below w.heap.size w w':=by
 by_cases h3:n=3
 ·subst h3
  match ws,hn with
  |[x0,x1,x2],_=>exact qmo A c x0 x1 x2 w hr
 ·exact qob A n c ws w hr h3 (quh hm)
end Go.Proofs.YtgjhkafggagniaaGreat
