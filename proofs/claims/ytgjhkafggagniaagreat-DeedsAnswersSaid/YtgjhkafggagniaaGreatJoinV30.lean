/- Parts. No condition. -/
import Derived.Test.YtgjhkafggagniaaGreatJoinV29
set_option linter.unusedVariables false
set_option maxRecDepth 100000
set_option maxHeartbeats 8000000
namespace Go.Proofs.YtgjhkafggagniaaGreat
open Go Go.RowKit
section
variable {A:AC} {v:Value} {ws:List (Int×Nat)} {w w':World} {base s L:Nat} {t:HS} {G:Nat->Prop} {b0 b1 b2:Nat}
theorem HpX.next{hs':List (Int×Int×Int)}{rx':Nat->List Int}(h:∃F',GrowH G F' w/\Hp w' base A.hb s L A.r hs' rx' F'):∃G',HpX base A.hb s L A.r (hs',rx') G' w'/\Grows G G' w:=by
 obtain⟨F',h1,h2⟩:=h;obtain⟨G',h3,h4⟩:=HpX.of h2;exact⟨G',h3,λk hk=>h1 k (h4 k hk)⟩
theorem HpX.less(h:HpX base A.hb s L A.r t G w)(hB:Below w.heap.size w w'):Upd G w w'/\∃F',GrowH G F' w/\Hp w' base A.hb s L A.r t.1 t.2 F':=
 ⟨(Upd.of_below hB (wah _):Upd (λ_=>False) w w').mono (λ_ e=>e.elim),G,GrowH.refl _ _,h.to.new hB⟩
theorem q1u(h:HpX base A.hb s L A.r t G w):Calls Tryz.prog 249 #[.pointer (some ⟨A.hb,0,none⟩),.int .i64 1] w λe w'=>e= .returned (.int .i64 (qg8 s t.1))/\Upd G w w'/\∃F',GrowH G F' w/\Hp w' base A.hb s L A.r t.1 t.2 F':=by
 have h0:=h;obtain⟨gh,gc,hcap,ccap,rv,h,-⟩:=h;exact(q0u h).mono λe w' k=>⟨k.1,h0.less k.2⟩
theorem q0c(h:HpX base A.hb s L A.r t G w):Calls Tryz.prog 352 #[.pointer (some ⟨A.hb,0,none⟩)] w λe w'=>∃X cap,e= .returned (.slice X t.1.length cap)/\HdsRd w' X t.1.length t.1/\t.1.length<=cap/\Below w.heap.size w w':=by
 obtain⟨gh,gc,hcap,ccap,rv,h,-⟩:=h;have hlen:=h.hlen;refine(qv6 h).mono ?_;rintro e w' ⟨g',cap',rfl,hr,hB⟩;obtain⟨X,cap,e1,hR⟩:=HdsRd.of_own hr;injection e1 with e2 e3 e4;subst e2 e4;refine⟨_,_,by rw[hlen],by rw[hlen];exact hR,?_,hB⟩;rcases hr.2 with ⟨e,h0⟩|⟨g,cap,cur,e,a1,a2,a3⟩
 ·cases e
 ·injection e with e1 e2 e3
  subst e3;have:=a3.1
  omega
theorem qy4(a:Int){W:World}{X:Option Addr}{cap:Nat}(h:HdsRd W X t.1.length t.1)(hcap:t.1.length<=cap)(hl:t.1.length<=16):
  Calls Tryz.prog 146 #[.agg #[.int .i64 A.s,.int .i64 A.l,.int .i64 A.r],.slice X t.1.length cap,.int .i64 a] W λe w'=>∃x y ok,e= .returned (.tuple #[.agg #[.int .i64 x,.int .i64 y,.int .i64 (bwN A.s A.l A.r t.1 a)],.bool ok])/\Below W.heap.size W w':=by
 refine(qyo A.s A.l A.r a X cap t.1 W h hcap Zo).mono ?_;rintro e w' ⟨rfl,hB⟩;obtain⟨x,y,ok,he⟩:=qyq A.s A.l A.r t.1 a;exact⟨x,y,ok,he,hB⟩
theorem qsh(h:HpX base A.hb s L A.r t G w)(ha:AcR A v ws w)(k0:Boxed w b0 154 (.pointer (some ⟨A.ab,0,none⟩))){c:Int}(k1:Boxed w b1 3 (.int .i64 c))(n1:¬G b1)(hx:∀j,(t.2 j).length<=300000):
  Calls Tryz.prog 341 #[.pointer (some ⟨b0,0,none⟩),.pointer (some ⟨b1,0,none⟩)] w λe w'=>e= .returned (.int .i64 ((takO L t.2 A.who c).getD (-1)))/\(∃G',HpX base A.hb s L A.r (t.1,takS L t.2 A.who c) G' w'/\Grows G G' w)/\Upd G w w':=by
 have h':=h.upd (Upd.refl (λ_=>False) w).drew (λ_ _ e=>e);have hta:=waa (qwm h'.to A.who c hx);obtain⟨⟨c0,c1,c2,c3⟩,⟨c4,c6,c16⟩,cf⟩:=ha.cells;have nA:¬G A.ab/\¬G b0:=⟨λe=>by rcases h.not e ha.blk with e|e|e|e<;>exact absurd e Zd,λe=>by rcases h.not e k0 with e|e|e|e<;>exact absurd e Zd⟩
 have d0:=k0.cell;have d1:=k1.cell;clear h h' ha k0 k1 hx;cases ho:takO L t.2 A.who c with
 |none=>
  rw[ho] at hta;simp only[takV] at hta;simp only[Option.getD_none];go_enter Tryz.func341,Tryz.ntmps341;go_upto_region 1 with fail
  refine wp_region_held_drew (S:=(λU=>(U.cell? ⟨A.ab,4,none⟩=some (.pointer (some ⟨A.hb,0,none⟩))/\U.cell? ⟨A.ab,6,none⟩=some (.int .i64 A.who))/\U.cell? ⟨b0,0,none⟩=some (.pointer (some ⟨A.ab,0,none⟩))/\U.cell? ⟨b1,0,none⟩=some (.int .i64 c))) Zk (⟨⟨c4,c6⟩,d0,d1⟩) (λhHeld=>?_);refine wpAnyH_take (i:=0) (v:=?_) rfl Zk Zk Zk (λ_ _ _ h=>h) (Or.inl ⟨by rfl,?_⟩) Za ?_;rotate_left;(·intro u h;(try dsimp only at h);(try simp only[wab,wac]);go_simp;try with_reducible rfl);try simp only[Act.put,waf,wae,wag,wab,wac]
  refine wpAnyH_take (i:=1) (v:=?_) rfl Zk Zk Zk (λ_ _ _ h=>h) (Or.inl ⟨by rfl,?_⟩) Za ?_;rotate_left;(·intro u h;(try dsimp only at h);(try simp only[wab,wac,wad]);go_simp;try with_reducible rfl);try simp only[Act.put,waf,wae,wag,wab,wac,wad]
  refine wpAnyH_take (i:=2) (v:=?_) rfl Zk Zk Zk (λ_ _ _ h=>h) (Or.inl ⟨by rfl,?_⟩) Za ?_;rotate_left;(·intro u h;(try dsimp only at h);(try simp only[wab,wac,wad]);go_simp;try with_reducible rfl);try simp only[Act.put,waf,wae,wag,wab,wac,wad]
  refine wpAnyH_take (i:=3) (v:=?_) rfl Zk Zk Zk (λ_ _ _ h=>h) (Or.inl ⟨by rfl,?_⟩) Za ?_;rotate_left;(·intro u h;(try dsimp only at h);(try simp only[wab,wac,wad]);go_simp;try with_reducible rfl);try simp only[Act.put,waf,wae,wag,wab,wac,wad]
  refine wpAnyH_take (i:=4) (v:=?_) rfl Zk Zk Zk (λ_ _ _ h=>h) (Or.inl ⟨by rfl,?_⟩) Za ?_;rotate_left;(·intro u h;(try dsimp only at h);(try simp only[wab,wac,wad]);go_simp;try with_reducible rfl);try simp only[Act.put,waf,wae,wag,wab,wac,wad]
  refine wpAnyH_take (i:=5) (v:=?_) rfl Zk Zk Zk (λ_ _ _ h=>h) (Or.inl ⟨by rfl,?_⟩) Za ?_;rotate_left;(·intro u h;(try dsimp only at h);(try simp only[wab,wac,wad]);go_simp;try with_reducible rfl);try simp only[Act.put,waf,wae,wag,wab,wac,wad]
  refine wpAnyH_take (i:=6) (v:=?_) rfl Zk Zk Zk (λ_ _ _ h=>h) (Or.inl ⟨by rfl,?_⟩) Za ?_;rotate_left;(·intro u h;(try dsimp only at h);(try simp only[wab,wac,wad]);go_simp;try with_reducible rfl);try simp only[Act.put,waf,wae,wag,wab,wac,wad]
  refine wpAnyH_take (i:=7) (v:=?_) rfl Zk Zk Zk (λ_ _ _ h=>h) (Or.inl ⟨by rfl,?_⟩) Za ?_;rotate_left;(·intro u h;(try dsimp only at h);(try simp only[wab,wac,wad]);go_simp;try with_reducible rfl);try simp only[Act.put,waf,wae,wag,wab,wac,wad]
  refine wpAnyH_take (i:=8) (v:=?_) rfl Zk Zk Zk (λ_ _ _ h=>h) (Or.inl ⟨by rfl,?_⟩) Za ?_;rotate_left;(·intro u h;(try dsimp only at h);(try simp only[wab,wac,wad]);go_simp;try with_reducible rfl);try simp only[Act.put,waf,wae,wag,wab,wac,wad]
  refine wpAnyH_take (i:=9) (v:=?_) rfl Zk Zk Zk (λ_ _ _ h=>h) (Or.inl ⟨by rfl,?_⟩) Za ?_;rotate_left;(·intro u h;(try dsimp only at h);(try simp only[wab,wac,wad]);go_simp;try with_reducible rfl);try simp only[Act.put,waf,wae,wag,wab,wac,wad]
  refine wpAnyH_ready (rs:=[10]) Zk Zs ?_;refine AllReadyH.cons rfl (λK hK=>?_) AllReadyH.nil
  (try simp only[wab,wac,wad])
  go_simp
  refine hta.out.mono ?_;rintro e V ⟨rfl,hu,hn⟩;have hS:Upd G w V:=(Upd.refl G w).drew.trans hu;have hfin:=waa (And.intro (HpX.next hn) hS);clear hu hn;go_wp2_with fail;refine hK.out _ _ (⟨⟨(hS.cell (p:=⟨A.ab,4,none⟩) (wal _ _ c4) nA.1).trans c4,(hS.cell (p:=⟨A.ab,6,none⟩) (wal _ _ c6) nA.1).trans c6⟩,(hS.cell (p:=⟨b0,0,none⟩) (wal _ _ d0) nA.2).trans d0,(hS.cell (p:=⟨b1,0,none⟩) (wal _ _ d1) n1).trans d1⟩) (λhHeld2=>?_);clear hK K hHeld;have hHeld:=hHeld2;clear hHeld2;try simp only[Act.put,waf,wae,wag,wab,wac,wad]
  refine wpAnyH_take (i:=11) (v:=?_) rfl Zk Zk Zk (λ_ _ _ h=>h) (Or.inl ⟨by rfl,?_⟩) Za ?_;rotate_left;(·intro u h;(try dsimp only at h);(try simp only[wab,wac,wad]);go_simp;try with_reducible rfl);try simp only[Act.put,waf,wae,wag,wab,wac,wad]
  refine wpAnyH_take (i:=12) (v:=?_) rfl Zk Zk Zk (λ_ _ _ h=>h) (Or.inl ⟨by rfl,?_⟩) Za ?_;rotate_left;(·intro u h;(try dsimp only at h);(try simp only[wab,wac,wad]);go_simp;try with_reducible rfl);try simp only[Act.put,waf,wae,wag,wab,wac,wad]
  refine wpAnyH_take (i:=13) (v:=?_) rfl Zk Zk Zk (λ_ _ _ h=>h) (Or.inl ⟨by rfl,?_⟩) Za ?_;rotate_left;(·intro u h;(try dsimp only at h);(try simp only[wab,wac,wad]);go_simp;try with_reducible rfl);try simp only[Act.put,waf,wae,wag,wab,wac,wad]
  refine wpAnyH_take (i:=14) (v:=?_) rfl Zk Zk Zk (λ_ _ _ h=>h) (Or.inl ⟨by rfl,?_⟩) Za ?_;rotate_left;(·intro u h;(try dsimp only at h);(try simp only[wab,wac,wad]);go_simp;try with_reducible rfl);try simp only[Act.put,waf,wae,wag,wab,wac,wad]
  refine wpAnyH_take (i:=15) (v:=?_) rfl Zk Zk Zk (λ_ _ _ h=>h) (Or.inl ⟨by rfl,?_⟩) Za ?_;rotate_left;(·intro u h;(try dsimp only at h);(try simp only[wab,wac,wad]);go_simp;try with_reducible rfl);try simp only[Act.put,waf,wae,wag,wab,wac,wad]
  refine wpAnyH_done Zk ?_ _;clear hS;go_wp2_with fail;go_ret;exact⟨rfl,hfin.out.1,hfin.out.2⟩
 |some x=>
  rw[ho] at hta;simp only[takV] at hta;simp only[wem];go_enter Tryz.func341,Tryz.ntmps341;go_upto_region 1 with fail
  refine wp_region_held_drew (S:=(λU=>(U.cell? ⟨A.ab,4,none⟩=some (.pointer (some ⟨A.hb,0,none⟩))/\U.cell? ⟨A.ab,6,none⟩=some (.int .i64 A.who))/\U.cell? ⟨b0,0,none⟩=some (.pointer (some ⟨A.ab,0,none⟩))/\U.cell? ⟨b1,0,none⟩=some (.int .i64 c))) Zk (⟨⟨c4,c6⟩,d0,d1⟩) (λhHeld=>?_);refine wpAnyH_take (i:=0) (v:=?_) rfl Zk Zk Zk (λ_ _ _ h=>h) (Or.inl ⟨by rfl,?_⟩) Za ?_;rotate_left;(·intro u h;(try dsimp only at h);(try simp only[wab,wac]);go_simp;try with_reducible rfl);try simp only[Act.put,waf,wae,wag,wab,wac]
  refine wpAnyH_take (i:=1) (v:=?_) rfl Zk Zk Zk (λ_ _ _ h=>h) (Or.inl ⟨by rfl,?_⟩) Za ?_;rotate_left;(·intro u h;(try dsimp only at h);(try simp only[wab,wac,wad]);go_simp;try with_reducible rfl);try simp only[Act.put,waf,wae,wag,wab,wac,wad]
  refine wpAnyH_take (i:=2) (v:=?_) rfl Zk Zk Zk (λ_ _ _ h=>h) (Or.inl ⟨by rfl,?_⟩) Za ?_;rotate_left;(·intro u h;(try dsimp only at h);(try simp only[wab,wac,wad]);go_simp;try with_reducible rfl);try simp only[Act.put,waf,wae,wag,wab,wac,wad]
  refine wpAnyH_take (i:=3) (v:=?_) rfl Zk Zk Zk (λ_ _ _ h=>h) (Or.inl ⟨by rfl,?_⟩) Za ?_;rotate_left;(·intro u h;(try dsimp only at h);(try simp only[wab,wac,wad]);go_simp;try with_reducible rfl);try simp only[Act.put,waf,wae,wag,wab,wac,wad]
  refine wpAnyH_take (i:=4) (v:=?_) rfl Zk Zk Zk (λ_ _ _ h=>h) (Or.inl ⟨by rfl,?_⟩) Za ?_;rotate_left;(·intro u h;(try dsimp only at h);(try simp only[wab,wac,wad]);go_simp;try with_reducible rfl);try simp only[Act.put,waf,wae,wag,wab,wac,wad]
  refine wpAnyH_take (i:=5) (v:=?_) rfl Zk Zk Zk (λ_ _ _ h=>h) (Or.inl ⟨by rfl,?_⟩) Za ?_;rotate_left;(·intro u h;(try dsimp only at h);(try simp only[wab,wac,wad]);go_simp;try with_reducible rfl);try simp only[Act.put,waf,wae,wag,wab,wac,wad]
  refine wpAnyH_take (i:=6) (v:=?_) rfl Zk Zk Zk (λ_ _ _ h=>h) (Or.inl ⟨by rfl,?_⟩) Za ?_;rotate_left;(·intro u h;(try dsimp only at h);(try simp only[wab,wac,wad]);go_simp;try with_reducible rfl);try simp only[Act.put,waf,wae,wag,wab,wac,wad]
  refine wpAnyH_take (i:=7) (v:=?_) rfl Zk Zk Zk (λ_ _ _ h=>h) (Or.inl ⟨by rfl,?_⟩) Za ?_;rotate_left;(·intro u h;(try dsimp only at h);(try simp only[wab,wac,wad]);go_simp;try with_reducible rfl);try simp only[Act.put,waf,wae,wag,wab,wac,wad]
  refine wpAnyH_take (i:=8) (v:=?_) rfl Zk Zk Zk (λ_ _ _ h=>h) (Or.inl ⟨by rfl,?_⟩) Za ?_;rotate_left;(·intro u h;(try dsimp only at h);(try simp only[wab,wac,wad]);go_simp;try with_reducible rfl);try simp only[Act.put,waf,wae,wag,wab,wac,wad]
  refine wpAnyH_take (i:=9) (v:=?_) rfl Zk Zk Zk (λ_ _ _ h=>h) (Or.inl ⟨by rfl,?_⟩) Za ?_;rotate_left;(·intro u h;(try dsimp only at h);(try simp only[wab,wac,wad]);go_simp;try with_reducible rfl);try simp only[Act.put,waf,wae,wag,wab,wac,wad]
  refine wpAnyH_ready (rs:=[10]) Zk Zs ?_;refine AllReadyH.cons rfl (λK hK=>?_) AllReadyH.nil
  (try simp only[wab,wac,wad])
  go_simp
  refine hta.out.mono ?_;rintro e V ⟨rfl,hu,hn⟩;have hS:Upd G w V:=(Upd.refl G w).drew.trans hu;have hfin:=waa (And.intro (HpX.next hn) hS);clear hu hn;go_wp2_with fail;refine hK.out _ _ (⟨⟨(hS.cell (p:=⟨A.ab,4,none⟩) (wal _ _ c4) nA.1).trans c4,(hS.cell (p:=⟨A.ab,6,none⟩) (wal _ _ c6) nA.1).trans c6⟩,(hS.cell (p:=⟨b0,0,none⟩) (wal _ _ d0) nA.2).trans d0,(hS.cell (p:=⟨b1,0,none⟩) (wal _ _ d1) n1).trans d1⟩) (λhHeld2=>?_);clear hK K hHeld;have hHeld:=hHeld2;clear hHeld2;try simp only[Act.put,waf,wae,wag,wab,wac,wad]
  refine wpAnyH_take (i:=11) (v:=?_) rfl Zk Zk Zk (λ_ _ _ h=>h) (Or.inl ⟨by rfl,?_⟩) Za ?_;rotate_left;(·intro u h;(try dsimp only at h);(try simp only[wab,wac,wad]);go_simp;try with_reducible rfl);try simp only[Act.put,waf,wae,wag,wab,wac,wad]
  refine wpAnyH_take (i:=12) (v:=?_) rfl Zk Zk Zk (λ_ _ _ h=>h) (Or.inl ⟨by rfl,?_⟩) Za ?_;rotate_left;(·intro u h;(try dsimp only at h);(try simp only[wab,wac,wad]);go_simp;try with_reducible rfl);try simp only[Act.put,waf,wae,wag,wab,wac,wad]
  refine wpAnyH_take (i:=13) (v:=?_) rfl Zk Zk Zk (λ_ _ _ h=>h) (Or.inl ⟨by rfl,?_⟩) Za ?_;rotate_left;(·intro u h;(try dsimp only at h);(try simp only[wab,wac,wad]);go_simp;try with_reducible rfl);try simp only[Act.put,waf,wae,wag,wab,wac,wad]
  refine wpAnyH_take (i:=14) (v:=?_) rfl Zk Zk Zk (λ_ _ _ h=>h) (Or.inl ⟨by rfl,?_⟩) Za ?_;rotate_left;(·intro u h;(try dsimp only at h);(try simp only[wab,wac,wad]);go_simp;try with_reducible rfl);try simp only[Act.put,waf,wae,wag,wab,wac,wad]
  refine wpAnyH_take (i:=15) (v:=?_) rfl Zk Zk Zk (λ_ _ _ h=>h) (Or.inl ⟨by rfl,?_⟩) Za ?_;rotate_left;(·intro u h;(try dsimp only at h);(try simp only[wab,wac,wad]);go_simp;try with_reducible rfl);try simp only[Act.put,waf,wae,wag,wab,wac,wad]
  refine wpAnyH_done Zk ?_ _;clear hS;go_wp2_with fail;go_ret;exact⟨rfl,hfin.out.1,hfin.out.2⟩
theorem qn6(h:HpX base A.hb s L A.r t G w)(ha:AcR A v ws w)(k0:Boxed w b0 154 (.pointer (some ⟨A.ab,0,none⟩))){c:Int}(k1:Boxed w b1 3 (.int .i64 c))(n1:¬G b1)(hx:∀j,(t.2 j).length<=300000):
  Calls Tryz.prog 343 #[.pointer (some ⟨b0,0,none⟩),.pointer (some ⟨b1,0,none⟩)] w λe w'=>e= .returned (.int .i64 ((refN L t.2 A.who c:Int)))/\(∃G',HpX base A.hb s L A.r (t.1,refS L t.2 A.who c) G' w'/\Grows G G' w)/\Upd G w w':=by
 have h':=h.upd (Upd.refl (λ_=>False) w).drew (λ_ _ e=>e);have hta:=waa (qq9 h'.to A.who c hx);obtain⟨⟨c0,c1,c2,c3⟩,⟨c4,c6,c16⟩,cf⟩:=ha.cells;have nA:¬G A.ab/\¬G b0:=⟨λe=>by rcases h.not e ha.blk with e|e|e|e<;>exact absurd e Zd,λe=>by rcases h.not e k0 with e|e|e|e<;>exact absurd e Zd⟩
 have d0:=k0.cell;have d1:=k1.cell;clear h h' ha k0 k1 hx;go_enter Tryz.func343,Tryz.ntmps343;go_upto_region 1 with fail
 refine wp_region_held_drew (S:=(λU=>(U.cell? ⟨A.ab,4,none⟩=some (.pointer (some ⟨A.hb,0,none⟩))/\U.cell? ⟨A.ab,6,none⟩=some (.int .i64 A.who))/\U.cell? ⟨b0,0,none⟩=some (.pointer (some ⟨A.ab,0,none⟩))/\U.cell? ⟨b1,0,none⟩=some (.int .i64 c))) Zk (⟨⟨c4,c6⟩,d0,d1⟩) (λhHeld=>?_);refine wpAnyH_take (i:=0) (v:=?_) rfl Zk Zk Zk (λ_ _ _ h=>h) (Or.inl ⟨by rfl,?_⟩) Za ?_;rotate_left;(·intro u h;(try dsimp only at h);(try simp only[wab,wac]);go_simp;try with_reducible rfl);try simp only[Act.put,waf,wae,wag,wab,wac]
 refine wpAnyH_take (i:=1) (v:=?_) rfl Zk Zk Zk (λ_ _ _ h=>h) (Or.inl ⟨by rfl,?_⟩) Za ?_;rotate_left;(·intro u h;(try dsimp only at h);(try simp only[wab,wac,wad]);go_simp;try with_reducible rfl);try simp only[Act.put,waf,wae,wag,wab,wac,wad]
 refine wpAnyH_take (i:=2) (v:=?_) rfl Zk Zk Zk (λ_ _ _ h=>h) (Or.inl ⟨by rfl,?_⟩) Za ?_;rotate_left;(·intro u h;(try dsimp only at h);(try simp only[wab,wac,wad]);go_simp;try with_reducible rfl);try simp only[Act.put,waf,wae,wag,wab,wac,wad]
 refine wpAnyH_take (i:=3) (v:=?_) rfl Zk Zk Zk (λ_ _ _ h=>h) (Or.inl ⟨by rfl,?_⟩) Za ?_;rotate_left;(·intro u h;(try dsimp only at h);(try simp only[wab,wac,wad]);go_simp;try with_reducible rfl);try simp only[Act.put,waf,wae,wag,wab,wac,wad]
 refine wpAnyH_take (i:=4) (v:=?_) rfl Zk Zk Zk (λ_ _ _ h=>h) (Or.inl ⟨by rfl,?_⟩) Za ?_;rotate_left;(·intro u h;(try dsimp only at h);(try simp only[wab,wac,wad]);go_simp;try with_reducible rfl);try simp only[Act.put,waf,wae,wag,wab,wac,wad]
 refine wpAnyH_take (i:=5) (v:=?_) rfl Zk Zk Zk (λ_ _ _ h=>h) (Or.inl ⟨by rfl,?_⟩) Za ?_;rotate_left;(·intro u h;(try dsimp only at h);(try simp only[wab,wac,wad]);go_simp;try with_reducible rfl);try simp only[Act.put,waf,wae,wag,wab,wac,wad]
 refine wpAnyH_take (i:=6) (v:=?_) rfl Zk Zk Zk (λ_ _ _ h=>h) (Or.inl ⟨by rfl,?_⟩) Za ?_;rotate_left;(·intro u h;(try dsimp only at h);(try simp only[wab,wac,wad]);go_simp;try with_reducible rfl);try simp only[Act.put,waf,wae,wag,wab,wac,wad]
 refine wpAnyH_take (i:=7) (v:=?_) rfl Zk Zk Zk (λ_ _ _ h=>h) (Or.inl ⟨by rfl,?_⟩) Za ?_;rotate_left;(·intro u h;(try dsimp only at h);(try simp only[wab,wac,wad]);go_simp;try with_reducible rfl);try simp only[Act.put,waf,wae,wag,wab,wac,wad]
 refine wpAnyH_take (i:=8) (v:=?_) rfl Zk Zk Zk (λ_ _ _ h=>h) (Or.inl ⟨by rfl,?_⟩) Za ?_;rotate_left;(·intro u h;(try dsimp only at h);(try simp only[wab,wac,wad]);go_simp;try with_reducible rfl);try simp only[Act.put,waf,wae,wag,wab,wac,wad]
 refine wpAnyH_take (i:=9) (v:=?_) rfl Zk Zk Zk (λ_ _ _ h=>h) (Or.inl ⟨by rfl,?_⟩) Za ?_;rotate_left;(·intro u h;(try dsimp only at h);(try simp only[wab,wac,wad]);go_simp;try with_reducible rfl);try simp only[Act.put,waf,wae,wag,wab,wac,wad]
 refine wpAnyH_ready (rs:=[10]) Zk Zs ?_;refine AllReadyH.cons rfl (λK hK=>?_) AllReadyH.nil
 (try simp only[wab,wac,wad])
 go_simp
 refine hta.out.mono ?_;rintro e V ⟨rfl,hu,hn⟩;have hS:Upd G w V:=(Upd.refl G w).drew.trans hu;have hfin:=waa (And.intro (HpX.next hn) hS);clear hu hn;go_wp2_with fail;refine hK.out _ _ (⟨⟨(hS.cell (p:=⟨A.ab,4,none⟩) (wal _ _ c4) nA.1).trans c4,(hS.cell (p:=⟨A.ab,6,none⟩) (wal _ _ c6) nA.1).trans c6⟩,(hS.cell (p:=⟨b0,0,none⟩) (wal _ _ d0) nA.2).trans d0,(hS.cell (p:=⟨b1,0,none⟩) (wal _ _ d1) n1).trans d1⟩) (λhHeld2=>?_);clear hK K hHeld;have hHeld:=hHeld2;clear hHeld2;try simp only[Act.put,waf,wae,wag,wab,wac,wad]
 refine wpAnyH_take (i:=11) (v:=?_) rfl Zk Zk Zk (λ_ _ _ h=>h) (Or.inl ⟨by rfl,?_⟩) Za ?_;rotate_left;(·intro u h;(try dsimp only at h);(try simp only[wab,wac,wad]);go_simp;try with_reducible rfl);try simp only[Act.put,waf,wae,wag,wab,wac,wad]
 refine wpAnyH_done Zk ?_ _;clear hS;go_wp2_with fail;go_ret;exact⟨rfl,hfin.out.1,hfin.out.2⟩
theorem qwb(h:HpX base A.hb s L A.r t G w)(ha:AcR A v ws w)(k0:Boxed w b0 154 (.pointer (some ⟨A.ab,0,none⟩))){c:Int}(k1:Boxed w b1 3 (.int .i64 c))(n1:¬G b1){x:Int}(k2:Boxed w b2 3 (.int .i64 x))(n2:¬G b2)(hx:∀j,(t.2 j).length<=300000):
  Calls Tryz.prog 305 #[.pointer (some ⟨b0,0,none⟩),.pointer (some ⟨b1,0,none⟩),.pointer (some ⟨b2,0,none⟩)] w λe w'=>e= .returned (.int .i64 (0))/\(∃G',HpX base A.hb s L A.r (t.1,givS L t.2 A.who c x) G' w'/\Grows G G' w)/\Upd G w w':=by
 have h':=h.upd (Upd.refl (λ_=>False) w).drew (λ_ _ e=>e);have hta:=waa (qyh h'.to A.who c x hx);obtain⟨⟨c0,c1,c2,c3⟩,⟨c4,c6,c16⟩,cf⟩:=ha.cells;have nA:¬G A.ab/\¬G b0:=⟨λe=>by rcases h.not e ha.blk with e|e|e|e<;>exact absurd e Zd,λe=>by rcases h.not e k0 with e|e|e|e<;>exact absurd e Zd⟩
 have d0:=k0.cell;have d1:=k1.cell;have d2:=k2.cell;clear h h' ha k0 k1 k2 hx;go_enter Tryz.func305,Tryz.ntmps305;go_upto_region 1 with fail
 refine wp_region_held_drew (S:=(λU=>(U.cell? ⟨A.ab,4,none⟩=some (.pointer (some ⟨A.hb,0,none⟩))/\U.cell? ⟨A.ab,6,none⟩=some (.int .i64 A.who))/\U.cell? ⟨b0,0,none⟩=some (.pointer (some ⟨A.ab,0,none⟩))/\U.cell? ⟨b1,0,none⟩=some (.int .i64 c)/\U.cell? ⟨b2,0,none⟩=some (.int .i64 x))) Zk (⟨⟨c4,c6⟩,d0,d1,d2⟩) (λhHeld=>?_);refine wpAnyH_take (i:=0) (v:=?_) rfl Zk Zk Zk (λ_ _ _ h=>h) (Or.inl ⟨by rfl,?_⟩) Za ?_;rotate_left;(·intro u h;(try dsimp only at h);(try simp only[wab,wac]);go_simp;try with_reducible rfl);try simp only[Act.put,waf,wae,wag,wab,wac]
 refine wpAnyH_take (i:=1) (v:=?_) rfl Zk Zk Zk (λ_ _ _ h=>h) (Or.inl ⟨by rfl,?_⟩) Za ?_;rotate_left;(·intro u h;(try dsimp only at h);(try simp only[wab,wac,wad]);go_simp;try with_reducible rfl);try simp only[Act.put,waf,wae,wag,wab,wac,wad]
 refine wpAnyH_take (i:=2) (v:=?_) rfl Zk Zk Zk (λ_ _ _ h=>h) (Or.inl ⟨by rfl,?_⟩) Za ?_;rotate_left;(·intro u h;(try dsimp only at h);(try simp only[wab,wac,wad]);go_simp;try with_reducible rfl);try simp only[Act.put,waf,wae,wag,wab,wac,wad]
 refine wpAnyH_take (i:=3) (v:=?_) rfl Zk Zk Zk (λ_ _ _ h=>h) (Or.inl ⟨by rfl,?_⟩) Za ?_;rotate_left;(·intro u h;(try dsimp only at h);(try simp only[wab,wac,wad]);go_simp;try with_reducible rfl);try simp only[Act.put,waf,wae,wag,wab,wac,wad]
 refine wpAnyH_take (i:=4) (v:=?_) rfl Zk Zk Zk (λ_ _ _ h=>h) (Or.inl ⟨by rfl,?_⟩) Za ?_;rotate_left;(·intro u h;(try dsimp only at h);(try simp only[wab,wac,wad]);go_simp;try with_reducible rfl);try simp only[Act.put,waf,wae,wag,wab,wac,wad]
 refine wpAnyH_take (i:=5) (v:=?_) rfl Zk Zk Zk (λ_ _ _ h=>h) (Or.inl ⟨by rfl,?_⟩) Za ?_;rotate_left;(·intro u h;(try dsimp only at h);(try simp only[wab,wac,wad]);go_simp;try with_reducible rfl);try simp only[Act.put,waf,wae,wag,wab,wac,wad]
 refine wpAnyH_take (i:=6) (v:=?_) rfl Zk Zk Zk (λ_ _ _ h=>h) (Or.inl ⟨by rfl,?_⟩) Za ?_;rotate_left;(·intro u h;(try dsimp only at h);(try simp only[wab,wac,wad]);go_simp;try with_reducible rfl);try simp only[Act.put,waf,wae,wag,wab,wac,wad]
 refine wpAnyH_take (i:=7) (v:=?_) rfl Zk Zk Zk (λ_ _ _ h=>h) (Or.inl ⟨by rfl,?_⟩) Za ?_;rotate_left;(·intro u h;(try dsimp only at h);(try simp only[wab,wac,wad]);go_simp;try with_reducible rfl);try simp only[Act.put,waf,wae,wag,wab,wac,wad]
 refine wpAnyH_take (i:=8) (v:=?_) rfl Zk Zk Zk (λ_ _ _ h=>h) (Or.inl ⟨by rfl,?_⟩) Za ?_;rotate_left;(·intro u h;(try dsimp only at h);(try simp only[wab,wac,wad]);go_simp;try with_reducible rfl);try simp only[Act.put,waf,wae,wag,wab,wac,wad]
 refine wpAnyH_take (i:=9) (v:=?_) rfl Zk Zk Zk (λ_ _ _ h=>h) (Or.inl ⟨by rfl,?_⟩) Za ?_;rotate_left;(·intro u h;(try dsimp only at h);(try simp only[wab,wac,wad]);go_simp;try with_reducible rfl);try simp only[Act.put,waf,wae,wag,wab,wac,wad]
 refine wpAnyH_take (i:=10) (v:=?_) rfl Zk Zk Zk (λ_ _ _ h=>h) (Or.inl ⟨by rfl,?_⟩) Za ?_;rotate_left;(·intro u h;(try dsimp only at h);(try simp only[wab,wac,wad]);go_simp;try with_reducible rfl);try simp only[Act.put,waf,wae,wag,wab,wac,wad]
 refine wpAnyH_ready (rs:=[11]) Zk Zs ?_;refine AllReadyH.cons rfl (λK hK=>?_) AllReadyH.nil
 (try simp only[wab,wac,wad])
 go_simp
 refine hta.out.mono ?_;rintro e V ⟨rfl,hu,hn⟩;have hS:Upd G w V:=(Upd.refl G w).drew.trans hu;have hfin:=waa (And.intro (HpX.next hn) hS);clear hu hn;go_wp2_with fail;refine hK.out _ _ (⟨⟨(hS.cell (p:=⟨A.ab,4,none⟩) (wal _ _ c4) nA.1).trans c4,(hS.cell (p:=⟨A.ab,6,none⟩) (wal _ _ c6) nA.1).trans c6⟩,(hS.cell (p:=⟨b0,0,none⟩) (wal _ _ d0) nA.2).trans d0,(hS.cell (p:=⟨b1,0,none⟩) (wal _ _ d1) n1).trans d1,(hS.cell (p:=⟨b2,0,none⟩) (wal _ _ d2) n2).trans d2⟩) (λhHeld2=>?_);clear hK K hHeld;have hHeld:=hHeld2;clear hHeld2;try simp only[Act.put,waf,wae,wag,wab,wac,wad]
 refine wpAnyH_done Zk ?_ _;clear hS;go_wp2_with fail;go_ret;exact⟨rfl,hfin.out.1,hfin.out.2⟩
theorem qql(h:HpX base A.hb s L A.r t G w)(ha:AcR A v ws w)(k0:Boxed w b0 154 (.pointer (some ⟨A.ab,0,none⟩))){i:Int}(k1:Boxed w b1 3 (.int .i64 i))(n1:¬G b1){c:Int}(k2:Boxed w b2 3 (.int .i64 c))(n2:¬G b2)(hx:∀j,(t.2 j).length<=300000):
  Calls Tryz.prog 346 #[.pointer (some ⟨b0,0,none⟩),.pointer (some ⟨b1,0,none⟩),.pointer (some ⟨b2,0,none⟩)] w λe w'=>e= .returned (.int .i64 (if carB t.1 i c=true then 0 else 1))/\(∃G',HpX base A.hb s L A.r (carH t.1 i c,carS s L A.r t.1 t.2 i c) G' w'/\Grows G G' w)/\Upd G w w':=by
 have h':=h.upd (Upd.refl (λ_=>False) w).drew (λ_ _ e=>e);have hta:=waa (qu7 h'.to i c hx);obtain⟨⟨c0,c1,c2,c3⟩,⟨c4,c6,c16⟩,cf⟩:=ha.cells;have nA:¬G A.ab/\¬G b0:=⟨λe=>by rcases h.not e ha.blk with e|e|e|e<;>exact absurd e Zd,λe=>by rcases h.not e k0 with e|e|e|e<;>exact absurd e Zd⟩
 have d0:=k0.cell;have d1:=k1.cell;have d2:=k2.cell;clear h h' ha k0 k1 k2 hx;generalize (if carB t.1 i c=true then(0:Int) else 1)=z at hta ⊢;go_enter Tryz.func346,Tryz.ntmps346;go_upto_region 1 with fail
 refine wp_region_held_drew (S:=(λU=>(U.cell? ⟨A.ab,4,none⟩=some (.pointer (some ⟨A.hb,0,none⟩))/\U.cell? ⟨A.ab,6,none⟩=some (.int .i64 A.who))/\U.cell? ⟨b0,0,none⟩=some (.pointer (some ⟨A.ab,0,none⟩))/\U.cell? ⟨b1,0,none⟩=some (.int .i64 i)/\U.cell? ⟨b2,0,none⟩=some (.int .i64 c))) Zk (⟨⟨c4,c6⟩,d0,d1,d2⟩) (λhHeld=>?_);refine wpAnyH_take (i:=0) (v:=?_) rfl Zk Zk Zk (λ_ _ _ h=>h) (Or.inl ⟨by rfl,?_⟩) Za ?_;rotate_left;(·intro u h;(try dsimp only at h);(try simp only[wab,wac]);go_simp;try with_reducible rfl);try simp only[Act.put,waf,wae,wag,wab,wac]
 refine wpAnyH_take (i:=1) (v:=?_) rfl Zk Zk Zk (λ_ _ _ h=>h) (Or.inl ⟨by rfl,?_⟩) Za ?_;rotate_left;(·intro u h;(try dsimp only at h);(try simp only[wab,wac,wad]);go_simp;try with_reducible rfl);try simp only[Act.put,waf,wae,wag,wab,wac,wad]
 refine wpAnyH_take (i:=2) (v:=?_) rfl Zk Zk Zk (λ_ _ _ h=>h) (Or.inl ⟨by rfl,?_⟩) Za ?_;rotate_left;(·intro u h;(try dsimp only at h);(try simp only[wab,wac,wad]);go_simp;try with_reducible rfl);try simp only[Act.put,waf,wae,wag,wab,wac,wad]
 refine wpAnyH_take (i:=3) (v:=?_) rfl Zk Zk Zk (λ_ _ _ h=>h) (Or.inl ⟨by rfl,?_⟩) Za ?_;rotate_left;(·intro u h;(try dsimp only at h);(try simp only[wab,wac,wad]);go_simp;try with_reducible rfl);try simp only[Act.put,waf,wae,wag,wab,wac,wad]
 refine wpAnyH_take (i:=4) (v:=?_) rfl Zk Zk Zk (λ_ _ _ h=>h) (Or.inl ⟨by rfl,?_⟩) Za ?_;rotate_left;(·intro u h;(try dsimp only at h);(try simp only[wab,wac,wad]);go_simp;try with_reducible rfl);try simp only[Act.put,waf,wae,wag,wab,wac,wad]
 refine wpAnyH_take (i:=5) (v:=?_) rfl Zk Zk Zk (λ_ _ _ h=>h) (Or.inl ⟨by rfl,?_⟩) Za ?_;rotate_left;(·intro u h;(try dsimp only at h);(try simp only[wab,wac,wad]);go_simp;try with_reducible rfl);try simp only[Act.put,waf,wae,wag,wab,wac,wad]
 refine wpAnyH_ready (rs:=[6]) Zk Zs ?_;refine AllReadyH.cons rfl (λK hK=>?_) AllReadyH.nil
 (try simp only[wab,wac,wad])
 go_simp
 refine hta.out.mono ?_;rintro e V ⟨rfl,hu,hn⟩;have hS:Upd G w V:=(Upd.refl G w).drew.trans hu;have hfin:=waa (And.intro (HpX.next hn) hS);clear hu hn;go_wp2_with fail;refine hK.out _ _ (⟨⟨(hS.cell (p:=⟨A.ab,4,none⟩) (wal _ _ c4) nA.1).trans c4,(hS.cell (p:=⟨A.ab,6,none⟩) (wal _ _ c6) nA.1).trans c6⟩,(hS.cell (p:=⟨b0,0,none⟩) (wal _ _ d0) nA.2).trans d0,(hS.cell (p:=⟨b1,0,none⟩) (wal _ _ d1) n1).trans d1,(hS.cell (p:=⟨b2,0,none⟩) (wal _ _ d2) n2).trans d2⟩) (λhHeld2=>?_);clear hK K hHeld;have hHeld:=hHeld2;clear hHeld2;try simp only[Act.put,waf,wae,wag,wab,wac,wad]
 refine wpAnyH_take (i:=7) (v:=?_) rfl Zk Zk Zk (λ_ _ _ h=>h) (Or.inl ⟨by rfl,?_⟩) Za ?_;rotate_left;(·intro u h;(try dsimp only at h);(try simp only[wab,wac,wad]);go_simp;try with_reducible rfl);try simp only[Act.put,waf,wae,wag,wab,wac,wad]
 refine wpAnyH_done Zk ?_ _;clear hS;go_wp2_with fail;go_ret;exact⟨rfl,hfin.out.1,hfin.out.2⟩
theorem qs3(h:HpX base A.hb s L A.r t G w)(ha:AcR A v ws w)(k0:Boxed w b0 154 (.pointer (some ⟨A.ab,0,none⟩))):
  Calls Tryz.prog 345 #[.pointer (some ⟨b0,0,none⟩)] w λe w'=>e= .returned (.int .i64 (qg8 s t.1))/\(∃G',HpX base A.hb s L A.r t G' w'/\Grows G G' w)/\Upd G w w':=by
 have hta:=waa (q1u h);obtain⟨⟨c0,c1,c2,c3⟩,⟨c4,c6,c16⟩,cf⟩:=ha.cells;have d0:=k0.cell;clear h ha k0;go_enter Tryz.func345,Tryz.ntmps345;go_wp2_with fail;refine hta.out.mono ?_;rintro e V ⟨rfl,hu,hn⟩;have hfin:=waa (And.intro (HpX.next hn) hu);clear hu hn;go_wp2_with fail;go_ret;exact⟨rfl,hfin.out.1,hfin.out.2⟩
theorem qzo(h:HpX base A.hb s L A.r t G w)(ha:AcR A v ws w)(k0:Boxed w b0 154 (.pointer (some ⟨A.ab,0,none⟩))){a:Int}(k1:Boxed w b1 3 (.int .i64 a)):
  Calls Tryz.prog 351 #[.pointer (some ⟨b0,0,none⟩),.pointer (some ⟨b1,0,none⟩)] w λe w'=>e= .returned (.int .i64 (bwN A.s A.l A.r t.1 a))/\Below w.heap.size w w':=by
 have hl16:t.1.length<=16:=by
  obtain⟨gh,gc,hcap,ccap,rv,h,-⟩:=h;have:=h.hlen
  have:=h.dims
  omega
 have hhd:=waa (λ(W:World) (hW:Below w.heap.size w W)=>q0c (h.upd (Upd.of_below (F:=λ_=>False) hW (wah _)) (λ_ _ e=>e)));have hsp:=waa (λ(W:World) (X:Option Addr) (cap:Nat) (hX:HdsRd W X t.1.length t.1) (hc:t.1.length<=cap)=>qy4 (A:=A) a hX hc hl16);obtain⟨⟨c0,c1,c2,c3⟩,⟨c4,c6,c16⟩,cf⟩:=ha.cells;have d0:=k0.cell;have d1:=k1.cell;have hcel:=waa (λ(U:World) (hU:Below w.heap.size w U)=>show(λU=>(U.cell? ⟨A.ab,1,none⟩=some (.int .i64 A.s)/\U.cell? ⟨A.ab,2,none⟩=some (.int .i64 A.l)/\U.cell? ⟨A.ab,3,none⟩=some (.int .i64 A.r)/\U.cell? ⟨A.ab,4,none⟩=some (.pointer (some ⟨A.hb,0,none⟩)))/\U.cell? ⟨b0,0,none⟩=some (.pointer (some ⟨A.ab,0,none⟩))/\U.cell? ⟨b1,0,none⟩=some (.int .i64 a)) U from⟨⟨qaa hU c1,qaa hU c2,qaa hU c3,qaa hU c4⟩,qaa hU d0,qaa hU d1⟩);have hC:=waa ((wai w.heap.size w).drew);clear h ha k0 k1;go_enter Tryz.func351,Tryz.ntmps351;go_upto_region 1 with fail
 refine wp_region_held_drew (S:=(λU=>(U.cell? ⟨A.ab,1,none⟩=some (.int .i64 A.s)/\U.cell? ⟨A.ab,2,none⟩=some (.int .i64 A.l)/\U.cell? ⟨A.ab,3,none⟩=some (.int .i64 A.r)/\U.cell? ⟨A.ab,4,none⟩=some (.pointer (some ⟨A.hb,0,none⟩)))/\U.cell? ⟨b0,0,none⟩=some (.pointer (some ⟨A.ab,0,none⟩))/\U.cell? ⟨b1,0,none⟩=some (.int .i64 a))) Zk (hcel.out _ hC.out) (λhHeld=>?_);refine wpAnyH_take (i:=0) (v:=?_) rfl Zk Zk Zk (λ_ _ _ h=>h) (Or.inl ⟨by rfl,?_⟩) Za ?_;rotate_left;(·intro u h;(try dsimp only at h);(try simp only[wab,wac]);go_simp;try with_reducible rfl);try simp only[Act.put,waf,wae,wag,wab,wac]
 refine wpAnyH_take (i:=1) (v:=?_) rfl Zk Zk Zk (λ_ _ _ h=>h) (Or.inl ⟨by rfl,?_⟩) Za ?_;rotate_left;(·intro u h;(try dsimp only at h);(try simp only[wab,wac,wad]);go_simp;try with_reducible rfl);try simp only[Act.put,waf,wae,wag,wab,wac,wad]
 refine wpAnyH_take (i:=2) (v:=?_) rfl Zk Zk Zk (λ_ _ _ h=>h) (Or.inl ⟨by rfl,?_⟩) Za ?_;rotate_left;(·intro u h;(try dsimp only at h);(try simp only[wab,wac,wad]);go_simp;try with_reducible rfl);try simp only[Act.put,waf,wae,wag,wab,wac,wad]
 refine wpAnyH_take (i:=3) (v:=?_) rfl Zk Zk Zk (λ_ _ _ h=>h) (Or.inl ⟨by rfl,?_⟩) Za ?_;rotate_left;(·intro u h;(try dsimp only at h);(try simp only[wab,wac,wad]);go_simp;try with_reducible rfl);try simp only[Act.put,waf,wae,wag,wab,wac,wad]
 refine wpAnyH_take (i:=4) (v:=?_) rfl Zk Zk Zk (λ_ _ _ h=>h) (Or.inl ⟨by rfl,?_⟩) Za ?_;rotate_left;(·intro u h;(try dsimp only at h);(try simp only[wab,wac,wad]);go_simp;try with_reducible rfl);try simp only[Act.put,waf,wae,wag,wab,wac,wad]
 refine wpAnyH_take (i:=5) (v:=?_) rfl Zk Zk Zk (λ_ _ _ h=>h) (Or.inl ⟨by rfl,?_⟩) Za ?_;rotate_left;(·intro u h;(try dsimp only at h);(try simp only[wab,wac,wad]);go_simp;try with_reducible rfl);try simp only[Act.put,waf,wae,wag,wab,wac,wad]
 refine wpAnyH_take (i:=6) (v:=?_) rfl Zk Zk Zk (λ_ _ _ h=>h) (Or.inl ⟨by rfl,?_⟩) Za ?_;rotate_left;(·intro u h;(try dsimp only at h);(try simp only[wab,wac,wad]);go_simp;try with_reducible rfl);try simp only[Act.put,waf,wae,wag,wab,wac,wad]
 refine wpAnyH_take (i:=7) (v:=?_) rfl Zk Zk Zk (λ_ _ _ h=>h) (Or.inl ⟨by rfl,?_⟩) Za ?_;rotate_left;(·intro u h;(try dsimp only at h);(try simp only[wab,wac,wad]);go_simp;try with_reducible rfl);try simp only[Act.put,waf,wae,wag,wab,wac,wad]
 refine wpAnyH_take (i:=9) (v:=?_) rfl Zk Zk Zk (λ_ _ _ h=>h) (Or.inl ⟨by rfl,?_⟩) Za ?_;rotate_left;(·intro u h;(try dsimp only at h);(try simp only[wab,wac,wad]);go_simp;try with_reducible rfl);try simp only[Act.put,waf,wae,wag,wab,wac,wad]
 refine wpAnyH_ready (rs:=[8,14]) Zk Zs ?_;refine AllReadyH.cons rfl (λK hK=>?_) (AllReadyH.cons rfl (λK hK=>?_) AllReadyH.nil)
 ·(try simp only[wab,wac,wad])
  go_simp
  refine(hhd.out _ hC.out).mono ?_;rintro e V ⟨X,cap,rfl,hX,hcap,hB⟩;replace hC:=waa (hC.out.trans (hB.mono hC.out.size));replace hX:=waa hX;clear hB;go_wp2_with fail;refine hK.out _ _ (hcel.out _ hC.out) (λhHeld2=>?_);clear hK K hHeld;have hHeld:=hHeld2;clear hHeld2;try simp only[Act.put,waf,wae,wag,wab,wac,wad]
  refine wpAnyH_ready (rs:=[10,14]) Zk Zs ?_;refine AllReadyH.cons rfl (λK hK=>?_) (AllReadyH.cons rfl (λK hK=>?_) AllReadyH.nil)
  ·(try simp only[wab,wac,wad])
   go_simp
   refine(hsp.out _ X cap hX.out hcap).mono ?_;rintro e V2 ⟨x,y,ok,rfl,hB⟩;replace hC:=waa (hC.out.trans (hB.mono hC.out.size));clear hB hX;go_wp2_with fail;refine hK.out _ _ (hcel.out _ hC.out) (λhHeld2=>?_);clear hK K hHeld;have hHeld:=hHeld2;clear hHeld2;try simp only[Act.put,waf,wae,wag,wab,wac,wad]
   refine wpAnyH_take (i:=11) (v:=?_) rfl Zk Zk Zk (λ_ _ _ h=>h) (Or.inl ⟨by rfl,?_⟩) Za ?_;rotate_left;(·intro u h;(try dsimp only at h);(try simp only[wab,wac,wad]);go_simp;try with_reducible rfl);try simp only[Act.put,waf,wae,wag,wab,wac,wad]
   refine wpAnyH_take (i:=12) (v:=?_) rfl Zk Zk Zk (λ_ _ _ h=>h) (Or.inl ⟨by rfl,?_⟩) Za ?_;rotate_left;(·intro u h;(try dsimp only at h);(try simp only[wab,wac,wad]);go_simp;try with_reducible rfl);try simp only[Act.put,waf,wae,wag,wab,wac,wad]
   refine wpAnyH_take (i:=13) (v:=?_) rfl Zk Zk Zk (λ_ _ _ h=>h) (Or.inl ⟨by rfl,?_⟩) Za ?_;rotate_left;(·intro u h;(try dsimp only at h);(try simp only[wab,wac,wad]);go_simp;try with_reducible rfl);try simp only[Act.put,waf,wae,wag,wab,wac,wad]
   refine wpAnyH_ready (rs:=[14]) Zk Zs ?_;refine AllReadyH.cons rfl (λK hK=>?_) AllReadyH.nil
   (try simp only[wab,wac,wad])
   go_simp
   have hbx:Hid (Sb (V2.alloc (.cells #[.int .i64 0,.int .i64 0,.int .i64 0] 77)) V2.heap.size 0 0 0):=waa (Sb.new V2 0 0 0);have hge:w.heap.size<=V2.heap.size:=hC.out.size;have hCa:=hC;replace hC:=waa (hC.out.alloc hC.out.size (.cells #[.int .i64 0,.int .i64 0,.int .i64 0] 77));refine hK.out _ _ (hcel.out _ hC.out) (λhHeld2=>?_);clear hK K hHeld;have hHeld:=hHeld2;clear hHeld2;try simp only[Act.put,waf,wae,wag,wab,wac,wad]
   refine wpAnyH_ready (rs:=[15]) Zk Zs ?_;refine AllReadyH.cons rfl (λK hK=>?_) AllReadyH.nil;obtain⟨q0,q1,q2,qf⟩:=hbx.out.cells
   (try simp only[wab,wac,wad])
   go_simp
   replace hbx:Hid (Sb (V2.alloc (.cells #[.int .i64 x,.int .i64 y,.int .i64 (bwN A.s A.l A.r t.1 a)] 77)) V2.heap.size x y (bwN A.s A.l A.r t.1 a)):=waa (Sb.new V2 x y _);replace hC:=waa (hCa.out.alloc hCa.out.size (.cells #[.int .i64 x,.int .i64 y,.int .i64 (bwN A.s A.l A.r t.1 a)] 77));refine hK.out _ _ (hcel.out _ hC.out) (λhHeld2=>?_);clear hK K hHeld;have hHeld:=hHeld2;clear hHeld2;try simp only[Act.put,waf,wae,wag,wab,wac,wad]
   refine wpAnyH_take (i:=16) (v:=?_) rfl Zk Zk Zk (λ_ _ _ h=>h) (Or.inl ⟨by rfl,?_⟩) Za ?_;rotate_left;(·intro u h;(try dsimp only at h);(try simp only[wab,wac,wad]);go_simp;try with_reducible rfl);try simp only[Act.put,waf,wae,wag,wab,wac,wad]
   refine wpAnyH_done Zk ?_ _;obtain⟨e0,e1,e2,ef⟩:=hbx.out.cells;go_wp2_with fail;go_ret;exact⟨rfl,hC.out⟩
  ·(try simp only[wab,wac,wad])
   go_simp
   have hbx:Hid (Sb (V.alloc (.cells #[.int .i64 0,.int .i64 0,.int .i64 0] 77)) V.heap.size 0 0 0):=waa (Sb.new V 0 0 0);have hge:w.heap.size<=V.heap.size:=hC.out.size;have hCa:=hC;replace hC:=waa (hC.out.alloc hC.out.size (.cells #[.int .i64 0,.int .i64 0,.int .i64 0] 77));replace hX:=waa (hX.out.below ((wai _ _).alloc (wah _) (.cells #[.int .i64 0,.int .i64 0,.int .i64 0] 77)));refine hK.out _ _ (hcel.out _ hC.out) (λhHeld2=>?_);clear hK K hHeld;have hHeld:=hHeld2;clear hHeld2;try simp only[Act.put,waf,wae,wag,wab,wac,wad]
   refine wpAnyH_ready (rs:=[10]) Zk Zs ?_;refine AllReadyH.cons rfl (λK hK=>?_) AllReadyH.nil
   (try simp only[wab,wac,wad])
   go_simp
   refine(hsp.out _ X cap hX.out hcap).mono ?_;rintro e V2 ⟨x,y,ok,rfl,hB⟩;replace hbx:=waa (hbx.out.below hB hbx.out.lt);replace hC:=waa (hC.out.trans (hB.mono hC.out.size));clear hB hX;go_wp2_with fail;refine hK.out _ _ (hcel.out _ hC.out) (λhHeld2=>?_);clear hK K hHeld;have hHeld:=hHeld2;clear hHeld2;try simp only[Act.put,waf,wae,wag,wab,wac,wad]
   refine wpAnyH_take (i:=11) (v:=?_) rfl Zk Zk Zk (λ_ _ _ h=>h) (Or.inl ⟨by rfl,?_⟩) Za ?_;rotate_left;(·intro u h;(try dsimp only at h);(try simp only[wab,wac,wad]);go_simp;try with_reducible rfl);try simp only[Act.put,waf,wae,wag,wab,wac,wad]
   refine wpAnyH_take (i:=12) (v:=?_) rfl Zk Zk Zk (λ_ _ _ h=>h) (Or.inl ⟨by rfl,?_⟩) Za ?_;rotate_left;(·intro u h;(try dsimp only at h);(try simp only[wab,wac,wad]);go_simp;try with_reducible rfl);try simp only[Act.put,waf,wae,wag,wab,wac,wad]
   refine wpAnyH_take (i:=13) (v:=?_) rfl Zk Zk Zk (λ_ _ _ h=>h) (Or.inl ⟨by rfl,?_⟩) Za ?_;rotate_left;(·intro u h;(try dsimp only at h);(try simp only[wab,wac,wad]);go_simp;try with_reducible rfl);try simp only[Act.put,waf,wae,wag,wab,wac,wad]
   refine wpAnyH_ready (rs:=[15]) Zk Zs ?_;refine AllReadyH.cons rfl (λK hK=>?_) AllReadyH.nil;obtain⟨q0,q1,q2,qf⟩:=hbx.out.cells
   (try simp only[wab,wac,wad])
   go_simp
   replace hbx:=waa (hbx.out.set (k':=x) (c':=y) (n':=bwN A.s A.l A.r t.1 a));replace hC:=waa (((hC.out.setCell (p:=⟨V.heap.size,0,none⟩) hge (.int .i64 x)).setCell (p:=⟨V.heap.size,1,none⟩) hge (.int .i64 y)).setCell (p:=⟨V.heap.size,2,none⟩) hge (.int .i64 (bwN A.s A.l A.r t.1 a)));refine hK.out _ _ (hcel.out _ hC.out) (λhHeld2=>?_);clear hK K hHeld;have hHeld:=hHeld2;clear hHeld2;try simp only[Act.put,waf,wae,wag,wab,wac,wad]
   refine wpAnyH_take (i:=16) (v:=?_) rfl Zk Zk Zk (λ_ _ _ h=>h) (Or.inl ⟨by rfl,?_⟩) Za ?_;rotate_left;(·intro u h;(try dsimp only at h);(try simp only[wab,wac,wad]);go_simp;try with_reducible rfl);try simp only[Act.put,waf,wae,wag,wab,wac,wad]
   refine wpAnyH_done Zk ?_ _;obtain⟨e0,e1,e2,ef⟩:=hbx.out.cells;go_wp2_with fail;go_ret;exact⟨rfl,hC.out⟩
 ·(try simp only[wab,wac,wad])
  go_simp
  have hbx:Hid (Sb (w.drew.alloc (.cells #[.int .i64 0,.int .i64 0,.int .i64 0] 77)) w.heap.size 0 0 0):=waa (Sb.new w.drew 0 0 0);have hge:w.heap.size<=w.heap.size:=hC.out.size;have hCa:=hC;replace hC:=waa (hC.out.alloc hC.out.size (.cells #[.int .i64 0,.int .i64 0,.int .i64 0] 77));refine hK.out _ _ (hcel.out _ hC.out) (λhHeld2=>?_);clear hK K hHeld;have hHeld:=hHeld2;clear hHeld2;try simp only[Act.put,waf,wae,wag,wab,wac,wad]
  refine wpAnyH_ready (rs:=[8]) Zk Zs ?_;refine AllReadyH.cons rfl (λK hK=>?_) AllReadyH.nil
  (try simp only[wab,wac,wad])
  go_simp
  refine(hhd.out _ hC.out).mono ?_;rintro e V ⟨X,cap,rfl,hX,hcap,hB⟩;replace hbx:=waa (hbx.out.below hB hbx.out.lt);replace hC:=waa (hC.out.trans (hB.mono hC.out.size));replace hX:=waa hX;clear hB;go_wp2_with fail;refine hK.out _ _ (hcel.out _ hC.out) (λhHeld2=>?_);clear hK K hHeld;have hHeld:=hHeld2;clear hHeld2;try simp only[Act.put,waf,wae,wag,wab,wac,wad]
  refine wpAnyH_ready (rs:=[10]) Zk Zs ?_;refine AllReadyH.cons rfl (λK hK=>?_) AllReadyH.nil
  (try simp only[wab,wac,wad])
  go_simp
  refine(hsp.out _ X cap hX.out hcap).mono ?_;rintro e V2 ⟨x,y,ok,rfl,hB⟩;replace hbx:=waa (hbx.out.below hB hbx.out.lt);replace hC:=waa (hC.out.trans (hB.mono hC.out.size));clear hB hX;go_wp2_with fail;refine hK.out _ _ (hcel.out _ hC.out) (λhHeld2=>?_);clear hK K hHeld;have hHeld:=hHeld2;clear hHeld2;try simp only[Act.put,waf,wae,wag,wab,wac,wad]
  refine wpAnyH_take (i:=11) (v:=?_) rfl Zk Zk Zk (λ_ _ _ h=>h) (Or.inl ⟨by rfl,?_⟩) Za ?_;rotate_left;(·intro u h;(try dsimp only at h);(try simp only[wab,wac,wad]);go_simp;try with_reducible rfl);try simp only[Act.put,waf,wae,wag,wab,wac,wad]
  refine wpAnyH_take (i:=12) (v:=?_) rfl Zk Zk Zk (λ_ _ _ h=>h) (Or.inl ⟨by rfl,?_⟩) Za ?_;rotate_left;(·intro u h;(try dsimp only at h);(try simp only[wab,wac,wad]);go_simp;try with_reducible rfl);try simp only[Act.put,waf,wae,wag,wab,wac,wad]
  refine wpAnyH_take (i:=13) (v:=?_) rfl Zk Zk Zk (λ_ _ _ h=>h) (Or.inl ⟨by rfl,?_⟩) Za ?_;rotate_left;(·intro u h;(try dsimp only at h);(try simp only[wab,wac,wad]);go_simp;try with_reducible rfl);try simp only[Act.put,waf,wae,wag,wab,wac,wad]
  refine wpAnyH_ready (rs:=[15]) Zk Zs ?_;refine AllReadyH.cons rfl (λK hK=>?_) AllReadyH.nil;obtain⟨q0,q1,q2,qf⟩:=hbx.out.cells
  (try simp only[wab,wac,wad])
  go_simp
  replace hbx:=waa (hbx.out.set (k':=x) (c':=y) (n':=bwN A.s A.l A.r t.1 a));replace hC:=waa (((hC.out.setCell (p:=⟨w.heap.size,0,none⟩) hge (.int .i64 x)).setCell (p:=⟨w.heap.size,1,none⟩) hge (.int .i64 y)).setCell (p:=⟨w.heap.size,2,none⟩) hge (.int .i64 (bwN A.s A.l A.r t.1 a)));refine hK.out _ _ (hcel.out _ hC.out) (λhHeld2=>?_);clear hK K hHeld;have hHeld:=hHeld2;clear hHeld2;try simp only[Act.put,waf,wae,wag,wab,wac,wad]
  refine wpAnyH_take (i:=16) (v:=?_) rfl Zk Zk Zk (λ_ _ _ h=>h) (Or.inl ⟨by rfl,?_⟩) Za ?_;rotate_left;(·intro u h;(try dsimp only at h);(try simp only[wab,wac,wad]);go_simp;try with_reducible rfl);try simp only[Act.put,waf,wae,wag,wab,wac,wad]
  refine wpAnyH_done Zk ?_ _;obtain⟨e0,e1,e2,ef⟩:=hbx.out.cells;go_wp2_with fail;go_ret;exact⟨rfl,hC.out⟩
end
end Go.Proofs.YtgjhkafggagniaaGreat
