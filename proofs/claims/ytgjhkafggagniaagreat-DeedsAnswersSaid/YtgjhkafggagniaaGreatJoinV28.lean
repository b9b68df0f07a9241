/- Parts. No condition. -/
import Derived.Test.YtgjhkafggagniaaGreatJoinV27
set_option linter.unusedVariables false
set_option maxRecDepth 100000
set_option maxHeartbeats 8000000
namespace Go.Proofs.YtgjhkafggagniaaGreat
open Go Go.RowKit
section
variable {w w':World} {base p gh gc hcap ccap s L:Nat} {r:Int} {hs:List (Int×Int×Int)} {rv:Nat->Value} {rx:Nat->List Int} {F:Nat->Prop}
theorem HpR.turnedL{i:Nat}(h:HpR w base p gh gc hcap ccap s L r hs rv rx F)(hi:i<4){u1:Value}{M1:List Int}{G:Nat->Prop}(hu:Upd G w w')(hG:∀k,G k->k=p\/(rv i).ownBlock=some k\/¬F k)(h1:w'.heap[p]? =some (.cells ((hpC rv (s:Int) (L:Int) r (.slice (some ⟨gh,0,none⟩) s hcap) (.slice (some ⟨gc,0,none⟩) L ccap)).setIfInBounds (4+i) u1) 139 (0,0)))(hr1:RowI w' base u1 M1)(ho1:u1.ownBlock=(rv i).ownBlock\/∃g,u1.ownBlock=some g/\w.heap.size<=g):
  ∃F',HpR w' base p gh gc hcap ccap s L r hs (upV rv i u1) (upV rx i M1) F'/\GrowH F F' w:=by
 have hj:0<4*L:=by have:=h.dims;omega
 have hpG:¬G gc:=λhk=>by
  rcases hG gc hk with e|e|e
  ·exact h.ne e.symm
  ·exact h.headN.2.2.2.2 i Zo e
  ·exact e h.cov.2.2.1
 have hrG:∀g,(rv (4+0)).ownBlock=some g->¬G g:=λg hg hk=>by
  rcases hG g hk with e|e|e
  ·exact h.headN.2.2.2.1 (4+0) Zo (by rw[hg,e])
  ·exact h.apart (4+0) i Zo Zo Zo g hg e
  ·exact e (h.cov.2.2.2 (4+0) Zo g hg)
 have:=h.turned (j:=0) (u2:=rv (4+0)) (M2:=rx (4+0)) hi hj hu (λk hk=>by
   rcases hG k hk with e|e|e
   ·exact .inl e
   ·exact .inr (.inr (.inl e))
   ·exact .inr (.inr (.inr (.inr e))))
  h1 (by rw[qdv (qgi hj)];exact(hu.block gc (h.lts gc h.cov.2.2.1) hpG).trans h.cach) hr1 ((h.rows (4+0) Zo).upd hu hrG) ho1 (.inl rfl)
  (λg hg e=>by
   rcases ho1 with e1|⟨g2,e1,hg2⟩
   ·exact h.apart (4+0) i Zo Zo Zo g e (by rw[<-e1];exact hg)
   ·rw[hg] at e1
    injection e1 with e1;have:=((h.rows (4+0) Zo).lt g e).2
    omega)
 have e1:upV (upV rv i u1) (4+0) (rv (4+0))=upV rv i u1:=by
  have:=qjc (upV rv i u1) (4+0)
  rwa [qcc rv u1 (show 4+0≠i by omega)] at this
 have e2:upV (upV rx i M1) (4+0) (rx (4+0))=upV rx i M1:=by
  have:=qjc (upV rx i M1) (4+0)
  rwa [qcc rx M1 (show 4+0≠i by omega)] at this
 rwa [e1,e2] at this
theorem qwi(h:HpR w base p gh gc hcap ccap s L r hs rv rx F){c:Nat}(hc:c<4){ad:Addr}{m cp:Nat}{news:List Int}(hm:news.length=m)(h0:0<m)(hnew:∀(j:Nat) (x:Int),news[j]? =some x->w.cell? (ad.add j)=some (Value.int .i64 x))(hlen:(rx c).length+m<=1000000):
  Calls Tryz.prog 66 #[.pointer (some ⟨p,0,none⟩),.int .i64 (c:Int),.slice (some ad) m cp] w λe w'=>e= .returned (.tuple #[])/\Upd F w w'/\∃rv' F',HpR w' base p gh gc hcap ccap s L r hs rv' (upV rx c (rx c++news)) F'/\GrowH F F' w:=by
 have hblk:w.drew.heap[p]? =some (.cells (hpC rv (s:Int) (L:Int) r (.slice (some ⟨gh,0,none⟩) s hcap) (.slice (some ⟨gc,0,none⟩) L ccap)) 139 (0,0)):=h.blk;have hrow:RowI w.drew base (rv c) (rx c):=h.rows c Zo;have hnp:(rv c).ownBlock≠some p:=h.headN.2.2.2.1 c Zo;have hplt:p<w.drew.heap.size:=h.lts p h.cov.1;have hbs:base<=w.drew.heap.size:=h.low.2.2;have k0:w.drew.cell? ⟨p,4+c,none⟩=some (rv c):=by rw[qab hblk];exact qi8 hc
 replace hlen:(rx c).length+m<=1099511627776:=Zo
 replace hnew:∀(j:Nat) (x:Int),news[j]? =some x->w.drew.cell? (ad.add j)=some (Value.int .i64 x):=hnew;have z5:(0:Int)<=(c:Int):=Zo
 have z6:(c:Int)<4:=Zo
 have hnp':=hnp;replace hblk:=waa hblk;replace h:=waa h;obtain⟨RA,RC,hrve,hRl,hRR⟩:=hrow.shape;have hblk:=hblk.out;go_enter Tryz.func66,Tryz.ntmps66;go_wp2_with fail;refine wp_region_held_drew (S:=(λU=>True)) Zk (trivial) (λhHeld=>?_);refine wpAnyH_take (i:=0) (v:=?_) rfl Zk Zk Zk (λ_ _ _ h=>h) (Or.inl ⟨by rfl,?_⟩) Za ?_;rotate_left;(·intro u h;(try dsimp only at h);(try simp only[wab,wac]);go_simp;try with_reducible rfl);try simp only[Act.put,waf,wae,wag,wab,wac]
 refine wpAnyH_take (i:=1) (v:=?_) rfl Zk Zk Zk (λ_ _ _ h=>h) (Or.inl ⟨by rfl,?_⟩) Za ?_;rotate_left;(·intro u h;(try dsimp only at h);(try simp only[wab,wac,wad]);go_simp;try with_reducible rfl);try simp only[Act.put,waf,wae,wag,wab,wac,wad]
 refine wpAnyH_take (i:=2) (v:=?_) rfl Zk Zk Zk (λ_ _ _ h=>h) (Or.inl ⟨by rfl,?_⟩) Za ?_;rotate_left;(·intro u h;(try dsimp only at h);(try simp only[wab,wac,wad]);go_simp;try with_reducible rfl);try simp only[Act.put,waf,wae,wag,wab,wac,wad]
 refine wpAnyH_take (i:=3) (v:=?_) rfl Zk Zk Zk (λ_ _ _ h=>h) (Or.inl ⟨by rfl,?_⟩) Za ?_;rotate_left;(·intro u h;(try dsimp only at h);(try simp only[wab,wac,wad]);go_simp;try with_reducible rfl);try simp only[Act.put,waf,wae,wag,wab,wac,wad]
 refine wpAnyH_take (i:=4) (v:=?_) rfl Zk Zk Zk (λ_ _ _ h=>h) (Or.inl ⟨by rfl,?_⟩) Za ?_;rotate_left;(·intro u h;(try dsimp only at h);(try simp only[wab,wac,wad]);go_simp;try with_reducible rfl);try simp only[Act.put,waf,wae,wag,wab,wac,wad]
 refine wpAnyH_take (i:=5) (v:=?_) rfl Zk Zk Zk (λ_ _ _ h=>h) (Or.inl ⟨by rfl,?_⟩) Za ?_;rotate_left;(·intro u h;(try dsimp only at h);(try simp only[wab,wac,wad]);go_simp;try with_reducible rfl);try simp only[Act.put,waf,wae,wag,wab,wac,wad]
 refine wpAnyH_take (i:=6) (v:=?_) rfl Zk Zk Zk (λ_ _ _ h=>h) (Or.inl ⟨by rfl,?_⟩) Za ?_;rotate_left;(·intro u h;(try dsimp only at h);(try simp only[wab,wac,wad]);go_simp;try with_reducible rfl);try simp only[Act.put,waf,wae,wag,wab,wac,wad]
 refine wpAnyH_take (i:=8) (v:=?_) rfl Zk Zk Zk (λ_ _ _ h=>h) (Or.inl ⟨by rfl,?_⟩) Za ?_;rotate_left;(·intro u h;(try dsimp only at h);(try simp only[wab,wac,wad]);go_simp;try with_reducible rfl);try simp only[Act.put,waf,wae,wag,wab,wac,wad]
 refine wpAnyH_take (i:=10) (v:=?_) rfl Zk Zk Zk (λ_ _ _ h=>h) (Or.inl ⟨by rfl,?_⟩) Za ?_;rotate_left;(·intro u h;(try dsimp only at h);(try simp only[wab,wac,wad]);go_simp;try with_reducible rfl);try simp only[Act.put,waf,wae,wag,wab,wac,wad]
 refine wpAnyH_take (i:=11) (v:=?_) rfl Zk Zk Zk (λ_ _ _ h=>h) (Or.inl ⟨by rfl,?_⟩) Za ?_;rotate_left;(·intro u h;(try dsimp only at h);(try simp only[wab,wac,wad]);go_simp;try with_reducible rfl);try simp only[Act.put,waf,wae,wag,wab,wac,wad]
 refine wpAnyH_ready (rs:=[7]) Zk Zs ?_;refine AllReadyH.cons rfl (λK hK=>?_) AllReadyH.nil
 (try simp only[wab,wac,wad])
 go_simp
 refine hK.out _ _ (trivial) (λhHeld2=>?_);clear hK K hHeld;have hHeld:=hHeld2;clear hHeld2;try simp only[Act.put,waf,wae,wag,wab,wac,wad]
 refine wpAnyH_ready (rs:=[9]) Zk Zs ?_;refine AllReadyH.cons rfl (λK hK=>?_) AllReadyH.nil;refine qcm Zr _ _ Zr base (rv c) (rx c) (by first|rfl|exact hrve.symm|exact hrve) hrow ad m cp news Zr hm h0 hnew hlen hbs ?_;intro u2 w3 hr2 hgr2 hob2;obtain⟨TA,TC,rfl,hTl,hTR⟩:=hr2.shape;generalize (rx c++news).length=TN at hr2 hob2 hTl ⊢;have hA3:w3.heap[p]? =some (.cells (hpC rv (s:Int) (L:Int) r (.slice (some ⟨gh,0,none⟩) s hcap) (.slice (some ⟨gc,0,none⟩) L ccap)) 139 (0,0)):=(hgr2.block p hplt (λe=>hnp e.symm)).trans hblk;have hA3f:w3.frozen? ⟨p,4+c,none⟩=false:=qah hA3 (4+c);have hA3c:w3.cell? ⟨p,4+c,none⟩=some (rv c):=by rw[qab hA3];exact qi8 hc
 refine hK.out _ _ (trivial) (λhHeld2=>?_);clear hK K hHeld;have hHeld:=hHeld2;clear hHeld2;try simp only[Act.put,waf,wae,wag,wab,wac,wad]
 refine wpAnyH_take (i:=12) (v:=?_) rfl Zk Zk Zk (λ_ _ _ h=>h) (Or.inl ⟨by rfl,?_⟩) Za ?_;rotate_left;(·intro u h;(try dsimp only at h);(try simp only[wab,wac,wad]);go_simp;try with_reducible rfl);try simp only[Act.put,waf,wae,wag,wab,wac,wad]
 refine wpAnyH_ready (rs:=[13]) Zk Zs ?_;refine AllReadyH.cons rfl (λK hK=>?_) AllReadyH.nil
 (try simp only[wab,wac,wad])
 go_simp
 refine hK.out _ _ (trivial) (λhHeld2=>?_);clear hK K hHeld;have hHeld:=hHeld2;clear hHeld2;try simp only[Act.put,waf,wae,wag,wab,wac,wad]
 refine wpAnyH_done Zk ?_ _;go_wp2_with fail;go_end0
 have hu:Upd (λk=>k=p\/(rv c).ownBlock=some k) w (w3.setCell ⟨p,4+c,none⟩ (.slice TA TN TC)):=
  (((Upd.of_below ((wai w.heap.size w).drew) (wah _):Upd (λ_=>False) w w.drew).mono (λ_ e=>e.elim)).grown hgr2 (λk e=> .inl (.inr e))).setCell (.inl (.inl rfl)) _
 have hnb:=qbm hA3 Zd hr2;have hr3:=hr2.upd ((Upd.refl (λk=>k=p) w3).setCell (p:=⟨p,4+c,none⟩) (.inl rfl) (.slice TA TN TC)) (λg hg e=>hnb (e▸hg));obtain⟨F',hF',hg⟩:=h.out.turnedL hc hu (λk hk=>by
  rcases hk with e|e
  ·exact .inl e
  ·exact .inr (.inl e)) (by rw[qaj hA3]) hr3 hob2
 exact⟨rfl,hu.mono (λk hk=>by
  rcases hk with e|e
  ·exact e▸h.out.cov.1
  ·exact h.out.cov.2.2.2 c Zo k e),_,F',hF',hg⟩
end
end Go.Proofs.YtgjhkafggagniaaGreat
namespace Go.Proofs.YtgjhkafggagniaaGreat
open Go Go.RowKit
open Go.Sort (SWO PermIn SortedIn swp permIn_refl permIn_trans permIn_all permIn_mono swp_permIn size_swp swp_other swp_left swp_right)
def RevA(d e:Array Int)(i:Nat):Prop:=e.size=d.size/\∀m,m<d.size->e[m]! =if m<i\/d.size<=m+i then d[d.size - 1 - m]! else d[m]!
theorem RevA.start(d:Array Int):RevA d d 0:=⟨rfl,λm hm=>by rw[if_neg Zo]⟩
theorem RevA.step{d e:Array Int}{i j:Nat}(h:RevA d e i)(hij:i<j)(hj:j+i+1=d.size):RevA d (swp e i j) (i+1):=by
 obtain⟨h1,h2⟩:=h;refine⟨by rw[size_swp,h1],λm hm=>?_⟩;by_cases e1:m=i
 ·subst e1
  rw[swp_left _ _ _ Zo Zo,h2 j Zo,if_neg Zo,if_pos Zo,show d.size - 1 - m=j by omega]
 ·by_cases e2:m=j
  ·subst e2
   rw[swp_right _ _ _ Zo,h2 i Zo,if_neg Zo,if_pos Zo,show d.size - 1 - m=i by omega]
  ·rw[swp_other _ _ _ _ e1 e2,h2 m hm]
   by_cases e3:m<i\/d.size<=m+i
   ·rw[if_pos e3,if_pos Zo]
   ·rw[if_neg e3,if_neg Zo]
theorem RevA.done{d e:Array Int}{i:Nat}(h:RevA d e i)(hi:d.size<=2*i+1):e=d.reverse:=by
 obtain⟨h1,h2⟩:=h;apply Array.ext
 ·simp[h1]
 ·intro m hm hm2
  have:=h2 m Zo
  rw[getElem!_pos e m hm] at this;rw[this,Array.getElem_reverse];by_cases e3:m<i\/d.size<=m+i
  ·rw[if_pos e3,getElem!_pos d _ Zo]
  ·rw[if_neg e3,getElem!_pos d _ Zo]
   congr 1
   omega
theorem qoe(g c cp:Nat)(d:Array Int)(w:World)(h:SrtI w g c d)(hcp:d.size<=cp)(hn:d.size<=1000000):
  Calls Tryz.prog 378 #[.slice (some ⟨g,0,none⟩) d.size cp] w λe w'=>e= .returned (.tuple #[])/\SrtI w' g c d.reverse/\Below g w w':=by
 obtain⟨N,hN⟩:∃N,d.size=N:=⟨_,rfl⟩
 rw[hN] at hcp hn ⊢;have hlt:=h.lt;have hw0:IntKind.i64.wrap ((N:Int) - 1)=(N:Int) - 1:=wap _ Zo;go_enter Tryz.func378,Tryz.ntmps378;go_wp2_with fail;go_loopw [2,3] (λp q wr=>∃(i:Nat) (j:Int) (e:Array Int),p= .int .i64 (i:Int)/\q= .int .i64 j/\j+(i:Int)+1=(N:Int)/\(i:Int)<=j+1/\Hid (RevA d e i)/\Hid (SrtI wr g c e)/\Hid (Below g w wr)) (λp q _=>(intOf q+1).toNat)
 case atStart=>exact⟨0,(N:Int) - 1,d,rfl,rfl,Zo,Zo,waa (RevA.start d),waa h,waa (wai _ _)⟩
 case round=>
  obtain⟨i,j,e,rfl,rfl,hi,hib,hP,hS,hB⟩:=hrel;have hes:e.size=N:=hP.out.1.trans hN;by_cases hlt:(i:Int)<j
  ·obtain⟨jn,rfl⟩:∃jn:Nat,j=(jn:Int):=⟨j.toNat,Zo⟩
   obtain⟨G,hG,hc,hf⟩:=hS.out.words;rw[hes] at hc;have c1:=hc i Zo;have c2:=hc jn Zo;have f1:=hf i;have f2:=hf jn;have hin:i<N:=Zo
   have hjn:jn<N:=Zo
   clear hc hf;go_wp2_with fail;go_region
   all_goals go_wp2_with fail
   go_roundw
   case rel=>exact⟨i+1,(jn:Int) - 1,swp e i jn,by go_num,by go_num,Zo,Zo,waa (hP.out.step Zo Zo),waa (hS.out.swapped Zo Zo (by rw[hG.out]) (by rw[hG.out])),waa (qjq hB.out _ _ _ _)⟩
   case measure=>(simp[intOf];try omega)
  ·go_wp2_with fail
   go_end0
   exact⟨rfl,by rw[<-hP.out.done Zo];exact hS.out,hB.out⟩
theorem qod{w:World}{base:Nat}{v:Value}{L:List Int}(h:RowI w base v L)(hne:L≠[])(hn:L.length<=1000000):
  Calls Tryz.prog 378 #[v] w λe w'=>e= .returned (.tuple #[])/\RowI w' base v L.reverse/\Below base w w':=by
 rcases h with ⟨-,e⟩|⟨g,cap,cur,rfl,hb,hg,h1,h2,h3,h4⟩
 ·exact absurd e hne
 ·have hS:SrtI w g cur.size L.toArray:=⟨cur,hg,rfl,by simp;omega,λt ht=>by
   have ht':t<L.length:=by simpa using ht
   rw[getElem!_pos L.toArray t ht];exact h4 t _ (by simp[ht'])⟩
  have hr:=qoe g cur.size cap L.toArray w hS (by simpa using h1) (by simpa using hn);rw[show L.toArray.size=L.length by simp] at hr;refine hr.mono ?_;rintro e w' ⟨rfl,⟨cur',k1,k2,k3,k4⟩,hB⟩;refine⟨rfl,.inr ⟨g,cap,cur',by rw[we9],hb,k1,by rw[we9];exact h1,h2,Zo,λj x hx=>?_⟩,hB.mono hb⟩;have hj:j<L.toArray.reverse.size:=by
   have:=(was.1 hx).1
   simpa using this
  rw[k4 j hj,getElem!_pos L.toArray.reverse j hj];have:L.toArray.reverse[j]? =some x:=by simpa using hx
  rw[wb5 hj] at this;rw[wev this]
end Go.Proofs.YtgjhkafggagniaaGreat
namespace Go.Proofs.YtgjhkafggagniaaGreat
open Go Go.RowKit
section
variable {w:World} {base p gh gc hcap ccap s L:Nat} {r:Int} {hs:List (Int×Int×Int)} {rv:Nat->Value} {rx:Nat->List Int} {F:Nat->Prop}
theorem HpR.headSet(h:HpR w base p gh gc hcap ccap s L r hs rv rx F){I:Nat}(hI:I<s)(k c n:Int):
  HpR (((w.setCell ⟨gh,I*3,none⟩ (.int .i64 k)).setCell ⟨gh,I*3+1,none⟩ (.int .i64 c)).setCell ⟨gh,I*3+2,none⟩ (.int .i64 n)) base p gh gc hcap ccap s L r (hs.set I (k,c,n)) rv rx F/\
  Upd (λk=>k=gh) w (((w.setCell ⟨gh,I*3,none⟩ (.int .i64 k)).setCell ⟨gh,I*3+1,none⟩ (.int .i64 c)).setCell ⟨gh,I*3+2,none⟩ (.int .i64 n)):=by
 have hu:Upd (λk=>k=gh) w (((w.setCell ⟨gh,I*3,none⟩ (.int .i64 k)).setCell ⟨gh,I*3+1,none⟩ (.int .i64 c)).setCell ⟨gh,I*3+2,none⟩ (.int .i64 n)):=
  (((Upd.refl (λk=>k=gh) w).setCell (p:=⟨gh,I*3,none⟩) (.inl rfl) _).setCell (p:=⟨gh,I*3+1,none⟩) (.inl rfl) _).setCell (p:=⟨gh,I*3+2,none⟩) (.inl rfl) _
 obtain⟨q1,q2,q3,-,-⟩:=h.headN;have hl:=h.hlen;refine⟨⟨(hu.block p (h.lts p h.cov.1) q1).trans h.blk,⟨by rw[qgw,weo];omega,?_⟩,(hu.block gc (h.lts gc h.cov.2.2.1) q2).trans h.cach,λj hj=>(h.rows j hj).upd hu (λg hg e=>q3 j hj (by rw[hg,e])),h.apart,⟨h.low.1,h.low.2.1,wam h.low.2.2 hu.size⟩,h.dims,h.cov,λk hk=>wak (h.lts k hk) hu.size⟩,hu⟩;rcases h.heads.2 with ⟨e,-⟩|⟨g,cap,cur,e,a1,a2,a3,a4,a5,a6⟩
 ·cases e
 ·injection e with e1 e2 e3
  injection e1 with e1;injection e1 with e1;subst e1 e3;refine .inr ⟨gh,hcap,_,rfl,a1,qaj (qaj (qaj a2 _ _) _ _) _ _,a3,a4,by simpa using a5,?_⟩;rw[wd6,wd6,wd6,wdk,wdk,wdk,a6];exact q1z hs I k c n Zo
def carB(hs:List (Int×Int×Int))(i c:Int):Bool:=freB hs i&&decide (0<=c/\c<4)
def carH(hs:List (Int×Int×Int))(i c:Int):List (Int×Int×Int):=if carB hs i c=true then hs.set i.toNat (1,c,0) else hs
def carS(s L:Nat)(r:Int)(hs:List (Int×Int×Int))(rx:Nat->List Int)(i c:Int):Nat->List Int:=
 if carB hs i c=true then upV rx c.toNat (rx c.toNat++(qcd (qci s L r i) (szN c) (bkN c).toNat).reverse) else rx
theorem qxc{c:Int}(hc:0<=c/\c<4):4<=bkN c:=by
 have h4:c=0\/c=1\/c=2\/c=3:=Zo
 rcases h4 with rfl|rfl|rfl|rfl<;>decide
theorem qu7(h:Hp w base p s L r hs rx F)(i c:Int)(hx:∀j,(rx j).length<=300000):
  Calls Tryz.prog 347 #[.pointer (some ⟨p,0,none⟩),.int .i64 i,.int .i64 c] w λe w'=>e= .returned (.int .i64 (if carB hs i c=true then 0 else 1))/\Upd F w w'/\∃F',GrowH F F' w/\Hp w' base p s L r (carH hs i c) (carS s L r hs rx i c) F':=by
 obtain⟨gh,gc,hcap,ccap,rv,h⟩:=h;have hd:=h.dims;have hlen:=h.hlen;unfold carH carS carB;have haf:=waa (qho h i);cases hfr:freB hs i with
 |false=>
  rw[hfr] at haf;rw[wcq,if_neg Zd,if_neg Zd,if_neg Zd];replace h:=waa h;clear hfr;go_enter Tryz.func347,Tryz.ntmps347;go_wp2_with fail;refine haf.out.mono ?_;rintro e w1 ⟨rfl,hB⟩;have hB1:=waa hB;clear hB;go_wp2_with fail;go_ret;exact⟨rfl,(Upd.of_below hB1.out (wah _):Upd (λ_=>False) w w1).mono (λ_ e=>e.elim),F,GrowH.refl _ _,⟨gh,gc,hcap,ccap,_,h.out.new hB1.out⟩⟩
 |true=>
  rw[hfr] at haf;rw[wcp];by_cases hc:0<=c/\c<4
  ·rw[decide_eq_true hc,if_pos rfl,if_pos rfl,if_pos rfl]
   have hi:0<=i/\i<(s:Int):=by
    unfold freB at hfr;rw[wbp] at hfr;have:=of_decide_eq_true hfr.1
    omega
   obtain⟨I,rfl⟩:=waq hi.1;obtain⟨C,rfl⟩:=waq hc.1;rw[wao,wao];have hI:I<s:=Zo
   have hC:C<4:=Zo
   have hsm:=waa (λW=>show Calls Tryz.prog 353 #[.int .i64 (C:Int)] W λe w'=>e= .returned (.bool true)/\W=w' from by
    have:=qel (C:Int) W
    rwa [decide_eq_true hc] at this)
   have z1:(0:Int)<=(I:Int):=Zo
   have z2:(I:Int)<(s:Int):=Zo
   have hbk:=qxc hc;have hbd:=qpk (C:Int);obtain⟨B,hBB⟩:∃B,qcd (qci s L r (I:Int)) (szN (C:Int)) (bkN (C:Int)).toNat=B:=⟨_,rfl⟩
   have hBl:4<=B.length/\B.length<=32:=by rw[<-hBB,qg3];omega
   have hBL:∀hs':List (Int×Int×Int),hs'=hs.set I (1,(C:Int),0)->blkL s L r hs' (I:Int)=B:=by
    rintro _ rfl;unfold blkL;have e:hdOf (hs.set I (1,(C:Int),0)) (I:Int)=(1,(C:Int),0):=by
     unfold hdOf;rw[if_pos (by rw[weo];omega),wao,List.getElem?_set_self Zo];rfl
    rw[e,if_pos rfl];exact hBB
   rw[hBB];obtain⟨R,hR0⟩:∃R,B.reverse=R:=⟨_,rfl⟩
   have hrl:R.length=B.length:=by rw[<-hR0,we9]
   rw[hR0];replace hR0:=waa hR0;clear hfr hbk hbd;replace h:=waa h;replace hBB:=waa hBB;replace hBL:=waa hBL;go_enter Tryz.func347,Tryz.ntmps347;go_wp2_with fail;refine haf.out.mono ?_;rintro e w1 ⟨rfl,hB⟩;have h1:=waa (h.out.new hB);have hB1:=waa hB;clear hB;go_wp2_with fail;refine(hsm.out _).mono ?_;rintro e w2 ⟨rfl,rfl⟩;obtain⟨d0,d1,d2,d3,d4,df⟩:=h1.out.cells;obtain⟨a,b,cc,-,c0,c1,c2⟩:=h1.out.hd hI;have f0:∀o,w1.frozen? ⟨gh,o,none⟩=false:=by
    rcases h1.out.heads.2 with ⟨e,-⟩|⟨g,cap,cur,e,a1,a2,a3⟩
    ·cases e
    ·injection e with e
     injection e with e;injection e with e;subst e;exact λo=>qah a2 o
   obtain⟨hS,hU⟩:=h1.out.headSet hI 1 (C:Int) 0;have hbl:=waa (qhw hS (I:Int));rw[hBL.out _ rfl] at hbl;replace hS:=waa hS;replace hU:=waa hU;go_wp2_with fail;refine hbl.out.mono ?_;rintro e w3 ⟨v,rfl,hrow,hB3⟩;have hBne:B≠[]:=λe=>by rw[e] at hBl;simp at hBl
   have hr1:=waa (qod hrow hBne Zo);rw[hR0.out] at hr1;have hB3':=waa hB3;clear hrow hB3 hbl hBL hBB c0 c1 c2 d0 d1 d2 d3 d4 df f0 z1 z2 hsm haf hBne hR0;generalize ((w1.setCell ⟨gh,I*3,none⟩ (.int .i64 1)).setCell ⟨gh,I*3+1,none⟩ (.int .i64 (C:Int))).setCell ⟨gh,I*3+2,none⟩ (.int .i64 0)=W2 at hS hU hr1 hB3';generalize B.length=bl at hBl hrl;go_wp2_with fail;refine hr1.out.mono ?_;rintro e w4 ⟨rfl,hrow2,hB4⟩;have hB34:=hB3'.out.trans hB4;have h4:=hS.out.new hB34;obtain⟨X,y,rfl,hy,hR⟩:=hrow2.shape;obtain⟨q,rfl,hcx⟩:=hR.2 Zo;have hxc:=hx C;have hcm:=waa (qwi h4 hC (m:=R.length) (cp:=y) (news:=R) rfl Zo (λj x hx=>hcx j _ (qf9 hx)) Zo);replace hrl:=waa hrl;replace hxc:=waa hxc;clear hy;generalize R.length=rl at hcm ⊢;have hU4:Upd F w w4:=(((Upd.of_below hB1.out (wah _):Upd (λ_=>False) w w1).mono (λ_ e=>e.elim)).after hU.out (λk hk=> .inl (hk▸h.out.cov.2.1))).after (Upd.of_below hB34 (wah _):Upd (λ_=>False) _ w4) (λ_ e=>e.elim);have hfin:=waa hU4;clear hrow2 hB4 hB34 h4 hR hcx hU4 hr1;go_wp2_with fail;refine hcm.out.mono ?_;rintro e w5 ⟨rfl,hU5,rv',F',hF',hg⟩;have hend:=waa (And.intro (hfin.out.trans hU5) (And.intro hF' (λk hk=>(hg k hk).imp id (λe=>wam hfin.out.size e):GrowH F F' w)));clear hU5 hF' hg hcm;go_wp2_with fail;go_ret;exact⟨rfl,hend.out.1,F',hend.out.2.2,⟨gh,gc,hcap,ccap,rv',hend.out.2.1⟩⟩
  ·rw[decide_eq_false hc,if_neg Zd,if_neg Zd,if_neg Zd]
   have hsm:=waa (λW=>show Calls Tryz.prog 353 #[.int .i64 c] W λe w'=>e= .returned (.bool false)/\W=w' from by
    have:=qel c W
    rwa [decide_eq_false hc] at this)
   replace h:=waa h;clear hfr hc;go_enter Tryz.func347,Tryz.ntmps347;go_wp2_with fail;refine haf.out.mono ?_;rintro e w1 ⟨rfl,hB⟩;have hB1:=waa hB;clear hB;go_wp2_with fail;refine(hsm.out _).mono ?_;rintro e w2 ⟨rfl,rfl⟩;go_wp2_with fail;go_ret;exact⟨rfl,(Upd.of_below hB1.out (wah _):Upd (λ_=>False) w w1).mono (λ_ e=>e.elim),F,GrowH.refl _ _,⟨gh,gc,hcap,ccap,_,h.out.new hB1.out⟩⟩
end
end Go.Proofs.YtgjhkafggagniaaGreat
