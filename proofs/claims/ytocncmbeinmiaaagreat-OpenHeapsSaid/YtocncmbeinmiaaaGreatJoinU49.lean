/- Parts. No condition. -/
import Derived.Test.YtocncmbeinmiaaaGreatJoinU48
set_option linter.unusedVariables false
set_option maxRecDepth 100000
set_option maxHeartbeats 8000000
namespace Go.Proofs.YtocncmbeinmiaaaGreat
open Go Go.RowKit
section
variable {w w':World} {base p gh gc hcap ccap s L:Nat} {r:Int} {hs:List (Int×Int×Int)} {rv:Nat->Value} {rx:Nat->List Int} {F:Nat->Prop}
theorem HpR.turnedL{i:Nat}(h:HpR w base p gh gc hcap ccap s L r hs rv rx F)(hi:i<4){u1:Value}{M1:List Int}{G:Nat->Prop}(hu:Upd G w w')(hG:∀k,G k->k=p\/(rv i).ownBlock=some k\/¬F k)(h1:w'.heap[p]? =some (.cells ((hpC rv (s:Int) (L:Int) r (.slice (some ⟨gh,0,none⟩) s hcap) (.slice (some ⟨gc,0,none⟩) L ccap)).setIfInBounds (4+i) u1) 120 (0,0)))(hr1:RowI w' base u1 M1)(ho1:u1.ownBlock=(rv i).ownBlock\/∃g,u1.ownBlock=some g/\w.heap.size<=g):
  ∃F',HpR w' base p gh gc hcap ccap s L r hs (upV rv i u1) (upV rx i M1) F'/\GrowH F F' w:=by
 have hj:0<4*L:=by have:=h.dims;omega
 have hpG:¬G gc:=λhk=>by
  rcases hG gc hk with e|e|e
  ·exact h.ne e.symm
  ·exact h.headN.2.2.2.2 i Zo e
  ·exact e h.cov.2.2.1
 have hrG:∀g,(rv (4+0)).ownBlock=some g->¬G g:=λg hg hk=>by
  rcases hG g hk with e|e|e
  ·exact h.headN.2.2.2.1 (4+0) Zo (by rw[hg,e])
  ·exact h.apart (4+0) i Zo Zo Zo g hg e
  ·exact e (h.cov.2.2.2 (4+0) Zo g hg)
 have:=h.turned (j:=0) (u2:=rv (4+0)) (M2:=rx (4+0)) hi hj hu (λk hk=>by
   rcases hG k hk with e|e|e
   ·exact .inl e
   ·exact .inr (.inr (.inl e))
   ·exact .inr (.inr (.inr (.inr e))))
  h1 (by rw[qhb (qnd hj)];exact(hu.block gc (h.lts gc h.cov.2.2.1) hpG).trans h.cach) hr1 ((h.rows (4+0) Zo).upd hu hrG) ho1 (.inl rfl)
  (λg hg e=>by
   rcases ho1 with e1|⟨g2,e1,hg2⟩
   ·exact h.apart (4+0) i Zo Zo Zo g e (by rw[<-e1];exact hg)
   ·rw[hg] at e1
    injection e1 with e1;have:=((h.rows (4+0) Zo).lt g e).2
    omega)
 have e1:upV (upV rv i u1) (4+0) (rv (4+0))=upV rv i u1:=by
  have:=qs4 (upV rv i u1) (4+0)
  rwa [qcj rv u1 (show 4+0≠i by omega)] at this
 have e2:upV (upV rx i M1) (4+0) (rx (4+0))=upV rx i M1:=by
  have:=qs4 (upV rx i M1) (4+0)
  rwa [qcj rx M1 (show 4+0≠i by omega)] at this
 rwa [e1,e2] at this
theorem q6r(h:HpR w base p gh gc hcap ccap s L r hs rv rx F){c:Nat}(hc:c<4){ad:Addr}{m cp:Nat}{news:List Int}(hm:news.length=m)(h0:0<m)(hnew:∀(j:Nat) (x:Int),news[j]? =some x->w.cell? (ad.add j)=some (Value.int .i64 x))(hlen:(rx c).length+m<=1000000):
  Calls Tryz.prog 67 #[.pointer (some ⟨p,0,none⟩),.int .i64 (c:Int),.slice (some ad) m cp] w λe w'=>e= .returned (.tuple #[])/\Upd F w w'/\∃rv' F',HpR w' base p gh gc hcap ccap s L r hs rv' (upV rx c (rx c++news)) F'/\GrowH F F' w:=by
 have hblk:w.drew.heap[p]? =some (.cells (hpC rv (s:Int) (L:Int) r (.slice (some ⟨gh,0,none⟩) s hcap) (.slice (some ⟨gc,0,none⟩) L ccap)) 120 (0,0)):=h.blk;have hrow:RowI w.drew base (rv c) (rx c):=h.rows c Zo;have hnp:(rv c).ownBlock≠some p:=h.headN.2.2.2.1 c Zo;have hplt:p<w.drew.heap.size:=h.lts p h.cov.1;have hbs:base<=w.drew.heap.size:=h.low.2.2;have k0:w.drew.cell? ⟨p,4+c,none⟩=some (rv c):=by rw[qaa hblk];exact qgd hc
 replace hlen:(rx c).length+m<=1099511627776:=Zo
 replace hnew:∀(j:Nat) (x:Int),news[j]? =some x->w.drew.cell? (ad.add j)=some (Value.int .i64 x):=hnew;have z5:(0:Int)<=(c:Int):=Zo
 have z6:(c:Int)<4:=Zo
 have hnp':=hnp;replace hblk:=waa hblk;replace h:=waa h;obtain⟨RA,RC,hrve,hRl,hRR⟩:=hrow.shape;have hblk:=hblk.out;go_enter Tryz.func67,Tryz.ntmps67;go_wp2_with fail;refine wp_region_held_drew (S:=(λU=>True)) Zk (trivial) (λhHeld=>?_);refine wpAnyH_take (i:=0) (v:=?_) rfl Zk Zk Zk (λ_ _ _ h=>h) (Or.inl ⟨by rfl,?_⟩) Za ?_;rotate_left;(·intro u h;(try dsimp only at h);(try simp only[wad,wae]);go_simp;try with_reducible rfl);try simp only[Act.put,wag,wah,wai,wad,wae]
 refine wpAnyH_take (i:=1) (v:=?_) rfl Zk Zk Zk (λ_ _ _ h=>h) (Or.inl ⟨by rfl,?_⟩) Za ?_;rotate_left;(·intro u h;(try dsimp only at h);(try simp only[wad,wae,waf]);go_simp;try with_reducible rfl);try simp only[Act.put,wag,wah,wai,wad,wae,waf]
 refine wpAnyH_take (i:=2) (v:=?_) rfl Zk Zk Zk (λ_ _ _ h=>h) (Or.inl ⟨by rfl,?_⟩) Za ?_;rotate_left;(·intro u h;(try dsimp only at h);(try simp only[wad,wae,waf]);go_simp;try with_reducible rfl);try simp only[Act.put,wag,wah,wai,wad,wae,waf]
 refine wpAnyH_take (i:=3) (v:=?_) rfl Zk Zk Zk (λ_ _ _ h=>h) (Or.inl ⟨by rfl,?_⟩) Za ?_;rotate_left;(·intro u h;(try dsimp only at h);(try simp only[wad,wae,waf]);go_simp;try with_reducible rfl);try simp only[Act.put,wag,wah,wai,wad,wae,waf]
 refine wpAnyH_take (i:=4) (v:=?_) rfl Zk Zk Zk (λ_ _ _ h=>h) (Or.inl ⟨by rfl,?_⟩) Za ?_;rotate_left;(·intro u h;(try dsimp only at h);(try simp only[wad,wae,waf]);go_simp;try with_reducible rfl);try simp only[Act.put,wag,wah,wai,wad,wae,waf]
 refine wpAnyH_take (i:=5) (v:=?_) rfl Zk Zk Zk (λ_ _ _ h=>h) (Or.inl ⟨by rfl,?_⟩) Za ?_;rotate_left;(·intro u h;(try dsimp only at h);(try simp only[wad,wae,waf]);go_simp;try with_reducible rfl);try simp only[Act.put,wag,wah,wai,wad,wae,waf]
 refine wpAnyH_take (i:=6) (v:=?_) rfl Zk Zk Zk (λ_ _ _ h=>h) (Or.inl ⟨by rfl,?_⟩) Za ?_;rotate_left;(·intro u h;(try dsimp only at h);(try simp only[wad,wae,waf]);go_simp;try with_reducible rfl);try simp only[Act.put,wag,wah,wai,wad,wae,waf]
 refine wpAnyH_take (i:=8) (v:=?_) rfl Zk Zk Zk (λ_ _ _ h=>h) (Or.inl ⟨by rfl,?_⟩) Za ?_;rotate_left;(·intro u h;(try dsimp only at h);(try simp only[wad,wae,waf]);go_simp;try with_reducible rfl);try simp only[Act.put,wag,wah,wai,wad,wae,waf]
 refine wpAnyH_take (i:=10) (v:=?_) rfl Zk Zk Zk (λ_ _ _ h=>h) (Or.inl ⟨by rfl,?_⟩) Za ?_;rotate_left;(·intro u h;(try dsimp only at h);(try simp only[wad,wae,waf]);go_simp;try with_reducible rfl);try simp only[Act.put,wag,wah,wai,wad,wae,waf]
 refine wpAnyH_take (i:=11) (v:=?_) rfl Zk Zk Zk (λ_ _ _ h=>h) (Or.inl ⟨by rfl,?_⟩) Za ?_;rotate_left;(·intro u h;(try dsimp only at h);(try simp only[wad,wae,waf]);go_simp;try with_reducible rfl);try simp only[Act.put,wag,wah,wai,wad,wae,waf]
 refine wpAnyH_ready (rs:=[7]) Zk Zs ?_;refine AllReadyH.cons rfl (λK hK=>?_) AllReadyH.nil
 (try simp only[wad,wae,waf])
 go_simp
 refine hK.out _ _ (trivial) (λhHeld2=>?_);clear hK K hHeld;have hHeld:=hHeld2;clear hHeld2;try simp only[Act.put,wag,wah,wai,wad,wae,waf]
 refine wpAnyH_ready (rs:=[9]) Zk Zs ?_;refine AllReadyH.cons rfl (λK hK=>?_) AllReadyH.nil;refine qed Zr _ _ Zr base (rv c) (rx c) (by first|rfl|exact hrve.symm|exact hrve) hrow ad m cp news Zr hm h0 hnew hlen hbs ?_;intro u2 w3 hr2 hgr2 hob2;obtain⟨TA,TC,rfl,hTl,hTR⟩:=hr2.shape;generalize (rx c++news).length=TN at hr2 hob2 hTl ⊢;have hA3:w3.heap[p]? =some (.cells (hpC rv (s:Int) (L:Int) r (.slice (some ⟨gh,0,none⟩) s hcap) (.slice (some ⟨gc,0,none⟩) L ccap)) 120 (0,0)):=(hgr2.block p hplt (λe=>hnp e.symm)).trans hblk;have hA3f:w3.frozen? ⟨p,4+c,none⟩=false:=qaj hA3 (4+c);have hA3c:w3.cell? ⟨p,4+c,none⟩=some (rv c):=by rw[qaa hA3];exact qgd hc
 refine hK.out _ _ (trivial) (λhHeld2=>?_);clear hK K hHeld;have hHeld:=hHeld2;clear hHeld2;try simp only[Act.put,wag,wah,wai,wad,wae,waf]
 refine wpAnyH_take (i:=12) (v:=?_) rfl Zk Zk Zk (λ_ _ _ h=>h) (Or.inl ⟨by rfl,?_⟩) Za ?_;rotate_left;(·intro u h;(try dsimp only at h);(try simp only[wad,wae,waf]);go_simp;try with_reducible rfl);try simp only[Act.put,wag,wah,wai,wad,wae,waf]
 refine wpAnyH_ready (rs:=[13]) Zk Zs ?_;refine AllReadyH.cons rfl (λK hK=>?_) AllReadyH.nil
 (try simp only[wad,wae,waf])
 go_simp
 refine hK.out _ _ (trivial) (λhHeld2=>?_);clear hK K hHeld;have hHeld:=hHeld2;clear hHeld2;try simp only[Act.put,wag,wah,wai,wad,wae,waf]
 refine wpAnyH_done Zk ?_ _;go_wp2_with fail;go_end0
 have hu:Upd (λk=>k=p\/(rv c).ownBlock=some k) w (w3.setCell ⟨p,4+c,none⟩ (.slice TA TN TC)):=
  (((Upd.of_below ((wac w.heap.size w).drew) (wab _):Upd (λ_=>False) w w.drew).mono (λ_ e=>e.elim)).grown hgr2 (λk e=> .inl (.inr e))).setCell (.inl (.inl rfl)) _
 have hnb:=qcm hA3 Zd hr2;have hr3:=hr2.upd ((Upd.refl (λk=>k=p) w3).setCell (p:=⟨p,4+c,none⟩) (.inl rfl) (.slice TA TN TC)) (λg hg e=>hnb (e▸hg));obtain⟨F',hF',hg⟩:=h.out.turnedL hc hu (λk hk=>by
  rcases hk with e|e
  ·exact .inl e
  ·exact .inr (.inl e)) (by rw[qah hA3]) hr3 hob2
 exact⟨rfl,hu.mono (λk hk=>by
  rcases hk with e|e
  ·exact e▸h.out.cov.1
  ·exact h.out.cov.2.2.2 c Zo k e),_,F',hF',hg⟩
end
def frI(B:List Int)(y i:Nat):List Int:=(List.range i).flatMap λ(k:Nat)=>if hasB y (k:Int)=true then[] else(B[k]?).toList
theorem q5u(B:List Int)(y:Nat){i:Nat}{x:Int}(h:B[i]? =some x):frI B y (i+1)=frI B y i++if hasB y (i:Int)=true then[] else[x]:=by
 unfold frI;rw[wcd,we2];simp only[wc7,List.flatMap_nil,wbl,h,we9]
theorem qoi(B:List Int)(y:Nat):∀i,(frI B y i).length<=i
 |0=>by simp[frI]
 |i+1=>by
  have ih:=qoi B y i;unfold frI at ih ⊢;rw[wcd,we2,was];have:([i].flatMap λ(k:Nat)=>if hasB y (k:Int)=true then[] else(B[k]?).toList).length<=1:=by
   simp only[wc7,List.flatMap_nil,wbl];split
   ·simp
   ·cases B[i]?<;>simp
  omega
theorem q45{α:Type}(f:Nat->α)(j:Nat)(a b:α):upV (upV f j a) j b=upV f j b:=by
 funext i
 unfold upV;split<;>rfl
theorem qr0(s L:Nat)(r:Int)(hs:List (Int×Int×Int))(n:Nat):(blkL s L r hs (n:Int)).length<=32:=by
 unfold blkL;split
 ·rw[qhf]
  have:=qw6 (hdOf hs (n:Int)).2.1
  omega
 ·simp
def newR(s L:Nat)(r:Int)(hs:List (Int×Int×Int))(ms:List Nat)(n j:Nat):List Int:=
 (List.range n).flatMap λ(k:Nat)=>if(hdOf hs (k:Int)).2.1.toNat=j then frI (blkL s L r hs (k:Int)) (ms.getD k 0) (blkL s L r hs (k:Int)).length else[]
def newI(s L:Nat)(r:Int)(hs:List (Int×Int×Int))(ms:List Nat)(n y i:Nat):Nat->List Int:=
 upV (newR s L r hs ms n) (hdOf hs (n:Int)).2.1.toNat (newR s L r hs ms n (hdOf hs (n:Int)).2.1.toNat++frI (blkL s L r hs (n:Int)) y i)
section
variable {s L:Nat} {r:Int} {hs:List (Int×Int×Int)} {ms:List Nat} {n y i:Nat}
theorem q5f:newR s L r hs ms 0=λ_=>[]:=rfl
theorem qox(j:Nat):newR s L r hs ms (n+1) j=newR s L r hs ms n j++if(hdOf hs (n:Int)).2.1.toNat=j then frI (blkL s L r hs (n:Int)) (ms.getD n 0) (blkL s L r hs (n:Int)).length else[]:=by
 unfold newR;rw[wcd,we2];simp
theorem qji(j:Nat):∀n,(newR s L r hs ms n j).length<=32*n
 |0=>by simp[newR]
 |n+1=>by
  rw[qox,was];have ih:=qji j n;have h1:=qoi (blkL s L r hs (n:Int)) (ms.getD n 0) (blkL s L r hs (n:Int)).length;have h2:=qr0 s L r hs n;split
  ·omega
  ·simp
   omega
theorem q07:newI s L r hs ms n y 0=newR s L r hs ms n:=by
 unfold newI;rw[show frI (blkL s L r hs (n:Int)) y 0=[] from rfl,wbl,qs4]
theorem q5e{x:Int}(h:(blkL s L r hs (n:Int))[i]? =some x):newI s L r hs ms n y (i+1)=if hasB y (i:Int)=true then newI s L r hs ms n y i else upV (newI s L r hs ms n y i) (hdOf hs (n:Int)).2.1.toNat (newI s L r hs ms n y i (hdOf hs (n:Int)).2.1.toNat++[x]):=by
 unfold newI;rw[q5u _ _ h];split
 ·rw[wbl]
 ·rw[qha,q45,wbm]
theorem q8d(hy:ms[n]? =some y):newI s L r hs ms n y (blkL s L r hs (n:Int)).length=newR s L r hs ms (n+1):=by
 have hd:ms.getD n 0=y:=by rw[wax,hy];rfl
 funext j
 rw[qox,hd];unfold newI upV;by_cases h:j=(hdOf hs (n:Int)).2.1.toNat
 ·rw[if_pos h,if_pos h.symm,h]
 ·rw[if_neg h,if_neg (λe=>h e.symm),wbl]
theorem q8e(j:Nat):(newI s L r hs ms n y i j).length<=32*n+i:=by
 unfold newI upV;split
 ·rw[was]
  have h1:=qji (s:=s) (L:=L) (r:=r) (hs:=hs) (ms:=ms) (hdOf hs (n:Int)).2.1.toNat n;have h2:=qoi (blkL s L r hs (n:Int)) y i;omega
 ·have h1:=qji (s:=s) (L:=L) (r:=r) (hs:=hs) (ms:=ms) j n
  omega
theorem qacp{V:World}{g:Nat}(hok:hs.any nhB=false)(hR:HdsRd V (some ⟨g,0,none⟩) s hs)(hn:n<s)(h0:0<(blkL s L r hs (n:Int)).length):
  ∃C:Nat,C<4/\(hdOf hs (n:Int)).2.1=(C:Int)/\V.cell? ⟨g,n*3+1,none⟩=some (.int .i64 (C:Int)):=by
 obtain⟨p,hp,hc⟩:=hR.2 Zo;injection hp with hp;subst hp;obtain⟨x,hx⟩:∃x,hs[n]? =some x:=⟨_,waj (by rw[hR.1];exact hn)⟩
 have hd:hdOf hs (n:Int)=x:=by
  unfold hdOf;rw[if_pos (by rw[hR.1];omega),wam,hx];rfl
 have hmay:qav x.1 x.2.1 x.2.2=true:=by
  have:=List.any_eq_false.1 hok x (waq hx)
  unfold nhB at this;simpa using this
 have h1:x.1=1:=by
  unfold blkL at h0;rw[hd] at h0;by_cases h:x.1=1
  ·exact h
  ·rw[if_neg h] at h0
   simp at h0
 have hcl:0<=x.2.1/\x.2.1<4:=by
  unfold qav at hmay;simp at hmay
  omega
 obtain⟨C,hC⟩:=waz hcl.1;refine⟨C,Zo,by rw[hd,hC],?_⟩;have h2:=(hc n x hx).2.1;rw[hC] at h2;rw[wb5] at h2;simpa using h2
end
def NwI(base p s L:Nat)(r:Int)(hs:List (Int×Int×Int))(rx:Nat->List Int)(V:World):Prop:=∃F:Nat->Prop,Hp V base p s L r hs rx F/\∀k,F k->base<=k
def NwJ(base p s L:Nat)(r:Int)(hs:List (Int×Int×Int))(rx:Nat->List Int)(A:Option Addr)(B:List Int)(V:World):Prop:=
 ∃F:Nat->Prop,Hp V base p s L r hs rx F/\(∀k,F k->base<=k)/\Rd V A B.length (i64V B)/\∀q,A=some q->0<B.length->¬F q.block/\q.block<V.heap.size
theorem q8b{s L:Nat}{r:Int}{g cap:Nat}{B:Option Addr}{mcap:Nat}{ms:List Nat}{hs:List (Int×Int×Int)}(w:World)(hm:mayB (s:Int) (L:Int) r=true)(hdim:(1<=s/\s<=16)/\1<=L/\L<=4)(hR:HdsRd w (some ⟨g,0,none⟩) s hs)(hM:Rd w B s (u64V ms))(hok:hs.any nhB=false)(hms:∀y∈ms,y<18446744073709551616):
  Calls Tryz.prog 36 #[.agg #[.int .i64 (s:Int),.int .i64 (L:Int),.int .i64 r],.slice (some ⟨g,0,none⟩) s cap,.slice B s mcap] w λe w'=>∃p F,e= .returned (.pointer (some ⟨p,0,none⟩))/\Hp w' w.heap.size p s L r hs (newR s L r hs ms s) F/\(∀k,F k->w.heap.size<=k)/\Below w.heap.size w w':=by
 have hfl:hs.length=s:=hR.1;have hB0:=(wac w.heap.size w).alloc (wab _) (.cells #[.int .i64 (s:Int),.int .i64 (L:Int),.int .i64 r] 23);have hri:=waa (qyk (some ⟨g,0,none⟩) cap _ hm hfl hdim.1.2 (by rw[hfl];exact hR.below hB0) hok);have hx:(w.alloc (.cells #[.int .i64 (s:Int),.int .i64 (L:Int),.int .i64 r] 23)).heap[w.heap.size]? =some (.cells #[.int .i64 (s:Int),.int .i64 (L:Int),.int .i64 r] 23 (0,0)):=heap_alloc_new w _;have hmk:=λV=>qrl hdim.2 V
 replace hB0:=waa hB0;replace hx:=waa hx;replace hR:=waa hR;replace hM:=waa hM;replace hms:=waa hms;go_enter Tryz.func36,Tryz.ntmps36;go_wp2_with fail;refine hri.out.mono ?_;rintro e w1 ⟨rfl,hB1⟩;have hx1:w1.heap[w.heap.size]? =some (.cells #[.int .i64 (s:Int),.int .i64 (L:Int),.int .i64 r] 23 (0,0)):=(hB1.block _ Zs).trans hx.out;have k0:w1.cell? ⟨w.heap.size,0,none⟩=some (.int .i64 (s:Int)):=by rw[qaa hx1];rfl
 have k1:w1.cell? ⟨w.heap.size,1,none⟩=some (.int .i64 (L:Int)):=by rw[qaa hx1];rfl
 have k2:w1.cell? ⟨w.heap.size,2,none⟩=some (.int .i64 r):=by rw[qaa hx1];rfl
 have hB1:=waa (hB0.out.trans (hB1.mono hB0.out.size));have hcl:=waa (λ(W:World) (hW:Below w1.heap.size w1 W)=>qmq (cap:=cap) W (hR.out.below (hB1.out.trans (hW.mono hB1.out.size))) Zo hdim.1.2);clear hri hx hx1 hB0;go_upto_region 3 with fail
 go_cut [7] from 23 to 30 (λs7 wx=>∃p:Nat,s7= .pointer (some ⟨p,0,none⟩)/\Hid (∃F:Nat->Prop,Hp wx w.heap.size p s L r hs (λ_=>[]) F/\∀k,F k->w.heap.size<=k)/\Hid (Below w.heap.size w wx))
 case first=>
  refine wp_region_held_drew (S:=(λU=>U.cell? ⟨w.heap.size,0,none⟩=some (.int .i64 (s:Int))/\U.cell? ⟨w.heap.size,1,none⟩=some (.int .i64 (L:Int))/\U.cell? ⟨w.heap.size,2,none⟩=some (.int .i64 r))) Zk (⟨k0,k1,k2⟩) (λhHeld=>?_);refine wpAnyH_take (i:=0) (v:=?_) rfl Zk Zk Zk (λ_ _ _ h=>h) (Or.inl ⟨by rfl,?_⟩) Za ?_;rotate_left;(·intro u h;(try dsimp only at h);(try simp only[wad,wae]);go_simp;try with_reducible rfl);try simp only[Act.put,wag,wah,wai,wad,wae]
  refine wpAnyH_take (i:=1) (v:=?_) rfl Zk Zk Zk (λ_ _ _ h=>h) (Or.inl ⟨by rfl,?_⟩) Za ?_;rotate_left;(·intro u h;(try dsimp only at h);(try simp only[wad,wae,waf]);go_simp;try with_reducible rfl);try simp only[Act.put,wag,wah,wai,wad,wae,waf]
  refine wpAnyH_take (i:=3) (v:=?_) rfl Zk Zk Zk (λ_ _ _ h=>h) (Or.inl ⟨by rfl,?_⟩) Za ?_;rotate_left;(·intro u h;(try dsimp only at h);(try simp only[wad,wae,waf]);go_simp;try with_reducible rfl);try simp only[Act.put,wag,wah,wai,wad,wae,waf]
  refine wpAnyH_take (i:=4) (v:=?_) rfl Zk Zk Zk (λ_ _ _ h=>h) (Or.inl ⟨by rfl,?_⟩) Za ?_;rotate_left;(·intro u h;(try dsimp only at h);(try simp only[wad,wae,waf]);go_simp;try with_reducible rfl);try simp only[Act.put,wag,wah,wai,wad,wae,waf]
  refine wpAnyH_ready (rs:=[2,5]) Zk Zs ?_;refine AllReadyH.cons rfl (λK hK=>?_) (AllReadyH.cons rfl (λK hK=>?_) AllReadyH.nil);rotate_left
  (try simp only[wad,wae,waf])
  go_simp
  have hBm:Below w1.heap.size w1 (w1.drew.alloc (.cells (caC (λ_=> .slice none 0 0) L) 117)):=(wac w1.heap.size w1).drew.alloc (wab _) _;have b0:=qac hBm k0;have b1:=qac hBm k1;have b2:=qac hBm k2;refine hK.out _ _ (⟨b0,b1,b2⟩) (λhHeld2=>?_);clear hK K hHeld;have hHeld:=hHeld2;clear hHeld2;try simp only[Act.put,wag,wah,wai,wad,wae,waf]
  refine wpAnyH_ready (rs:=[2]) Zk Zs ?_;refine AllReadyH.cons rfl (λK hK=>?_) AllReadyH.nil
  (try simp only[wad,wae,waf])
  go_simp
  refine(hcl.out _ (hBm)).mono ?_;rintro e w3 ⟨g',cap',rfl,hown,hB3⟩;have hBa:=(hBm).trans (hB3.mono (hBm).size);have a0:=qac hBa k0;have a1:=qac hBa k1;have a2:=qac hBa k2;go_wp2_with fail;refine hK.out _ _ (⟨a0,a1,a2⟩) (λhHeld2=>?_);clear hK K hHeld;have hHeld:=hHeld2;clear hHeld2;try simp only[Act.put,wag,wah,wai,wad,wae,waf]
  refine wpAnyH_take (i:=6) (v:=?_) rfl Zk Zk Zk (λ_ _ _ h=>h) (Or.inl ⟨by rfl,?_⟩) Za ?_;rotate_left;(·intro u h;(try dsimp only at h);(try simp only[wad,wae,waf]);go_simp;try with_reducible rfl);try simp only[Act.put,wag,wah,wai,wad,wae,waf]
  refine wpAnyH_ready (rs:=[7]) Zk Zs ?_;refine AllReadyH.cons rfl (λK hK=>?_) AllReadyH.nil
  (try simp only[wad,wae,waf])
  go_simp
  have hgc:w3.heap[w1.heap.size]? =some (.cells (caC (λ_=> .slice none 0 0) L) 117 (0,0)):=(hB3.block _ Zs).trans (heap_alloc_new w1.drew _);have hBx:Below w3.heap.size w3 (w3.alloc (.cells (hpC (λ_=> .slice none 0 0) (s:Int) (L:Int) r (.slice (some ⟨g',0,none⟩) s cap') (.slice (some ⟨w1.heap.size,0,none⟩) L L)) 120)):=(wac w3.heap.size w3).alloc (wab _) _;refine hK.out _ _ (⟨qac hBx a0,qac hBx a1,qac hBx a2⟩) (λhHeld2=>?_);clear hK K hHeld;have hHeld:=hHeld2;clear hHeld2;try simp only[Act.put,wag,wah,wai,wad,wae,waf]
  refine wpAnyH_take (i:=8) (v:=?_) rfl Zk Zk Zk (λ_ _ _ h=>h) (Or.inl ⟨by rfl,?_⟩) Za ?_;rotate_left;(·intro u h;(try dsimp only at h);(try simp only[wad,wae,waf]);go_simp;try with_reducible rfl);try simp only[Act.put,wag,wah,wai,wad,wae,waf]
  refine wpAnyH_done Zk ?_ _;go_wp2_with fail;go_meet
  exact⟨_,rfl,waa (Hp.made (heap_alloc_new _ _) (qaf (qax hown (wap hB1.out.size hBm.size)) hBx) ((hBx.block _ (wal.1 hgc).1).trans hgc) (by have:=hB1.out.size;have:=hBa.size;omega) hB1.out.size hdim),waa ((hB1.out.trans (hBa.mono hB1.out.size)).trans (hBx.mono (wap hB1.out.size hBa.size)))⟩
  have hBd:=waa ((wac w1.heap.size w1).drew)
  (try simp only[wad,wae,waf])
  go_simp
  refine(hcl.out _ (hBd.out)).mono ?_;rintro e w3 ⟨g',cap',rfl,hown,hB3⟩;have hBa:=(hBd.out).trans (hB3.mono (hBd.out).size);have a0:=qac hBa k0;have a1:=qac hBa k1;have a2:=qac hBa k2;go_wp2_with fail;refine hK.out _ _ (⟨a0,a1,a2⟩) (λhHeld2=>?_);clear hK K hHeld;have hHeld:=hHeld2;clear hHeld2;try simp only[Act.put,wag,wah,wai,wad,wae,waf]
  refine wpAnyH_ready (rs:=[5]) Zk Zs ?_;refine AllReadyH.cons rfl (λK hK=>?_) AllReadyH.nil
  (try simp only[wad,wae,waf])
  go_simp
  have hBm:Below w3.heap.size w3 (w3.alloc (.cells (caC (λ_=> .slice none 0 0) L) 117)):=(wac w3.heap.size w3).alloc (wab _) _;have b0:=qac hBm a0;have b1:=qac hBm a1;have b2:=qac hBm a2;refine hK.out _ _ (⟨b0,b1,b2⟩) (λhHeld2=>?_);clear hK K hHeld;have hHeld:=hHeld2;clear hHeld2;try simp only[Act.put,wag,wah,wai,wad,wae,waf]
  refine wpAnyH_take (i:=6) (v:=?_) rfl Zk Zk Zk (λ_ _ _ h=>h) (Or.inl ⟨by rfl,?_⟩) Za ?_;rotate_left;(·intro u h;(try dsimp only at h);(try simp only[wad,wae,waf]);go_simp;try with_reducible rfl);try simp only[Act.put,wag,wah,wai,wad,wae,waf]
  refine wpAnyH_ready (rs:=[7]) Zk Zs ?_;refine AllReadyH.cons rfl (λK hK=>?_) AllReadyH.nil
  (try simp only[wad,wae,waf])
  go_simp
  have hBx:Below (w3.alloc (.cells (caC (λ_=> .slice none 0 0) L) 117)).heap.size (w3.alloc (.cells (caC (λ_=> .slice none 0 0) L) 117)) ((w3.alloc (.cells (caC (λ_=> .slice none 0 0) L) 117)).alloc (.cells (hpC (λ_=> .slice none 0 0) (s:Int) (L:Int) r (.slice (some ⟨g',0,none⟩) s cap') (.slice (some ⟨w3.heap.size,0,none⟩) L L)) 120)):=(wac _ _).alloc (wab _) _;refine hK.out _ _ (⟨qac hBx b0,qac hBx b1,qac hBx b2⟩) (λhHeld2=>?_);clear hK K hHeld;have hHeld:=hHeld2;clear hHeld2;try simp only[Act.put,wag,wah,wai,wad,wae,waf]
  refine wpAnyH_take (i:=8) (v:=?_) rfl Zk Zk Zk (λ_ _ _ h=>h) (Or.inl ⟨by rfl,?_⟩) Za ?_;rotate_left;(·intro u h;(try dsimp only at h);(try simp only[wad,wae,waf]);go_simp;try with_reducible rfl);try simp only[Act.put,wag,wah,wai,wad,wae,waf]
  refine wpAnyH_done Zk ?_ _;go_wp2_with fail;go_meet
  exact⟨_,rfl,waa (Hp.made (qan Zs _ _) ((qaf (qaf (qax hown (wap hB1.out.size hBd.out.size)) hBm) hBx)) ((hBx.block _ Zs).trans (heap_alloc_new w3 _)) (by have h1:=hB1.out.size;have h2:=hBa.size;show w.heap.size<=w3.heap.size+1;omega) (by have h1:=hB1.out.size;have h2:=hBa.size;show w.heap.size<=w3.heap.size;exact wap h1 h2) hdim),waa ((hB1.out.trans (hBa.mono hB1.out.size)).trans ((hBm.trans (hBx.mono hBm.size)).mono (wap hB1.out.size hBa.size)))⟩
 case rest=>
  obtain⟨p,rfl,hH,hB⟩:=hcut;replace hH:=waa (show NwI w.heap.size p s L r hs (newR s L r hs ms 0) _ from by
   rw[q5f];exact hH.out)
  have hml:=waa hM.out.1;clear k0 k1 k2 hcl hmk hfl hB1;go_wp2_with fail;go_loopg [33] s (λk s33 wr=>∃n:Nat,s33= .int .i64 (n:Int)/\s - n<=k/\n<=s/\Hid (NwI w.heap.size p s L r hs (newR s L r hs ms n) wr)/\Hid (Below w.heap.size w wr))
  case atStart=>exact⟨0,rfl,Zo,Zo,hH,hB⟩
  case round=>
   clear hH hB;obtain⟨n,rfl,hkn,hns,hH,hB⟩:=hrel;by_cases hlt:n<s
   ·obtain⟨x,hx⟩:∃x,(u64V ms)[n]? =some x:=⟨_,waj (by rw[hml.out];exact hlt)⟩
    obtain⟨q,rfl,hcx⟩:=(hM.out.below hB.out).2 Zo;have hx2:=hx;simp only[u64V,wa1,wcz] at hx2;obtain⟨y,hy,rfl⟩:=hx2;have c0:=hcx n _ hx;obtain⟨F,hHp,hFb⟩:=hH.out;have hHp':=hHp;obtain⟨gh,gc,hcap,ccap,rv,hr⟩:=hHp';have hbl:=waa (qvh hr (n:Int));have z1:(n:Int)<(s:Int):=Zo
    have z2:(0:Int)<=(n:Int):=Zo
    have hylt:=hms.out y (waq hy);replace hy:=waa hy;clear hx hcx hr hFb hHp;go_wp2_with fail;refine hbl.out.mono ?_;rintro e w2 ⟨v,rfl,hrow,hB2⟩;obtain⟨A,c,rfl,hAl,hAR⟩:=hrow.shape;have hJ0:Hid (NwJ w.heap.size p s L r hs (newI s L r hs ms n y 0) A (blkL s L r hs (n:Int)) w2):=waa (by
     obtain⟨F,hHp,hFb⟩:=hH.out;refine⟨F,?_,hFb,hAR,λq hq hn0=>?_⟩
     ·rw[q07]
      exact hHp.new hB2
     ·subst hq
      have h1:=hrow.lt q.block rfl;exact⟨λe=>by have:=hHp.lts _ e;omega,h1.2⟩)
    have hB3:=waa (hB.out.trans (hB2.mono hB.out.size));have hM32:(blkL s L r hs (n:Int)).length<=32:=qr0 s L r hs n;have hhd:=waa (λ(V:World) (hV:Below w.heap.size w V) (h0:0<(blkL s L r hs (n:Int)).length)=>qacp hok (hR.out.below hV) hlt h0);have hend:=waa (q8d (s:=s) (L:=L) (r:=r) (hs:=hs) hy.out);clear hrow hB2 hbl c0 hAR hB hH hAl;generalize hbq:blkL s L r hs (n:Int)=Bq at hJ0 hM32 hhd hend;replace hbq:=waa hbq;generalize hbm:Bq.length=M at hM32 hhd hend ⊢;replace hbm:=waa hbm;go_wp2_with fail;go_loopg [42] M (λk s42 wr=>∃i:Nat,s42= .int .i64 (i:Int)/\M - i<=k/\i<=M/\Hid (NwJ w.heap.size p s L r hs (newI s L r hs ms n y i) A Bq wr)/\Hid (Below w.heap.size w wr))
    case atStart=>exact⟨0,rfl,Zo,Zo,hJ0,hB3⟩
    case round=>
     clear hJ0 hB3;obtain⟨i,rfl,hki,his,hJ,hBr⟩:=hrel;by_cases hil:i<M
     ·have z3:(i:Int)<(M:Int):=Zo
      have z4:(0:Int)<=(i:Int):=Zo
      obtain⟨F,hHp,hFb,hAR,hAn⟩:=hJ.out;obtain⟨at',hat⟩:∃x,Bq[i]? =some x:=⟨_,waj (by rw[hbm.out];exact hil)⟩
      obtain⟨qa,rfl,hca⟩:=hAR.2 (by rw[hbm.out];omega);have ca:_=_:=hca i _ (by unfold i64V;rw[wa1,hat];rfl);have hha:=waa (λV=>qw9 y (i:Int) V hylt Zo Zo);have hst:=q5e (s:=s) (L:=L) (r:=r) (hs:=hs) (ms:=ms) (n:=n) (y:=y) (i:=i) (by rw[hbq.out];exact hat);obtain⟨C,hC4,hC,cC⟩:=hhd.out wr hBr.out Zo;replace hst:=waa hst;clear hca hat
      go_wp2_with fail;refine(hha.out _).mono ?_;rintro e w4 ⟨rfl,rfl⟩;cases hb:hasB y (i:Int) with
      |true=>
       have hst:=hst.out;rw[hb,if_pos rfl] at hst;have hJ2:Hid (NwJ w.heap.size p s L r hs (newI s L r hs ms n y (i+1)) (some qa) Bq wr):=waa (by rw[hst];exact hJ.out);clear hHp hFb hAR hAn hst hha hJ cC ca;go_wp2_with fail;go_roundg (M - (i+1))
       case measure=>omega
       case rel=>exact⟨i+1,by go_num,wab _,Zo,hJ2,hBr⟩
      |false=>
       have hst:=hst.out;rw[hb,if_neg Zd] at hst;have hCn:(hdOf hs (n:Int)).2.1.toNat=C:=by rw[hC];exact wam C
       rw[hCn] at hst;obtain⟨gh,gc,hcap,ccap,rv,hr⟩:=hHp;have huA:Upd (λ_=>False) wr (wr.alloc (.cells #[.int .i64 at'] 3)):=(Upd.refl _ wr).alloc _;have hcm:=waa (q6r (hr.upd huA (λ_ _ e=>e)) hC4 (ad:=⟨wr.heap.size,0,none⟩) (m:=1) (cp:=1) (news:=[at']) rfl Zo (λj x hx=>by
        match j,hx with
        |0,hx=>
         injection hx with hx;subst hx;exact qaa (heap_alloc_new wr _) 0) (by
        have:=q8e (s:=s) (L:=L) (r:=r) (hs:=hs) (ms:=ms) (n:=n) (y:=y) (i:=i) C
        omega))
       have hK:=waa (And.intro hFb (And.intro hAR (And.intro hAn (And.intro huA hst))));clear hFb hAR hAn huA hst hha hJ ca hr hC hCn;go_wp2_with fail;refine hcm.out.mono ?_;rintro e V ⟨rfl,hu,rv',F2,hr2,hg2⟩;obtain⟨hFb,hAR,hAn,huA,hst⟩:=hK.out;have hbw:w.heap.size<=wr.heap.size:=hBr.out.size;have hszA:wr.heap.size<=(wr.alloc (.cells #[.int .i64 at'] 3)).heap.size:=huA.size;have hJ2:Hid (NwJ w.heap.size p s L r hs (newI s L r hs ms n y (i+1)) (some qa) Bq V):=waa ⟨F2,⟨gh,gc,hcap,ccap,rv',by rw[hst];exact hr2⟩,λk hk=>by
        rcases hg2 k hk with e|e
        ·exact hFb k e
        ·omega,⟨hAR.1,λh0=>by
        obtain⟨q0,hq0,hc0⟩:=hAR.2 h0;injection hq0 with hq0;subst hq0;refine⟨qa,rfl,λk u hk=>?_⟩;have hpb:(qa.add k).block=qa.block:=by cases k<;>rfl
        have h9:=hAn qa rfl h0;rw[hu.cell (by rw[hpb];omega) (by rw[hpb];exact h9.1),huA.cell (by rw[hpb];exact h9.2) (λe=>e)];exact hc0 k u hk⟩,λq hq h0=>by
        injection hq with hq;subst hq;have h9:=hAn qa rfl h0;refine⟨λe=>?_,by have:=hu.size;omega⟩;rcases hg2 _ e with e|e
        ·exact h9.1 e
        ·omega⟩
       have hB2:Hid (Below w.heap.size w V):=waa (hBr.out.trans ((huA.below (λk e=>e.elim) hbw).trans (hu.below hFb (wap hbw hszA))));clear hK hr2 hg2 hu hFb hAR hAn huA hst hcm hBr hbw hszA;go_wp2_with fail;go_roundg (M - (i+1))
       case measure=>omega
       case rel=>exact⟨i+1,by go_num,wab _,Zo,hJ2,hB2⟩
     ·obtain rfl:i=M:=Zo
      have hH3:Hid (NwI w.heap.size p s L r hs (newR s L r hs ms (n+1)) wr):=waa (by
       obtain⟨F,hHp,hFb,-,-⟩:=hJ.out;exact⟨F,by rw[<-hend.out];exact hHp,hFb⟩)
      clear hJ hend hhd;go_wp2_with fail;go_roundg (s - (n+1))
      case measure=>omega
      case rel=>exact⟨n+1,by go_num,wab _,Zo,hH3,hBr⟩
   ·obtain rfl:n=s:=Zo
    obtain⟨F,hHp,hFb⟩:=hH.out;have hfin:=waa (And.intro hHp (And.intro hFb hB.out));clear hH hB hHp hFb;go_wp2_with fail;go_ret;exact⟨p,F,rfl,hfin.out.1,hfin.out.2.1,hfin.out.2.2⟩
end Go.Proofs.YtocncmbeinmiaaaGreat
