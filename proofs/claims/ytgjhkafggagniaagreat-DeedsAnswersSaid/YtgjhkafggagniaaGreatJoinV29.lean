/- Parts. No condition. -/
import Derived.Test.YtgjhkafggagniaaGreatJoinV28
set_option linter.unusedVariables false
set_option maxRecDepth 100000
set_option maxHeartbeats 8000000
namespace Go.Proofs.YtgjhkafggagniaaGreat
open Go Go.RowKit
section
variable {w:World} {base p s L:Nat} {r:Int} {hs:List (Int×Int×Int)} {rx:Nat->List Int} {F:Nat->Prop}
def takS(L:Nat)(rx:Nat->List Int)(t c:Int):Nat->List Int:=if thP L t c then upV rx (caI t c) ((rx (caI t c)).take ((rx (caI t c)).length - 1)) else rx
def takO(L:Nat)(rx:Nat->List Int)(t c:Int):Option Int:=if thP L t c then(rx (caI t c)).getLast? else none
def takV:Option Int->Value
 |none=> .tuple #[.int .i64 0,.bool false]
 |some x=> .tuple #[.int .i64 x,.bool true]
theorem qvq{X:List Int}{x:Int}(h:X.getLast? =some x):qb0 X (min 1 X.length)=[x]:=by
 have hne:X≠[]:=λe=>by rw[e] at h;cases h
 have hl:0<X.length:=List.length_pos_iff.2 hne;rw[show min 1 X.length=1 by omega];unfold qb0;rw[List.take_one,List.head?_reverse,h];rfl
theorem qwm(h:Hp w base p s L r hs rx F)(t c:Int)(hx:∀j,(rx j).length<=300000):
  Calls Tryz.prog 342 #[.pointer (some ⟨p,0,none⟩),.int .i64 t,.int .i64 c] w λe w'=>e= .returned (takV (takO L rx t c))/\Upd F w w'/\∃F',GrowH F F' w/\Hp w' base p s L r hs (takS L rx t c) F':=by
 obtain⟨gh,gc,hcap,ccap,rv,h⟩:=h;have hd:=h.dims;have hlt:=h.lts;unfold takS takO caI;by_cases ht:thP L t c
 ·rw[if_pos ht,if_pos ht]
  unfold thP at ht;obtain⟨T,rfl⟩:=waq ht.1;obtain⟨C,rfl⟩:=waq ht.2.2.1;simp only[wao];have hT:T<L:=Zo
  have hC:C<4:=Zo
  have hpl:=waa (qeq h hT hC);have hj:=qfy hT hC;generalize T*4+C=J at hpl hj ⊢;replace h:=waa h;replace hlt:=waa hlt;go_enter Tryz.func342,Tryz.ntmps342;go_wp2_with fail;refine hpl.out.mono ?_;rintro e w1 ⟨rfl,hB⟩;have hb2:Boxed (w1.alloc (.cells #[.slice none 0 0] 24)) w1.heap.size 24 (.slice none 0 0):=qad rfl _ _;have hBa:Below w.heap.size w (w1.alloc (.cells #[.slice none 0 0] 24)):=hB.alloc hB.size _;have h1:=h.out.new hBa;have hgt:gc≠w1.heap.size:=λe=>by
   have:=hlt.out gc h.out.cov.2.2.1
   have:=hB.size
   omega
  have hls:=waa (qe6 (most:=1) (h1.cache hj) (qgy hb2) hgt (λg _ e=>by cases e) Zo (by have:=hx (4+J);omega) Zs h1.low.2.2);have hB':=waa hBa;have hs1:=hB.size;clear hB hpl hb2 hBa;go_wp2_with fail;refine hls.out.mono ?_;rintro e w2 ⟨rfl,u1,u2,a1,a2,a3,a4,a5,a6⟩;obtain⟨F',hF',hg⟩:=h1.turnedC hj a6 (λk hk=>by
   rcases hk with e|e|e
   ·exact .inl e
   ·exact .inr (.inr (λhF=>by have:=hlt.out k hF;omega))
   ·cases e) a1.blk a1.row a3
  have hU:Upd F w w2:=((Upd.of_below hB'.out (wah _):Upd (λ_=>False) w _).mono (λ_ e=>e.elim)).after a6 (λk hk=>by
   rcases hk with e|e|e
   ·exact .inl (e▸h.out.cov.2.2.1)
   ·exact .inr Zo
   ·cases e)
  have hfin:=waa (And.intro hU (And.intro hF' hg));have hsz:=hB'.out.size;have hrow:=a2.row;have hu2:=a2.cell;clear hU hF' hg a1 a3 a4 a5 a6 hls;cases hlast:(rx (4+J)).getLast? with
  |none=>
   have hnil:rx (4+J)=[]:=by simpa using hlast
   have h0:min 1 (rx (4+J)).length=0:=by rw[hnil];rfl
   rw[h0];clear hrow hu2;replace h0:=waa h0;replace hlast:=waa hlast;go_wp2_with fail;go_ret2;refine⟨by rw[hlast.out];rfl,hfin.out.1,F',λk hk=>(hfin.out.2.2 k hk).imp id (λe=>wam hsz e),?_⟩;have hz:=hfin.out.2.1;rw[h0.out] at hz;rw[hnil] at hz ⊢;exact⟨gh,gc,hcap,ccap,_,hz⟩
  |some x=>
   have hl1:=qvq hlast;have hne:rx (4+J)≠[]:=λe=>by rw[e] at hlast;cases hlast
   have h0:min 1 (rx (4+J)).length=1:=by have:=List.length_pos_iff.2 hne;omega
   rw[hl1,wa7] at hrow;obtain⟨X,y,rfl,-,hR⟩:=hrow.shape;obtain⟨q,rfl,hcx⟩:=hR.2 Zs;have hq:w2.cell? (q.add 0)=some (.int .i64 x):=hcx 0 _ rfl;have hq0:w2.cell? q=some (.int .i64 x):=by
    have e:q.add 0=q:=by simp[Addr.add]
    rwa [e] at hq
   rw[h0];clear hrow hcx hR;simp only[wc0] at hu2;replace h0:=waa h0;replace hlast:=waa hlast;go_wp2_with fail;go_ret2;refine⟨by rw[hlast.out];rfl,hfin.out.1,F',λk hk=>(hfin.out.2.2 k hk).imp id (λe=>wam hsz e),?_⟩;have hz:=hfin.out.2.1;rw[h0.out] at hz;exact⟨gh,gc,hcap,ccap,_,hz⟩
 ·rw[if_neg ht,if_neg ht]
  have hpl:=waa (qfb h ht);replace h:=waa h;replace hlt:=waa hlt;go_enter Tryz.func342,Tryz.ntmps342;go_wp2_with fail;refine hpl.out.mono ?_;rintro e w1 ⟨b1,b2,rfl,⟨hn1,hn2,hne⟩,hb1,hb2,hB⟩;have hb3:Boxed (w1.alloc (.cells #[.slice none 0 0] 24)) w1.heap.size 24 (.slice none 0 0):=qad rfl _ _;have hb2a:Boxed (w1.alloc (.cells #[.slice none 0 0] 24)) b2 24 (.slice none 0 0):=qag hb2 _;have hBa:Below w.heap.size w (w1.alloc (.cells #[.slice none 0 0] 24)):=hB.alloc hB.size _;have hls:=waa (qe6 (most:=1) (base:=0) (qgy hb2a) (qgy hb3) (Nat.ne_of_lt hb2.lt) (λg e=>by cases e) Zo Zs Zs (wat _));have hB':=waa hBa;have hs1:=hB.size;clear hB hpl hb1 hb2 hb3 hb2a hBa;go_wp2_with fail;refine hls.out.mono ?_;rintro e w2 ⟨rfl,u1,u2,-,-,-,-,-,a6⟩;have hU1:Upd (λ_=>False) w w2:=(Upd.of_below hB'.out (wah _):Upd (λ_=>False) w _).after a6 (λk hk=>by
   rcases hk with e|e|e
   ·exact .inr Zo
   ·exact .inr Zo
   ·cases e)
  have hfin:=waa hU1;clear a6 hU1 hls;go_wp2_with fail;go_ret2;exact⟨rfl,hfin.out.mono (λ_ e=>e.elim),F,GrowH.refl _ _,⟨gh,gc,hcap,ccap,_,h.out.upd hfin.out (λ_ _ e=>e)⟩⟩
def givS(L:Nat)(rx:Nat->List Int)(t c x:Int):Nat->List Int:=if thP L t c then upV rx (caI t c) (rx (caI t c)++[x]) else rx
theorem qyh(h:Hp w base p s L r hs rx F)(t c x:Int)(hx:∀j,(rx j).length<=300000):
  Calls Tryz.prog 306 #[.pointer (some ⟨p,0,none⟩),.int .i64 t,.int .i64 c,.int .i64 x] w λe w'=>e= .returned (.tuple #[])/\Upd F w w'/\∃F',GrowH F F' w/\Hp w' base p s L r hs (givS L rx t c x) F':=by
 obtain⟨gh,gc,hcap,ccap,rv,h⟩:=h;have hd:=h.dims;have hlt:=h.lts;unfold givS caI;by_cases ht:thP L t c
 ·rw[if_pos ht]
  unfold thP at ht;obtain⟨T,rfl⟩:=waq ht.1;obtain⟨C,rfl⟩:=waq ht.2.2.1;simp only[wao];have hT:T<L:=Zo
  have hC:C<4:=Zo
  have hpl:=waa (qeq h hT hC);have hj:=qfy hT hC;generalize T*4+C=J at hpl hj ⊢;replace h:=waa h;replace hlt:=waa hlt;go_enter Tryz.func306,Tryz.ntmps306;go_wp2_with fail;refine hpl.out.mono ?_;rintro e w1 ⟨rfl,hB⟩;have h1:=h.out.new hB;have hB1:=(wai w1.heap.size w1).alloc (wah _) (.cells #[.int .i64 x] 3);have h2:=h1.new hB1;have hA:=h1.cache hj;have hA2:=h2.cache hj;have c0:=hA.cell;obtain⟨X,y,hv,hy,-⟩:=hA.row.shape;rw[hv] at c0;have hcs:=hA2.froz;have hBn:=waa (hB.trans (hB1.mono hB.size));replace h2:=waa h2;replace hA2:=waa hA2;have hlx:=hx (4+J);have hbs:=waa h2.out.low.2.2;have hrow:=hA2.out.row;rw[hv] at hrow;clear hB hB1 hpl h1 hA;have hnw:∀(j:Nat) (z:Int),[x][j]? =some z->(w1.alloc (.cells #[.int .i64 x] 3)).cell? ((⟨w1.heap.size,0,none⟩:Addr).add j)=some (Value.int .i64 z):=λj z hz=>by
   cases j with
   |zero=>
    obtain rfl:x=z:=by simpa using hz
    exact qd6 (heap_alloc_new w1 _) rfl
   |succ j=>simp at hz
  replace hnw:=waa hnw;go_wp2_with (at_builtin;go_loud ((refine qed rfl _ _ rfl base _ (rx (4+J)) rfl hrow ⟨w1.heap.size,0,none⟩ 1 1 [x] rfl rfl Zo hnw.out Zo hbs.out ?_);intro v' w2 hr2 hg2 ho2;have hgb:=(hg2.block gc (h2.out.lts gc h2.out.cov.2.2.1) (λe=>h2.out.headN.2.2.2.2 (4+J) Zo (by rw[hv];exact e.symm))).trans h2.out.cach;have k1:w2.cell? ⟨gc,J,none⟩=some (.slice X (rx (4+J)).length y):=(by rw[qab hgb,qgi hj,hv]);have k2:w2.frozen? ⟨gc,J,none⟩=false:=qah hgb J;obtain⟨Y,z,rfl,-,-⟩:=hr2.shape;generalize hYl:(rx (4+J)++[x]).length=yl at hr2 ho2 ⊢))
  go_end0
  have hU1:Upd (λk=>k=gc\/(rv (4+J)).ownBlock=some k) (w1.alloc (.cells #[.int .i64 x] 3)) (w2.setCell ⟨gc,J,none⟩ (.slice Y yl z)):=
   ((Upd.refl _ _).grown hg2 (λk e=> .inl (.inr (by rw[hv];exact e)))).setCell (.inl (.inl rfl)) _
  have hnb:=qbm hgb Zd hr2;have hr3:=hr2.upd ((Upd.refl (λk=>k=gc) w2).setCell (p:=⟨gc,J,none⟩) (.inl rfl) (.slice Y yl z)) (λg hg e=>hnb (e▸hg));obtain⟨F',hF',hg⟩:=h2.out.turnedC hj hU1 (λk hk=>by
   rcases hk with e|e
   ·exact .inl e
   ·exact .inr (.inl e)) (by rw[qaj hgb]) hr3 (by rw[hv];exact ho2)
  have hsz:=hBn.out.size;refine⟨rfl,((Upd.of_below hBn.out (wah _):Upd (λ_=>False) w _).mono (λ_ e=>e.elim)).after hU1 (λk hk=> .inl (by
   rcases hk with e|e
   ·exact e▸h.out.cov.2.2.1
   ·exact h.out.cov.2.2.2 (4+J) Zo k e)),F',λk hk=>(hg k hk).imp id (λe=>wam hsz e),⟨gh,gc,hcap,ccap,_,hF'⟩⟩
 ·rw[if_neg ht]
  have hpl:=waa (qfb h ht);replace h:=waa h;go_enter Tryz.func306,Tryz.ntmps306;go_wp2_with fail;refine hpl.out.mono ?_;rintro e w1 ⟨b1,b2,rfl,⟨hn1,hn2,hne⟩,hb1,hb2,hB⟩;have hB1:=(wai w1.heap.size w1).alloc (wah _) (.cells #[.int .i64 x] 3);have hb2a:Boxed (w1.alloc (.cells #[.int .i64 x] 3)) b2 24 (.slice none 0 0):=qag hb2 _;have c0:=hb2.cell;have hBn:=waa (hB.trans (hB1.mono hB.size));replace hb2a:=waa hb2a;have hnw:∀(j:Nat) (z:Int),[x][j]? =some z->(w1.alloc (.cells #[.int .i64 x] 3)).cell? ((⟨w1.heap.size,0,none⟩:Addr).add j)=some (Value.int .i64 z):=λj z hz=>by
   cases j with
   |zero=>
    obtain rfl:x=z:=by simpa using hz
    exact qd6 (heap_alloc_new w1 _) rfl
   |succ j=>simp at hz
  replace hnw:=waa hnw;clear hB hB1 hpl hb1 hb2;go_wp2_with (at_builtin;go_loud ((refine qed rfl _ _ rfl 0 _ [] rfl (RowI.nil _ 0) ⟨w1.heap.size,0,none⟩ 1 1 [x] rfl rfl Zo hnw.out Zs (wat _) ?_);intro v' w2 hr2 hg2 ho2;have hgb:w2.heap[b2]? =some (.cells #[.slice none 0 0] 24 (0,0)):=(hg2.block b2 hb2a.out.lt (λe=>by cases e)).trans hb2a.out;have k1:w2.cell? ⟨b2,0,none⟩=some (.slice none 0 0):=(by rw[qab hgb];rfl);have k2:w2.frozen? ⟨b2,0,none⟩=false:=qah hgb 0;obtain⟨Y,z,rfl,-,-⟩:=hr2.shape;generalize hYl:([]++[x]:List Int).length=yl at hr2 ho2 ⊢))
  go_end0
  have hU1:Upd (λk=>k=b2) (w1.alloc (.cells #[.int .i64 x] 3)) (w2.setCell ⟨b2,0,none⟩ (.slice Y yl z)):=
   ((Upd.refl (λk=>k=b2) _).grown hg2 (λk e=>by cases e)).setCell (p:=⟨b2,0,none⟩) (.inl rfl) _
  have hU2:Upd (λ_=>False) w (w2.setCell ⟨b2,0,none⟩ (.slice Y yl z)):=(Upd.of_below hBn.out (wah _):Upd (λ_=>False) w _).after hU1 (λk hk=> .inr Zo);exact⟨rfl,hU2.mono (λ_ e=>e.elim),F,GrowH.refl _ _,⟨gh,gc,hcap,ccap,_,h.out.upd hU2 (λ_ _ e=>e)⟩⟩
end
def qgz(P:Nat->Bool):Nat->Nat->Int
 |0,_=>-1
 |k+1,n=>if P n=true then(n:Int) else qgz P k (n+1)
def qg8(s:Nat)(hs:List (Int×Int×Int)):Int:=qgz (λi=>freB hs (i:Int)) s 0
section
variable {w w':World} {base p gh gc hcap ccap s L:Nat} {r:Int} {hs:List (Int×Int×Int)} {rv:Nat->Value} {rx:Nat->List Int} {F:Nat->Prop}
theorem q0u(h:HpR w base p gh gc hcap ccap s L r hs rv rx F):
  Calls Tryz.prog 249 #[.pointer (some ⟨p,0,none⟩),.int .i64 1] w λe w'=>e= .returned (.int .i64 (qg8 s hs))/\Below w.heap.size w w':=by
 have hm:=waa (qg0 h);have hd:=h.dims;have hie:=waa (λ(W:World) (hW:Below w.heap.size w W) (i:Int)=>qho (h.new hW) i);clear h;obtain⟨Z,hZ⟩:∃Z,qg8 s hs=Z:=⟨_,rfl⟩
 rw[hZ];go_enter Tryz.func249,Tryz.ntmps249;go_wp2_with fail;refine hm.out.mono ?_;rintro e w1 ⟨rfl,rfl⟩;go_wp2_with fail;go_loopg [8] s (λk s8 wr=>∃n:Nat,s8= .int .i64 (n:Int)/\s - n<=k/\n<=s/\Hid (Below w.heap.size w wr)/\Hid (Z=qgz (λi=>freB hs (i:Int)) (s - n) n))
 case atStart=>exact⟨0,rfl,Zo,Zo,waa (wai _ _),waa (by rw[<-hZ];rfl)⟩
 case round=>
  obtain⟨n,rfl,hk,hn,hB,hF⟩:=hrel;by_cases hlt:n<s
  ·have hs1:s - n=(s - (n+1))+1:=Zo
   have hc:=waa (hie.out wr hB.out (n:Int));have z1:(n:Int)<(s:Int):=Zo
   cases hb:freB hs (n:Int) with
   |true=>
    rw[hb] at hc;go_wp2_with fail;refine hc.out.mono ?_;rintro e w2 ⟨rfl,hC⟩;have hB1:=waa (hB.out.trans (hC.mono hB.out.size));clear hC hc;go_wp2_with fail;try rw[wbd]
    go_ret;have hz:Z=(n:Int):=by rw[hF.out,hs1];simp only[qgz];rw[if_pos hb]
    exact⟨by rw[hz];rfl,hB1.out⟩
   |false=>
    rw[hb] at hc;go_wp2_with fail;refine hc.out.mono ?_;rintro e w2 ⟨rfl,hC⟩;have hB1:=waa (hB.out.trans (hC.mono hB.out.size));clear hC hc;go_wp2_with fail;go_roundg (s - (n+1))
    case measure=>omega
    case rel=>exact⟨n+1,by go_num,wah _,Zo,hB1,waa (by rw[hF.out,hs1];simp only[qgz];rw[if_neg (by rw[hb];exact wfa)])⟩
  ·have z1:¬(n:Int)<(s:Int):=Zo
   go_wp2_with fail;go_ret;have hz:Z= -1:=by rw[hF.out,show s - n=0 by omega];rfl
   exact⟨by rw[hz];rfl,hB.out⟩
end
end Go.Proofs.YtgjhkafggagniaaGreat
