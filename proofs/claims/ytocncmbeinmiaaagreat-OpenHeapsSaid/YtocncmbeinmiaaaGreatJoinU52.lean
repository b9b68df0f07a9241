/- Parts. No condition. -/
import Derived.Test.YtocncmbeinmiaaaGreatJoinU51
set_option linter.unusedVariables false
set_option maxRecDepth 100000
set_option maxHeartbeats 8000000
namespace Go.Proofs.YtocncmbeinmiaaaGreat
open Go Go.RowKit
theorem R18.older{V V':World}{base p s L:Nat}{r:Int}{hs:List (Int×Int×Int)}{rv:Nat->Value}{rx:Nat->List Int}(h:R18 V base p s L r hs rv rx){G:Nat->Prop}(hu:Upd G V V')(hG:∀k,G k->k<base):R18 V' base p s L r hs rv rx:=by
 obtain⟨⟨gh,hcp,cv,h1,h2⟩,h3,h4,h5⟩:=h;exact⟨⟨gh,hcp,cv,(hu.block p (wal.1 h1).1 (λe=>by have:=hG p e;omega)).trans h1,qde h2 hu (λk hk e=>by have:=hG k e;have:=(h2.lt k hk).1;omega)⟩,λc hc=>(h3 c hc).upd hu (λg hg e=>by have:=hG g e;have:=((h3 c hc).lt g hg).1;omega),h4,h5⟩
section
variable {A:Option Addr} {cap S L:Nat} {r:Int} {ws:List Nat} {hs:List (Int×Int×Int)} {w:World}
theorem qzd(hr:Rd w A ws.length (u64V ws))(hl:ws.length<=2000)(hlt:∀y∈ws,y<18446744073709551616)(hh:Hit ws (S:Int) (L:Int) r)(hhd:qa3 (S:Int) (L:Int) r ws=some hs):
  Calls Tryz.prog 32 #[.slice A ws.length cap] w λe w'=>∃p rv b,e= .returned (.tuple #[.agg #[.int .i64 (S:Int),.int .i64 (L:Int),.int .i64 r],.pointer (some ⟨p,0,none⟩),.bool true])/\R18 w' b p S L r hs rv (newR S L r hs (qcq (S:Int) (L:Int) r ws) S)/\w.heap.size<=b/\b<=w'.heap.size/\Below w.heap.size w w':=by
 have hf:fitB (S:Int) (L:Int) r ws.length=true:=fitB_iff.2 ⟨hh.1,hh.2.1⟩;have hd:=qka hhd;have hfl:hs.length=S:=by have:=(qgw hhd).2;simpa using this
 have hmt:=qwq (S:=S) (L:=L) (r:=r) hlt;have hdim:=qly hh.1;have hbd:=qaw hf;have hmy:=qkr hf;rw[wam] at hmy;obtain⟨i0,ii,iz0,iz1,iz2⟩:=info_parts qcg;have hge:=waa (λ(V:World) (hW:Below w.heap.size w V)=>show Calls Tryz.prog 56 #[.slice A ws.length cap] V λe w'=>e= .returned (.tuple #[.agg #[.int .i64 (S:Int),.int .i64 (L:Int),.int .i64 r],.bool true])/\Below V.heap.size V w' from(qea A cap ws V (hr.below hW) Zo).mono λe w' ⟨h1,h2⟩=>⟨h1.is hh,h2⟩);have hhe:=waa (λ(V:World) (hW:Below w.heap.size w V)=>show Calls Tryz.prog 57 #[.agg #[.int .i64 (S:Int),.int .i64 (L:Int),.int .i64 r],.slice A ws.length cap] V λe w'=>(∃v,e= .returned (.tuple #[v,.bool true])/\w'.ownsRow V.heap.size 82 3 v S (hV hs))/\Below V.heap.size V w' from
  (qe0 (S:Int) (L:Int) r A cap ws V (hr.below hW) Zo hlt).mono λe w' ⟨h1,h2⟩=>⟨by
   rw[hhd] at h1;obtain⟨v,h3,h4⟩:=h1;rw[hfl] at h4;exact⟨v,h3,h4⟩,h2⟩)
 have hcl:=waa (λ(a:Nat) (ha:a<ws.length)=>show ∃q,A=some q/\∀V,Below w.heap.size w V->V.cell? (q.add a)=some (.int .u64 ((ws.getD a 0:Nat):Int)) from by
  have hx:ws[a]? =some ws[a]:=waj ha;have hg:ws.getD a 0=ws[a]:=by rw[wax,hx];rfl
  obtain⟨q,rfl,-⟩:=qa6 hr hx;refine⟨q,rfl,λV hW=>?_⟩;obtain⟨q',e,hq⟩:=qa6 (hr.below hW) hx;injection e with e;subst e;rw[hg];exact hq)
 rw[hmy] at hmt ⊢;generalize hF:(λi=>ws.getD (hdAt (L:Int) i+1) 0)=F at hmt ⊢;replace hF:=waa hF;have hg0:=waa (Gi.new w 0 0 0);have hB0:=waa (qa7 w 0 0 0);have hmay:=hh.1;generalize hn:ws.length=n at hge hhe hcl hl hbd ⊢;clear hr hh hhd hf hlt hfl hmy hn;go_enter Tryz.func32,Tryz.ntmps32;go_wp2_with fail;refine(hge.out _ hB0.out).mono ?_;rintro e w1 ⟨rfl,hB1⟩;have hgi1:=waa (hg0.out.below hB1 hg0.out.lt);replace hB1:=waa (hB0.out.trans (hB1.mono hB0.out.size));have hBx:Below w1.heap.size w1 (w1.alloc (.cells #[.int .i64 (S:Int),.int .i64 (L:Int),.int .i64 r] 23)):=(wac _ w1).alloc (wab _) _;have hgx:=Gi.new w1 (S:Int) (L:Int) r;have hgi2:=waa (hgi1.out.below hBx hgi1.out.lt);have hne:w.heap.size<w1.heap.size:=hgi1.out.lt;have hB2:=waa (hB1.out.trans (hBx.mono hB1.out.size));obtain⟨x0,x1,x2,-⟩:=hgx.cells;replace hgx:=waa hgx;clear hge hg0 hB0 hgi1 hB1 hBx;go_wp2_with fail;refine(hhe.out _ hB2.out).mono ?_;rintro e w2 ⟨⟨v,rfl,hrow⟩,hB3⟩;obtain⟨g,gcap,rfl,hH⟩:=qsv hrow (waw Nat.zero_lt_one hdim.1.1);have hgx2:=waa (hgx.out.below hB3 hgx.out.lt);have hgi3:=waa (hgi2.out.below hB3 hgi2.out.lt);have hB4:=waa (hB2.out.trans (hB3.mono hB2.out.size));have hnw:=waa (λ(V:World) (hW:Below w2.heap.size w2 V) (B:Option Addr) (mcap:Nat) (hM:Rd V B S (u64V ((List.range S).map F)))=>qyw (cap:=gcap) (mcap:=mcap) V hdim (hH.below hW) hM hd hmt);clear x0 x1 x2 hhe hrow hB3 hgx hgi2 hB2 hH hmt;generalize w1.heap.size=z5 at hgx2 hne ⊢;go_wp2_with fail;go_loopw [9,10] (λv q wr=>∃(W:World) (j:Nat),W=wr/\W.ownsRow w2.heap.size 27 1 v j (u64V ((List.range j).map F))/\q= .int .i64 (j:Int)/\j<=S/\Below w2.heap.size w2 W) (λ_ q _=>S - (RowKit.intOf q).toNat)
 case atStart=>exact⟨_,0,rfl,wa9 _ _ _ _,rfl,Zo,wac _ _⟩
 case round=>
  obtain⟨W,j,rfl,hrow,rfl,hj,hB⟩:=hrel;obtain⟨c0,c1,c2,f⟩:=(hgx2.out.below hB hgx2.out.lt).cells;by_cases hlt2:(j:Int)<(S:Int)
  ·obtain⟨a,ha⟩:∃a,hdAt (L:Int) j+1=a:=⟨_,rfl⟩
   have hav:(16+40*(L:Int)+8*(j:Int)+1)=(a:Int):=by rw[<-ha];unfold hdAt;omega
   have hal:a<n:=Zo
   obtain⟨q,rfl,hq⟩:=hcl.out a hal;have x:=hq W (hB4.out.trans (hB.mono hB4.out.size));rw[show ws.getD a 0=F j by rw[<-hF.out,<-ha]] at x;have hst:=waa (show u64V ((List.range j).map F)++[.int .u64 (F j:Int)]=u64V ((List.range (j+1)).map F) by rw[wcd,wcr,wdq,qd8]);generalize F j=y at x hst;have q1:IntKind.i64.wrap (40*(L:Int))=40*(L:Int):=wao _ Zo;have q2:IntKind.i64.wrap (16+40*(L:Int))=16+40*(L:Int):=wao _ Zo;have q3:IntKind.i64.wrap (8*(j:Int))=8*(j:Int):=wao _ Zo;have q4:IntKind.i64.wrap (16+40*(L:Int)+8*(j:Int))=16+40*(L:Int)+8*(j:Int):=wao _ Zo;have q5:IntKind.i64.wrap (16+40*(L:Int)+8*(j:Int)+1)=(a:Int):=(wao _ Zo).trans hav;have a0:(0:Int)<=(a:Int):=Zo
   have a1:(a:Int)<(n:Int):=Zo
   have hs2:=hB.size;clear hq ha hav;go_wp2_with (at_builtin;go_loud (refine wpList_append_own _ rfl _ _ 40 rfl w2.heap.size 27 i0 (.int .u64 0) 1 8 wbi ii iz0 iz1 iz2 rfl Zd _ _ _ rfl (hrow.alloc _) ⟨W.heap.size,0,none⟩ 1 1 [.int .u64 (y:Int)] rfl rfl (qd3 Zs _ _) (by simp[Value.oneCell']) (by simp only[maxLen];omega) Zo Zx ?_);intro v' w4 hown' hgrow _;have hB5:=(hB.alloc hB.size (.cells #[.int .u64 (y:Int)] 27)).grown hgrow Zx (qa0 hrow))
   go_roundw
   case rel=>exact⟨_,j+1,rfl,by rw[<-hst.out];exact hown',by go_num,Zo,hB5⟩
   case measure=>simp[RowKit.intOf];omega
  ·obtain rfl:S=j:=Zo
   obtain⟨B,d,rfl,hM⟩:=Rd.of_own hrow;have hnw2:=waa (λ(V:World) (hW:Below W.heap.size W V)=>hnw.out V (hB.trans (hW.mono hB.size)) B d (hM.below hW));have hgi4:=waa (hgi3.out.below hB hgi3.out.lt);have hB6:=waa (hB4.out.trans (hB.mono hB4.out.size));clear hnw hgi3 hB4 hrow hM hcl f;go_upto_region 12 with fail
   refine wp_region_held_drew (S:=(λU=>U.cell? ⟨z5,0,none⟩=some (.int .i64 (S:Int))/\U.cell? ⟨z5,1,none⟩=some (.int .i64 (L:Int))/\U.cell? ⟨z5,2,none⟩=some (.int .i64 r))) Zk (⟨c0,c1,c2⟩) (λhHeld=>?_);refine wpAnyH_take (i:=0) (v:=?_) rfl Zk Zk Zk (λ_ _ _ h=>h) (Or.inl ⟨by rfl,?_⟩) Za ?_;rotate_left;(·intro u h;(try dsimp only at h);(try simp only[wad,wae]);go_simp;try with_reducible rfl);try simp only[Act.put,wag,wah,wai,wad,wae]
   refine wpAnyH_take (i:=1) (v:=?_) rfl Zk Zk Zk (λ_ _ _ h=>h) (Or.inl ⟨by rfl,?_⟩) Za ?_;rotate_left;(·intro u h;(try dsimp only at h);(try simp only[wad,wae,waf]);go_simp;try with_reducible rfl);try simp only[Act.put,wag,wah,wai,wad,wae,waf]
   refine wpAnyH_take (i:=2) (v:=?_) rfl Zk Zk Zk (λ_ _ _ h=>h) (Or.inl ⟨by rfl,?_⟩) Za ?_;rotate_left;(·intro u h;(try dsimp only at h);(try simp only[wad,wae,waf]);go_simp;try with_reducible rfl);try simp only[Act.put,wag,wah,wai,wad,wae,waf]
   refine wpAnyH_take (i:=3) (v:=?_) rfl Zk Zk Zk (λ_ _ _ h=>h) (Or.inl ⟨by rfl,?_⟩) Za ?_;rotate_left;(·intro u h;(try dsimp only at h);(try simp only[wad,wae,waf]);go_simp;try with_reducible rfl);try simp only[Act.put,wag,wah,wai,wad,wae,waf]
   refine wpAnyH_ready (rs:=[4]) Zk Zs ?_;refine AllReadyH.cons rfl (λK hK=>?_) AllReadyH.nil
   (try simp only[wad,wae,waf])
   go_simp
   have hBd:Below W.heap.size W W.drew:=(wac W.heap.size W).drew;refine(hnw2.out _ hBd).mono ?_;rintro e w4 ⟨p,rv,rfl,hR18,hB7⟩;have hBc:Below W.heap.size W w4:=hBd.trans (hB7.mono hBd.size);have hgi5:=waa (hgi4.out.below hBc hgi4.out.lt);obtain⟨d0,d1,d2,df⟩:=hgi5.out.cells;go_wp2_with fail;refine hK.out _ _ (⟨qac hBc c0,qac hBc c1,qac hBc c2⟩) (λhHeld2=>?_);clear hK K hHeld;have hHeld:=hHeld2;clear hHeld2;try simp only[Act.put,wag,wah,wai,wad,wae,waf]
   refine wpAnyH_ready (rs:=[5]) Zk Zs ?_;refine AllReadyH.cons rfl (λK hK=>?_) AllReadyH.nil
   (try simp only[wad,wae,waf])
   go_simp
   refine hK.out _ _ (⟨qbc (qbc (qbc (qac hBc c0) (by show z5≠w.heap.size;omega)) (by show z5≠w.heap.size;omega)) (by show z5≠w.heap.size;omega),qbc (qbc (qbc (qac hBc c1) (by show z5≠w.heap.size;omega)) (by show z5≠w.heap.size;omega)) (by show z5≠w.heap.size;omega),qbc (qbc (qbc (qac hBc c2) (by show z5≠w.heap.size;omega)) (by show z5≠w.heap.size;omega)) (by show z5≠w.heap.size;omega)⟩) (λhHeld2=>?_);clear hK K hHeld;have hHeld:=hHeld2;clear hHeld2;try simp only[Act.put,wag,wah,wai,wad,wae,waf]
   refine wpAnyH_take (i:=6) (v:=?_) rfl Zk Zk Zk (λ_ _ _ h=>h) (Or.inl ⟨by rfl,?_⟩) Za ?_;rotate_left;(·intro u h;(try dsimp only at h);(try simp only[wad,wae,waf]);go_simp;try with_reducible rfl);try simp only[Act.put,wag,wah,wai,wad,wae,waf]
   refine wpAnyH_take (i:=7) (v:=?_) rfl Zk Zk Zk (λ_ _ _ h=>h) (Or.inl ⟨by rfl,?_⟩) Za ?_;rotate_left;(·intro u h;(try dsimp only at h);(try simp only[wad,wae,waf]);go_simp;try with_reducible rfl);try simp only[Act.put,wag,wah,wai,wad,wae,waf]
   refine wpAnyH_done Zk ?_ _;have hu:Upd (λk=>k=w.heap.size) w4 (((w4.setCell ⟨w.heap.size,0,none⟩ (.int .i64 (S:Int))).setCell ⟨w.heap.size,1,none⟩ (.int .i64 (L:Int))).setCell ⟨w.heap.size,2,none⟩ (.int .i64 r)):=(((Upd.refl (λk=>k=w.heap.size) w4).setCell (p:=⟨w.heap.size,0,none⟩) (.inl rfl) _).setCell (p:=⟨w.heap.size,1,none⟩) (.inl rfl) _).setCell (p:=⟨w.heap.size,2,none⟩) (.inl rfl) _;have hz:w.heap.size<W.heap.size:=hgi4.out.lt;have hR2:=waa (show R18 (((w4.setCell ⟨w.heap.size,0,none⟩ (.int .i64 (S:Int))).setCell ⟨w.heap.size,1,none⟩ (.int .i64 (L:Int))).setCell ⟨w.heap.size,2,none⟩ (.int .i64 r)) W.heap.size p S L r hs rv (newR S L r hs ((List.range S).map F) S) from hR18.older hu (λk e=>by rw[show k=w.heap.size from e];exact hz));have hBz:=waa ((hB6.out.trans (hBc.mono hB6.out.size)).trans (hu.below (λk e=>wc3 (show w.heap.size=k from(show k=w.heap.size from e).symm)) (wap hB6.out.size hBc.size)));have hsz:=waa (show W.heap.size<=((((w4.setCell ⟨w.heap.size,0,none⟩ (.int .i64 (S:Int))).setCell ⟨w.heap.size,1,none⟩ (.int .i64 (L:Int))).setCell ⟨w.heap.size,2,none⟩ (.int .i64 r))).heap.size from wap hB7.size hu.size);have hb4:w4.heap[w.heap.size]? =some (.cells #[.int .i64 0,.int .i64 0,.int .i64 0] 23 (0,0)):=hgi5.out;have hb5:=qah (qah (qah hb4 0 (.int .i64 (S:Int))) 1 (.int .i64 (L:Int))) 2 (.int .i64 r);have g0:((((w4.setCell ⟨w.heap.size,0,none⟩ (.int .i64 (S:Int))).setCell ⟨w.heap.size,1,none⟩ (.int .i64 (L:Int))).setCell ⟨w.heap.size,2,none⟩ (.int .i64 r))).cell? ⟨w.heap.size,0,none⟩=some (.int .i64 (S:Int)):=by rw[qaa hb5];rfl
   have g1:((((w4.setCell ⟨w.heap.size,0,none⟩ (.int .i64 (S:Int))).setCell ⟨w.heap.size,1,none⟩ (.int .i64 (L:Int))).setCell ⟨w.heap.size,2,none⟩ (.int .i64 r))).cell? ⟨w.heap.size,1,none⟩=some (.int .i64 (L:Int)):=by rw[qaa hb5];rfl
   have g2:((((w4.setCell ⟨w.heap.size,0,none⟩ (.int .i64 (S:Int))).setCell ⟨w.heap.size,1,none⟩ (.int .i64 (L:Int))).setCell ⟨w.heap.size,2,none⟩ (.int .i64 r))).cell? ⟨w.heap.size,2,none⟩=some (.int .i64 r):=by rw[qaa hb5];rfl
   clear hb4 hb5 hR18 hB7 hu hgi4 hgi5 hnw2 hBc hHeld;generalize (((w4.setCell ⟨w.heap.size,0,none⟩ (.int .i64 (S:Int))).setCell ⟨w.heap.size,1,none⟩ (.int .i64 (L:Int))).setCell ⟨w.heap.size,2,none⟩ (.int .i64 r))=W9 at g0 g1 g2 hR2 hBz hsz ⊢;go_wp2_with fail;exact bodyPost_ret (v:= .tuple #[.agg #[.int .i64 (S:Int),.int .i64 (L:Int),.int .i64 r],.pointer (some ⟨p,0,none⟩),.bool true]) (by simp[results,Tryz.results32,go_sem,g0,g1,g2]) rfl ⟨p,rv,W.heap.size,rfl,hR2.out,wbb hz,hsz.out,hBz.out⟩
theorem q3r(hr:Rd w A ws.length (u64V ws))(hl:ws.length<=2000)(hlt:∀y∈ws,y<18446744073709551616)(h:¬∃s l r hs,Hit ws s l r/\qa3 s l r ws=some hs):
  Calls Tryz.prog 32 #[.slice A ws.length cap] w λe w'=>e= .returned (.tuple #[.agg #[.int .i64 0,.int .i64 0,.int .i64 0],.pointer none,.bool false])/\Below w.heap.size w w':=by
 have hg0:=waa (Gi.new w 0 0 0);have hB0:=waa (qa7 w 0 0 0);by_cases hh:∃s l r,Hit ws s l r
 ·obtain⟨s,l,r,hh⟩:=hh
  have hho:qa3 s l r ws=none:=by
   cases he:qa3 s l r ws with
   |none=>rfl
   |some hs=>exact absurd ⟨s,l,r,hs,hh,he⟩ h
  have hge:=waa (λ(V:World) (hW:Below w.heap.size w V)=>show Calls Tryz.prog 56 #[.slice A ws.length cap] V λe w'=>e= .returned (.tuple #[.agg #[.int .i64 s,.int .i64 l,.int .i64 r],.bool true])/\Below V.heap.size V w' from(qea A cap ws V (hr.below hW) Zo).mono λe w' ⟨h1,h2⟩=>⟨h1.is hh,h2⟩);have hhe:=waa (λ(V:World) (hW:Below w.heap.size w V)=>show Calls Tryz.prog 57 #[.agg #[.int .i64 s,.int .i64 l,.int .i64 r],.slice A ws.length cap] V λe w'=>e= .returned (.tuple #[.slice none 0 0,.bool false])/\Below V.heap.size V w' from
   (qe0 s l r A cap ws V (hr.below hW) Zo hlt).mono λe w' ⟨h1,h2⟩=>⟨by
    rw[hho] at h1;exact h1,h2⟩)
  generalize ws.length=n at hge hhe ⊢;clear hr hh h hlt hl hho;go_enter Tryz.func32,Tryz.ntmps32;go_wp2_with fail;refine(hge.out _ hB0.out).mono ?_;rintro e w1 ⟨rfl,hB1⟩;have hgi1:=waa (hg0.out.below hB1 hg0.out.lt);replace hB1:=waa (hB0.out.trans (hB1.mono hB0.out.size));have hBx:Below w1.heap.size w1 (w1.alloc (.cells #[.int .i64 s,.int .i64 l,.int .i64 r] 23)):=(wac _ w1).alloc (wab _) _;have hgx:=Gi.new w1 s l r;have hgi2:=waa (hgi1.out.below hBx hgi1.out.lt);have hB2:=waa (hB1.out.trans (hBx.mono hB1.out.size));obtain⟨x0,x1,x2,-⟩:=hgx.cells;clear hge hg0 hB0 hgi1 hB1 hBx hgx;go_wp2_with fail;refine(hhe.out _ hB2.out).mono ?_;rintro e w2 ⟨rfl,hB3⟩;obtain⟨d0,d1,d2,df⟩:=(hgi2.out.below hB3 hgi2.out.lt).cells;have hB4:=waa (hB2.out.trans (hB3.mono hB2.out.size));clear hhe hB3 hgi2 hB2 x0 x1 x2;go_wp2_with fail;exact bodyPost_ret (v:= .tuple #[.agg #[.int .i64 0,.int .i64 0,.int .i64 0],.pointer none,.bool false]) (by simp[results,Tryz.results32,go_sem,d0,d1,d2]) rfl ⟨rfl,by(iterate 3 refine wa7 ?_ Zs _);exact hB4.out⟩
 ·have hge:=waa (λ(V:World) (hW:Below w.heap.size w V)=>show Calls Tryz.prog 56 #[.slice A ws.length cap] V λe w'=>e= .returned (.tuple #[.agg #[.int .i64 0,.int .i64 0,.int .i64 0],.bool false])/\Below V.heap.size V w' from(qea A cap ws V (hr.below hW) Zo).mono λe w' ⟨h1,h2⟩=>⟨h1.no (λs l r hq=>hh ⟨s,l,r,hq⟩),h2⟩)
  generalize ws.length=n at hge ⊢;clear hr hh h hlt hl;go_enter Tryz.func32,Tryz.ntmps32;go_wp2_with fail;refine(hge.out _ hB0.out).mono ?_;rintro e w1 ⟨rfl,hB1⟩;have hBx:Below w1.heap.size w1 (w1.alloc (.cells #[.int .i64 0,.int .i64 0,.int .i64 0] 23)):=(wac _ w1).alloc (wab _) _;have hgi1:=hg0.out.below hB1 hg0.out.lt;obtain⟨d0,d1,d2,df⟩:=(hgi1.below hBx hgi1.lt).cells;replace hB1:=waa (hB0.out.trans (hB1.mono hB0.out.size));replace hB1:=waa (hB1.out.trans (hBx.mono hB1.out.size));clear hge hg0 hB0 hgi1 hBx;go_wp2_with fail;exact bodyPost_ret (v:= .tuple #[.agg #[.int .i64 0,.int .i64 0,.int .i64 0],.pointer none,.bool false]) (by simp[results,Tryz.results32,go_sem,d0,d1,d2]) rfl ⟨rfl,by(iterate 3 refine wa7 ?_ Zs _);first|exact hB1.out|exact hB1.out.alloc Zs _|exact(hB1.out.alloc hB1.out.size _)⟩
end
def idxI(P:Int->Bool):Nat->List Int->Int
 |_,[]=>-1
 |k,h::t=>if P h=true then(k:Int) else idxI P (k+1) t
theorem qqm(w:World)(a:Addr)(n c:Nat):(binOp .eql 65 (.slice (some a) n c) (.slice none 0 0)).run Tryz.prog w= .ok (.bool false) w:=by
 have h:∀d:Nat,(Op.equalIn (d+1) 65 (.slice (some a) n c) (.slice none 0 0)).run Tryz.prog w= .ok false w:=λd=>by
  simp[Op.equalIn,run_underlying Tryz.underlying65]
 simp only[binOp];simp[Op.equal,Op.maxDepth,h 9999]
theorem qr7(w:World):(binOp .eql 65 (.slice none 0 0) (.slice none 0 0)).run Tryz.prog w= .ok (.bool true) w:=by
 have h:∀d:Nat,(Op.equalIn (d+1) 65 (.slice none 0 0) (.slice none 0 0)).run Tryz.prog w= .ok true w:=λd=>by
  simp[Op.equalIn,run_underlying Tryz.underlying65]
 simp only[binOp];simp[Op.equal,Op.maxDepth,h 9999]
theorem q0c{w:World}{base:Nat}{v:Value}{L:List Int}(h:RowI w base v L)(hn:L.length<=1000000):
  Calls Tryz.prog 60 #[v] w λe w'=>∃v',e= .returned v'/\RowI w' w.heap.size v' L/\Below w.heap.size w w':=by
 obtain⟨i0,ii,iz0,iz1,iz2⟩:=info_parts qnn;rcases h with ⟨rfl,rfl⟩|⟨g,cap,cur,rfl,hb,hg,h1,h2,h3,h4⟩
 ·have hnil:=qr7
  go_enter Tryz.func60,Tryz.ntmps60;go_wp2_with fail;go_ret;exact⟨_,rfl,RowI.nil _ _,wac _ _⟩
 ·have hlen:(i64V L).length=L.length*1:=by rw[qcn,wb7]
  have hlt:=(wal.1 hg).1;have hnews:∀j u,(i64V L)[j]? =some u->(w.alloc (.cells #[] 3)).cell? ((⟨g,0,none⟩:Addr).add j)=some u:=λj u hu=>by
   simp only[i64V,wa1,wcz] at hu;obtain⟨y,hy,rfl⟩:=hu;rw[wb5,qaa (qag hg _),wa4];exact h4 j y hy
  have hone:∀u∈i64V L,u.oneCell'=true:=λv hv=>by
   obtain⟨x,_,rfl⟩:=wav.1 hv;rfl
  have hnil:=λw=>qqm w ⟨g,0,none⟩ L.length cap
  have hlit:=wcq (base:=w.heap.size) (e:=3) (size:=1) w #[] 0 (wab _) Zd rfl;obtain⟨N,hN⟩:∃N,L.length=N:=⟨_,rfl⟩
  rw[hN] at hlen hnil hn ⊢;replace hN:=waa hN;clear hg h1 h2 h3 h4;go_enter Tryz.func60,Tryz.ntmps60;go_wp2_with (at_builtin;go_loud (refine wpList_append_own _ rfl _ _ 65 rfl w.heap.size 3 i0 _ 1 8 wbs ii iz0 iz1 iz2 rfl Zd _ 0 [] rfl hlit ⟨g,0,none⟩ N cap (i64V L) rfl hlen hnews hone (by simp only[maxLen];omega) Zo Zs ?_;intro v' w2 hown2 hgrow _;rw[wa4,wba] at hown2;have hB:=((wac _ w).alloc (wab _) (.cells #[] 3)).grown hgrow Zs (qa0 hlit);have hfin:=waa (And.intro hown2 hB);clear hown2 hB hgrow))
  go_ret;exact⟨_,rfl,RowI.of_own hfin.out.1,hfin.out.2⟩
def lstL(rx:Nat->List Int)(c:Int):List Int:=if 0<=c/\c<4 then rx c.toNat else[]
section
variable {w:World} {base p gh gc hcap ccap s L:Nat} {r:Int} {hs:List (Int×Int×Int)} {rv:Nat->Value} {rx:Nat->List Int} {F:Nat->Prop}
theorem q5r(h:HpR w base p gh gc hcap ccap s L r hs rv rx F)(c:Int)(hx:∀j,(rx j).length<=300000):
  Calls Tryz.prog 33 #[.pointer (some ⟨p,0,none⟩),.int .i64 c] w λe w'=>∃v,e= .returned v/\RowI w' w.heap.size v (lstL rx c)/\Below w.heap.size w w':=by
 have hsm:=waa (λW=>qy3 c W);unfold lstL;by_cases hc:0<=c/\c<4
 ·rw[if_pos hc]
  rw[decide_eq_true hc] at hsm;obtain⟨C,rfl⟩:=waz hc.1;rw[wam];have hC:C<4:=Zo
  have z5:(0:Int)<=(C:Int):=Zo
  have z6:(C:Int)<4:=Zo
  have k0:w.cell? ⟨p,4+C,none⟩=some (rv C):=by rw[qaa h.blk];exact qgd hC
  have hcl:=waa (q0c (h.rows C Zo) (by have:=hx C;omega));clear h hc;go_enter Tryz.func33,Tryz.ntmps33;go_wp2_with fail;refine(hsm.out _).mono ?_;rintro e w1 ⟨rfl,rfl⟩;go_wp2_with fail;refine hcl.out.mono ?_;rintro e w2 ⟨v,rfl,hr,hB⟩;have hfin:=waa (And.intro hr hB);clear hr hB hcl;go_wp2_with fail;go_ret;exact⟨_,rfl,hfin.out.1,hfin.out.2⟩
 ·rw[if_neg hc]
  rw[decide_eq_false hc] at hsm;clear h hc;go_enter Tryz.func33,Tryz.ntmps33;go_wp2_with fail;refine(hsm.out _).mono ?_;rintro e w1 ⟨rfl,rfl⟩;go_wp2_with fail;go_ret;exact⟨_,rfl,RowI.nil _ _,wac _ _⟩
def empB(s L:Nat)(r:Int)(hs:List (Int×Int×Int))(rx:Nat->List Int)(i:Int):Bool:=decide (0<(blkL s L r hs i).length)&&!((blkL s L r hs i).any λx=>!((lstL rx (hdOf hs i).2.1).any λy=>decide (x=y)))
theorem q0w(h:HpR w base p gh gc hcap ccap s L r hs rv rx F):
  Calls Tryz.prog 34 #[.pointer (some ⟨p,0,none⟩)] w λe w'=>∃g' cap',e= .returned (.slice (some ⟨g',0,none⟩) s cap')/\w'.ownsRow w.heap.size 82 3 (.slice (some ⟨g',0,none⟩) s cap') s (hV hs)/\Below w.heap.size w w':=by
 obtain⟨d0,d1,d2,d3,d4,df⟩:=h.cells;have hd:=h.dims;obtain⟨A,cap,e,hR⟩:=HdsRd.of_own h.heads;injection e with e1 e2 e3;subst e1 e3;have hcl:=waa (qmq (cap:=hcap) w hR Zo hd.1.2);clear h hR;go_enter Tryz.func34,Tryz.ntmps34;go_wp2_with fail;refine hcl.out.mono ?_;rintro e w2 ⟨g',cap',rfl,hr,hB⟩;have hfin:=waa (And.intro hr hB);clear hr hB hcl;go_wp2_with fail;go_ret;exact⟨g',cap',rfl,hfin.out.1,hfin.out.2⟩
end
section
variable {A:Option Addr} {cap S L:Nat} {r:Int} {ws:List Nat} {hs:List (Int×Int×Int)} {w:World}
theorem qz1(hal:∀V,Calls Tryz.prog 22 #[] V λe w'=>e= .returned (.bool true)/\Below V.heap.size V w')(hl:¬ws.length<=2000):
  Calls Tryz.prog 8 #[.slice A ws.length cap] w λe w'=>e= .returned (.bool true)/\Below w.heap.size w w':=by
 generalize ws.length=n at hl ⊢;have z1:(2000:Int)<(n:Int):=Zo
 go_enter Tryz.func8,Tryz.ntmps8;go_wp2_with fail;refine(hal _).mono ?_;rintro e w1 ⟨rfl,hB1⟩;go_wp2_with fail;go_ret;exact⟨rfl,hB1⟩
theorem q5b(hal:∀V,Calls Tryz.prog 22 #[] V λe w'=>e= .returned (.bool true)/\Below V.heap.size V w')(hr:Rd w A ws.length (u64V ws))(hcap:ws.length<=cap)(hl:ws.length<=2000)(hlt:∀y∈ws,y<18446744073709551616)(h:¬∃s l r hs,Hit ws s l r/\qa3 s l r ws=some hs):
  Calls Tryz.prog 8 #[.slice A ws.length cap] w λe w'=>e= .returned (.bool true)/\Below w.heap.size w w':=by
 have hoh:=waa (λ(V:World) (hW:Below w.heap.size w V)=>q84 (hr.below hW) hcap hl hlt h);have hrh:=waa (λ(V:World) (hW:Below w.heap.size w V)=>q3r (cap:=cap) (hr.below hW) hl hlt h);replace hal:=waa hal;generalize ws.length=n at hoh hrh hl ⊢;have z1:¬(2000:Int)<(n:Int):=Zo
 clear hr hcap hlt h;go_enter Tryz.func8,Tryz.ntmps8;go_wp2_with fail;refine(hal.out _).mono ?_;rintro e w1 ⟨rfl,hB1⟩;go_wp2_with fail;refine(hoh.out _ hB1).mono ?_;rintro e w2 ⟨rfl,hB2⟩;have hx3:=Gi.new w2 0 0 0;have hB3:=(hB1.trans (hB2.mono hB1.size)).trans (((wac w2.heap.size w2).alloc (wab _) (.cells #[.int .i64 0,.int .i64 0,.int .i64 0] 23)).mono (hB1.trans (hB2.mono hB1.size)).size);clear hoh hal;go_wp2_with fail;refine(hrh.out _ hB3).mono ?_;rintro e w3 ⟨rfl,hB4⟩;have hx4:=hx3.below hB4 hx3.lt;have hBz:Below w3.heap.size w3 (w3.alloc (.cells #[.int .i64 0,.int .i64 0,.int .i64 0] 23)):=(wac _ _).alloc (wab _) _;obtain⟨g0,g1,g2,gf⟩:=(hx4.below hBz hx4.lt).cells;have hB5:=waa ((hB3.trans (hB4.mono hB3.size)).trans (hBz.mono (hB3.trans (hB4.mono hB3.size)).size));clear hrh hx3 hx4 hB1 hB2 hB3 hB4 hBz;go_wp2_with fail;go_ret;exact⟨rfl,hB5.out⟩
theorem qxm(hal:∀V,Calls Tryz.prog 22 #[] V λe w'=>e= .returned (.bool true)/\Below V.heap.size V w')(hr:Rd w A ws.length (u64V ws))(hcap:ws.length<=cap)(hl:ws.length<=2000)(hlt:∀y∈ws,y<18446744073709551616)(hh:Hit ws (S:Int) (L:Int) r)(hhd:qa3 (S:Int) (L:Int) r ws=some hs):
  Calls Tryz.prog 8 #[.slice A ws.length cap] w λe w'=>e= .returned (.bool true)/\Below w.heap.size w w':=by
 have hoh:=waa (λ(V:World) (hW:Below w.heap.size w V)=>q1t (hr.below hW) hcap hl hlt hh hhd);have hrh:=waa (λ(V:World) (hW:Below w.heap.size w V)=>qzd (cap:=cap) (hr.below hW) hl hlt hh hhd);have hdim:=qly hh.1;have hrx:∀j,(newR S L r hs (qcq (S:Int) (L:Int) r ws) S j).length<=300000:=λj=>by
  have:=qji (s:=S) (L:=L) (r:=r) (hs:=hs) (ms:=qcq (S:Int) (L:Int) r ws) j S
  omega
 have hfl:hs.length=S:=by have:=(qgw hhd).2;simpa using this
 replace hal:=waa hal;generalize newR S L r hs (qcq (S:Int) (L:Int) r ws) S=rx at hoh hrh hrx;generalize ws.length=n at hoh hrh hl ⊢;have z1:¬(2000:Int)<(n:Int):=Zo
 clear hr hcap hlt hh hhd;go_enter Tryz.func8,Tryz.ntmps8;go_wp2_with fail;refine(hal.out _).mono ?_;rintro e w1 ⟨rfl,hB1⟩;go_wp2_with fail;refine(hoh.out _ hB1).mono ?_;rintro e w2 ⟨p1,F,b1,rfl,hHp,hb1,hb1',hB2⟩;have hx3:=Gi.new w2 (S:Int) (L:Int) r;have hBy:Below w2.heap.size w2 (w2.alloc (.cells #[.int .i64 (S:Int),.int .i64 (L:Int),.int .i64 r] 23)):=(wac _ _).alloc (wab _) _;have hB3:=(hB1.trans (hB2.mono hB1.size)).trans (hBy.mono (hB1.trans (hB2.mono hB1.size)).size);have hHp2:=hHp.new hBy;clear hoh hal;go_wp2_with fail;refine(hrh.out _ hB3).mono ?_;rintro e w3 ⟨p2,rv,b2,rfl,hR,hb2,hb2',hB4⟩;have hx4:=hx3.below hB4 hx3.lt;have hBz:Below w3.heap.size w3 (w3.alloc (.cells #[.int .i64 (S:Int),.int .i64 (L:Int),.int .i64 r] 23)):=(wac _ _).alloc (wab _) _;obtain⟨g0,g1,g2,gf⟩:=(hx4.below hBz hx4.lt).cells;obtain⟨y0,y1,y2,yf⟩:=(Gi.new w3 (S:Int) (L:Int) r).cells;have hHp3:=waa ((hHp2.new hB4).new hBz);have hR3:=waa (hR.below hBz);have hB5:=waa ((hB3.trans (hB4.mono hB3.size)).trans (hBz.mono (hB3.trans (hB4.mono hB3.size)).size));clear hrh hx3 hx4 hB1 hB2 hB3 hB4 hBz hHp hHp2 hR hb1 hb1' hb2 hb2' hBy;go_wp2_with fail;obtain⟨gh,gc,hc,cc,rv1,hP⟩:=hHp3.out;replace hP:=waa hP;clear hHp3 g0 g1 g2 gf y0 y1 y2 yf;generalize w3.alloc (.cells #[.int .i64 (S:Int),.int .i64 (L:Int),.int .i64 r] 23)=W4 at hP hR3 hB5 ⊢;go_loopg [9] 4 (λk s9 wr=>∃i:Nat,s9= .int .i64 (i:Int)/\4 - i<=k/\i<=4/\Hid (Below W4.heap.size W4 wr))
 case atStart=>exact⟨0,rfl,Zo,Zo,waa (wac _ _)⟩
 case round=>
  obtain⟨i,rfl,hki,hi4,hB6⟩:=hrel;by_cases hlt:i<4
  ·have z2:(i:Int)<4:=Zo
   have z3:(0:Int)<=(i:Int):=Zo
   have hli:=waa (q5r (hP.out.new hB6.out) (i:Int) hrx);have hls:lstL rx (i:Int)=rx i:=by
    unfold lstL;rw[if_pos ⟨z3,z2⟩,wam]
   rw[hls] at hli;clear hls;go_wp2_with fail;refine hli.out.mono ?_;rintro e w5 ⟨v,rfl,hrow,hB7⟩;have hR5:=(hR3.out.below hB6.out).below hB7;obtain⟨⟨gh2,hcp2,cv2,hblk,-⟩,hrows,-,-⟩:=hR5;obtain⟨QA,QC,hQe,hQl,hQR⟩:=(hrows i hlt).shape;obtain⟨PA,PC,rfl,hPl,hPR⟩:=hrow.shape;have k9:w5.cell? ⟨p2,4+i,none⟩=some (.slice QA (rx i).length QC):=by
    rw[qaa hblk,<-hQe];exact qgd hlt
   have hB8:=waa (hB6.out.trans (hB7.mono hB6.out.size));have hll:(rx i).length<=300000:=hrx i;have hz:waa hPR=waa hPR:=rfl;replace hPR:=waa hPR;replace hQR:=waa hQR;clear hz hblk hrows hli hB6 hB7 hrow hQe;generalize hN:(rx i).length=N at hPR hQR hQl hPl k9 hll ⊢;have hN':=waa hN;clear hN;go_wp2_with fail;go_loopg [11] N (λk s11 wr=>∃j:Nat,s11= .int .i64 (j:Int)/\N - j<=k/\j<=N/\Hid (Below w5.heap.size w5 wr))
   case atStart=>exact⟨0,rfl,Zo,Zo,waa (wac _ _)⟩
   case round=>
    obtain⟨j,rfl,hkj,hjN,hB9⟩:=hrel;by_cases hjlt:j<N
    ·have z4:(j:Int)<(N:Int):=Zo
     have z5:(0:Int)<=(j:Int):=Zo
     obtain⟨x,hx⟩:∃x,(rx i)[j]? =some x:=⟨_,waj (by rw[hN'.out];exact hjlt)⟩
     have hx2:(i64V (rx i))[j]? =some (.int .i64 x):=by unfold i64V;rw[wa1,hx];rfl
     obtain⟨qa,rfl,ha⟩:=(hPR.out.below hB9.out).2 Zo;obtain⟨qb,rfl,hb⟩:=(hQR.out.below hB9.out).2 Zo;have a0:=ha j _ hx2;have b0:=hb j _ hx2;have k10:=qac hB9.out k9;clear ha hb hx hx2;go_upto_region 20 with fail
     go_quiet (fail)
     go_wp2_with fail;go_roundg (N - (j+1))
     case measure=>omega
     case rel=>exact⟨j+1,by go_num,wab _,Zo,waa (qad hB9.out _)⟩
    ·obtain rfl:j=N:=Zo
     have hB10:=waa (hB8.out.trans (hB9.out.mono hB8.out.size));clear hPR hQR k9 hB8 hB9;go_wp2_with fail;go_roundg (4 - (i+1))
     case measure=>omega
     case rel=>exact⟨i+1,by go_num,wab _,Zo,hB10⟩
  ·obtain rfl:i=4:=Zo
   have hhd:=waa (q0w (hP.out.new hB6.out));go_wp2_with fail;refine hhd.out.mono ?_;rintro e w5 ⟨g',cap',rfl,hrow,hB7⟩;have hR5:=(hR3.out.below hB6.out).below hB7;obtain⟨⟨gh2,hcp2,cv2,hblk,hrow2⟩,-,-,-⟩:=hR5;have k9:w5.cell? ⟨p2,3,none⟩=some (.slice (some ⟨gh2,0,none⟩) S hcp2):=by
    rw[qaa hblk];rfl
   have hB8:=waa (hB5.out.trans ((hB6.out.trans (hB7.mono hB6.out.size)).mono hB5.out.size));obtain⟨X1,d1,e1,hH1⟩:=HdsRd.of_own hrow;injection e1 with e1 _ _;subst e1;obtain⟨X2,d2,e2,hH2⟩:=HdsRd.of_own hrow2;injection e2 with e2 _ _;subst e2;replace hH1:=waa hH1;replace hH2:=waa hH2;clear hhd hB6 hB7 hrow hrow2 hblk hP hR3;go_wp2_with fail;go_loopg [13] S (λk s13 wr=>∃j:Nat,s13= .int .i64 (j:Int)/\S - j<=k/\j<=S/\Hid (Below w5.heap.size w5 wr))
   case atStart=>exact⟨0,rfl,Zo,Zo,waa (wac _ _)⟩
   case round=>
    obtain⟨j,rfl,hkj,hjN,hB9⟩:=hrel;have k10:=qac hB9.out k9;by_cases hjlt:j<S
    ·have z4:(j:Int)<(S:Int):=Zo
     have z5:(0:Int)<=(j:Int):=Zo
     have z6:¬(S:Int)<=(j:Int):=Zo
     obtain⟨⟨kd,cl,ow⟩,hx⟩:∃x,hs[j]? =some x:=⟨_,waj Zo⟩
     obtain⟨qa,e1,ha⟩:=(hH1.out.below hB9.out).2 Zo;injection e1 with e1;subst e1;obtain⟨qb,e2,hb⟩:=(hH2.out.below hB9.out).2 Zo;injection e2 with e2;subst e2;obtain⟨a0,a1,a2⟩:=ha j _ hx;obtain⟨b0,b1,b2⟩:=hb j _ hx;rw[wb5] at a0 a1 a2 b0 b1 b2;simp only[wa4] at a0 a1 a2 b0 b1 b2;clear ha hb hx;go_upto_region 26 with fail
     go_quiet (fail)
     go_wp2_with fail;go_roundg (S - (j+1))
     case measure=>omega
     case rel=>exact⟨j+1,by go_num,wab _,Zo,waa (qad hB9.out _)⟩
    ·obtain rfl:j=S:=Zo
     have hB10:=waa (hB8.out.trans (hB9.out.mono hB8.out.size));clear hB8 hB9;go_wp2_with fail;go_ret;exact⟨rfl,hB10.out⟩
end
end Go.Proofs.YtocncmbeinmiaaaGreat
