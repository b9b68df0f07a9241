/- Parts. No condition. -/
import Derived.Test.YtocncmbeinmiaaaGreatJoinU49
set_option linter.unusedVariables false
set_option maxRecDepth 100000
set_option maxHeartbeats 8000000
namespace Go.Proofs.YtocncmbeinmiaaaGreat
open Go Go.RowKit
theorem qgw{s l r:Int}{ws:List Nat}{L:List HD}(h:qa3 s l r ws=some L):fitB s l r ws.length=true/\L.length=s.toNat:=by
 unfold qa3 at h;cases hf:fitB s l r ws.length with
 |false=>rw[hf,if_neg Zd] at h;cases h
 |true=>rw[hf,if_pos rfl] at h;exact⟨rfl,qe5 h⟩
theorem qsm{f:Nat->Nat}:∀{n:Nat} {l:List (Int×Int×Int)},hdsF f n=some l->∀j,j<n->∃h,l[j]? =some h/\hdO (f j)=some h
 |0,_,_,j,hj=>by omega
 |n+1,l,h,j,hj=>by
  rw[hdsF] at h;cases h1:hdsF f n with
  |none=>rw[h1] at h;cases h
  |some m=>
   rw[h1] at h;simp only at h;cases h2:hdO (f n) with
   |none=>rw[h2] at h;cases h
   |some x=>
    rw[h2] at h;injection h with h;subst h;have hl:=qe5 h1;by_cases hn:j=n
    ·subst hn
     exact⟨x,by rw[wbt Zo,hl,wcw];rfl,h2⟩
    ·obtain⟨y,g1,g2⟩:=qsm h1 j Zo
     exact⟨y,by rw[wbk Zo];exact g1,g2⟩
theorem qka{s l r:Int}{hs:List HD}{ws:List Nat}(h:qa3 s l r ws=some hs):hdsB s l r hs=true:=by
 obtain⟨hf,hl⟩:=qgw h;have hb:=qaw hf;refine hdsB_iff.2 ⟨(fitB_iff.1 hf).1,Zo,λx hx=>?_⟩;rw[qa3,if_pos hf] at h;obtain⟨j,hj⟩:=wc0 hx;obtain⟨y,h1,h2⟩:=qsm h j (by have:=(wan.1 hj).1;omega);rw[hj] at h1;injection h1 with h1;subst h1;exact qwu h2
section
variable {A:Option Addr} {cap S L:Nat} {r:Int} {ws:List Nat} {hs:List (Int×Int×Int)} {w:World}
theorem q8c(hf:fitB (S:Int) (L:Int) r ws.length=true):(qcq (S:Int) (L:Int) r ws).length=S:=by rw[qkr hf];simp
theorem q1c(hlt:∀x∈ws,x<18446744073709551616)(i:Nat):ws.getD i 0<18446744073709551616:=by
 rw[wax];cases hi:ws[i]? with
 |none=>simp
 |some x=>exact hlt x (waq hi)
theorem qwq(hlt:∀x∈ws,x<18446744073709551616):∀y∈qcq (S:Int) (L:Int) r ws,y<18446744073709551616:=by
 intro y hy;unfold qcq at hy;split at hy
 ·obtain⟨i,-,rfl⟩:=wav.1 hy
  exact q1c hlt _
 ·cases hy
theorem q2z(hd:hdsB (S:Int) (L:Int) r hs=true):hs.any nhB=false:=by
 rw[List.any_eq_false];intro x hx;have:=(hdsB_iff.1 hd).2.2 x hx
 unfold nhB;unfold hdB at this;rw[this];simp
theorem qly(h:mayB (S:Int) (L:Int) r=true):(1<=S/\S<=16)/\1<=L/\L<=4:=by
 unfold mayB cntB at h;simp at h
 omega
theorem qsv{V:World}{base n:Nat}{v:Value}{l:List (Int×Int×Int)}(h:V.ownsRow base 82 3 v n (hV l))(h0:0<n):∃g c,v= .slice (some ⟨g,0,none⟩) n c/\HdsRd V (some ⟨g,0,none⟩) n l:=by
 obtain⟨A,c,rfl,hR⟩:=HdsRd.of_own h;rcases h.2 with ⟨e,h1⟩|⟨g,cc,cur,e,-⟩
 ·omega
 ·injection e with e1 _ e3
  subst e1;exact⟨g,c,rfl,hR⟩
theorem q1t(hr:Rd w A ws.length (u64V ws))(hcap:ws.length<=cap)(hl:ws.length<=2000)(hlt:∀y∈ws,y<18446744073709551616)(hh:Hit ws (S:Int) (L:Int) r)(hhd:qa3 (S:Int) (L:Int) r ws=some hs):
  Calls Tryz.prog 31 #[.slice A ws.length cap] w λe w'=>∃p F b,e= .returned (.tuple #[.agg #[.int .i64 (S:Int),.int .i64 (L:Int),.int .i64 r],.pointer (some ⟨p,0,none⟩),.int .i64 0])/\Hp w' b p S L r hs (newR S L r hs (qcq (S:Int) (L:Int) r ws) S) F/\w.heap.size<=b/\b<=w'.heap.size/\Below w.heap.size w w':=by
 have hf:fitB (S:Int) (L:Int) r ws.length=true:=fitB_iff.2 ⟨hh.1,hh.2.1⟩;have hd:=qka hhd;have hfl:hs.length=S:=by have:=(qgw hhd).2;simpa using this
 have hml:=q8c (r:=r) hf;have hmt:=qwq (S:=S) (L:=L) (r:=r) hlt;have hok:=q2z hd;have hdim:=qly hh.1;have hge:=waa (λ(V:World) (hW:Below w.heap.size w V)=>show Calls Tryz.prog 53 #[.slice A ws.length cap] V λe w'=>e= .returned (.tuple #[.agg #[.int .i64 (S:Int),.int .i64 (L:Int),.int .i64 r],.int .i64 0])/\Below V.heap.size V w' from(qec A cap ws V (hr.below hW) hcap Zo hlt).mono λe w' ⟨h1,h2⟩=>⟨h1.is hh,h2⟩);have hhe:=waa (λ(V:World) (hW:Below w.heap.size w V)=>show Calls Tryz.prog 54 #[.agg #[.int .i64 (S:Int),.int .i64 (L:Int),.int .i64 r],.slice A ws.length cap] V λe w'=>(∃v,e= .returned (.tuple #[v,.int .i64 0])/\w'.ownsRow V.heap.size 82 3 v S (hV hs))/\Below V.heap.size V w' from
  (qfh (S:Int) (L:Int) r A cap ws V (hr.below hW) Zo hlt).mono λe w' ⟨h1,h2⟩=>⟨by
   rw[hhd] at h1;obtain⟨v,h3,h4⟩:=h1;rw[hfl] at h4;exact⟨v,h3,h4⟩,h2⟩)
 have hmp:=waa (λ(V:World) (hW:Below w.heap.size w V)=>show Calls Tryz.prog 55 #[.agg #[.int .i64 (S:Int),.int .i64 (L:Int),.int .i64 r],.slice A ws.length cap] V λe w'=>∃v,e= .returned v/\w'.ownsRow V.heap.size 27 1 v S (u64V (qcq (S:Int) (L:Int) r ws))/\Below V.heap.size V w' from by
  have:=qoz (S:Int) (L:Int) r A cap ws V (hr.below hW) Zo hlt
  rw[hml] at this;exact this)
 generalize qcq (S:Int) (L:Int) r ws=ms at hmp hmt hml ⊢;have hg0:=waa (Gi.new w 0 0 0);have hB0:=waa (qa7 w 0 0 0);have hmay:=hh.1;generalize ws.length=n at hge hhe hmp ⊢;clear hr hh hhd hd hf hlt hl hcap hfl hml;go_enter Tryz.func31,Tryz.ntmps31;go_wp2_with fail;refine(hge.out _ hB0.out).mono ?_;rintro e w1 ⟨rfl,hB1⟩;have hgi1:=waa (hg0.out.below hB1 hg0.out.lt);replace hB1:=waa (hB0.out.trans (hB1.mono hB0.out.size));have hBx:Below w1.heap.size w1 (w1.alloc (.cells #[.int .i64 (S:Int),.int .i64 (L:Int),.int .i64 r] 23)):=(wac _ w1).alloc (wab _) _;have hgx:=Gi.new w1 (S:Int) (L:Int) r;have hgi2:=waa (hgi1.out.below hBx hgi1.out.lt);have hne:w.heap.size<w1.heap.size:=hgi1.out.lt;have hB2:=waa (hB1.out.trans (hBx.mono hB1.out.size));obtain⟨x0,x1,x2,-⟩:=hgx.cells;replace hgx:=waa hgx;clear hge hg0 hB0 hgi1 hB1 hBx;go_wp2_with fail;refine(hhe.out _ hB2.out).mono ?_;rintro e w2 ⟨⟨v,rfl,hrow⟩,hB3⟩;obtain⟨g,gcap,rfl,hH⟩:=qsv hrow (waw Nat.zero_lt_one hdim.1.1);have hgx2:=hgx.out.below hB3 hgx.out.lt;have hgi3:=waa (hgi2.out.below hB3 hgi2.out.lt);have hB4:=waa (hB2.out.trans (hB3.mono hB2.out.size));have hnw:=waa (λ(V:World) (hW:Below w2.heap.size w2 V) (B:Option Addr) (mcap:Nat) (hM:Rd V B S (u64V ms))=>q8b (cap:=gcap) (mcap:=mcap) V hmay hdim (hH.below hW) hM hok hmt);clear x0 x1 x2 hhe hrow hB3 hgx hgi2 hB2 hH hok hmt;generalize w1.heap.size=z5 at hgx2 hne ⊢;obtain⟨x0,x1,x2,-⟩:=hgx2.cells;go_upto_region 7 with fail
 refine wp_region_held_drew (S:=(λU=>U.cell? ⟨z5,0,none⟩=some (.int .i64 (S:Int))/\U.cell? ⟨z5,1,none⟩=some (.int .i64 (L:Int))/\U.cell? ⟨z5,2,none⟩=some (.int .i64 r))) Zk (⟨x0,x1,x2⟩) (λhHeld=>?_);refine wpAnyH_take (i:=0) (v:=?_) rfl Zk Zk Zk (λ_ _ _ h=>h) (Or.inl ⟨by rfl,?_⟩) Za ?_;rotate_left;(·intro u h;(try dsimp only at h);(try simp only[wad,wae]);go_simp;try with_reducible rfl);try simp only[Act.put,wag,wah,wai,wad,wae]
 refine wpAnyH_take (i:=1) (v:=?_) rfl Zk Zk Zk (λ_ _ _ h=>h) (Or.inl ⟨by rfl,?_⟩) Za ?_;rotate_left;(·intro u h;(try dsimp only at h);(try simp only[wad,wae,waf]);go_simp;try with_reducible rfl);try simp only[Act.put,wag,wah,wai,wad,wae,waf]
 refine wpAnyH_take (i:=2) (v:=?_) rfl Zk Zk Zk (λ_ _ _ h=>h) (Or.inl ⟨by rfl,?_⟩) Za ?_;rotate_left;(·intro u h;(try dsimp only at h);(try simp only[wad,wae,waf]);go_simp;try with_reducible rfl);try simp only[Act.put,wag,wah,wai,wad,wae,waf]
 refine wpAnyH_take (i:=3) (v:=?_) rfl Zk Zk Zk (λ_ _ _ h=>h) (Or.inl ⟨by rfl,?_⟩) Za ?_;rotate_left;(·intro u h;(try dsimp only at h);(try simp only[wad,wae,waf]);go_simp;try with_reducible rfl);try simp only[Act.put,wag,wah,wai,wad,wae,waf]
 refine wpAnyH_take (i:=4) (v:=?_) rfl Zk Zk Zk (λ_ _ _ h=>h) (Or.inl ⟨by rfl,?_⟩) Za ?_;rotate_left;(·intro u h;(try dsimp only at h);(try simp only[wad,wae,waf]);go_simp;try with_reducible rfl);try simp only[Act.put,wag,wah,wai,wad,wae,waf]
 refine wpAnyH_ready (rs:=[5]) Zk Zs ?_;refine AllReadyH.cons rfl (λK hK=>?_) AllReadyH.nil
 (try simp only[wad,wae,waf])
 go_simp
 have hBd:Below w2.heap.size w2 w2.drew:=(wac w2.heap.size w2).drew;refine(hmp.out _ (hB4.out.trans (hBd.mono hB4.out.size))).mono ?_;rintro e w3 ⟨v,rfl,hrow3,hB5⟩;obtain⟨B,d,rfl,hM⟩:=Rd.of_own hrow3;have hBa:Below w2.heap.size w2 w3:=hBd.trans (hB5.mono hBd.size);go_wp2_with fail;refine hK.out _ _ (⟨qac hBa x0,qac hBa x1,qac hBa x2⟩) (λhHeld2=>?_);clear hK K hHeld;have hHeld:=hHeld2;clear hHeld2;try simp only[Act.put,wag,wah,wai,wad,wae,waf]
 refine wpAnyH_ready (rs:=[6]) Zk Zs ?_;refine AllReadyH.cons rfl (λK hK=>?_) AllReadyH.nil
 (try simp only[wad,wae,waf])
 go_simp
 refine(hnw.out _ hBa B d hM).mono ?_;rintro e w4 ⟨p,F,rfl,hHp,hFb,hB6⟩;have hBc:Below w2.heap.size w2 w4:=hBa.trans (hB6.mono hBa.size);obtain⟨d0,d1,d2,df⟩:=(hgi3.out.below hBc hgi3.out.lt).cells;go_wp2_with fail;refine hK.out _ _ (⟨qac hBc x0,qac hBc x1,qac hBc x2⟩) (λhHeld2=>?_);clear hK K hHeld;have hHeld:=hHeld2;clear hHeld2;try simp only[Act.put,wag,wah,wai,wad,wae,waf]
 refine wpAnyH_ready (rs:=[7]) Zk Zs ?_;refine AllReadyH.cons rfl (λK hK=>?_) AllReadyH.nil
 (try simp only[wad,wae,waf])
 go_simp
 refine hK.out _ _ (⟨qbc (qbc (qbc (qac hBc x0) (by show z5≠w.heap.size;omega)) (by show z5≠w.heap.size;omega)) (by show z5≠w.heap.size;omega),qbc (qbc (qbc (qac hBc x1) (by show z5≠w.heap.size;omega)) (by show z5≠w.heap.size;omega)) (by show z5≠w.heap.size;omega),qbc (qbc (qbc (qac hBc x2) (by show z5≠w.heap.size;omega)) (by show z5≠w.heap.size;omega)) (by show z5≠w.heap.size;omega)⟩) (λhHeld2=>?_);clear hK K hHeld;have hHeld:=hHeld2;clear hHeld2;try simp only[Act.put,wag,wah,wai,wad,wae,waf]
 refine wpAnyH_take (i:=8) (v:=?_) rfl Zk Zk Zk (λ_ _ _ h=>h) (Or.inl ⟨by rfl,?_⟩) Za ?_;rotate_left;(·intro u h;(try dsimp only at h);(try simp only[wad,wae,waf]);go_simp;try with_reducible rfl);try simp only[Act.put,wag,wah,wai,wad,wae,waf]
 refine wpAnyH_take (i:=9) (v:=?_) rfl Zk Zk Zk (λ_ _ _ h=>h) (Or.inl ⟨by rfl,?_⟩) Za ?_;rotate_left;(·intro u h;(try dsimp only at h);(try simp only[wad,wae,waf]);go_simp;try with_reducible rfl);try simp only[Act.put,wag,wah,wai,wad,wae,waf]
 refine wpAnyH_done Zk ?_ _;have hu:Upd (λk=>k=w.heap.size) w4 (((w4.setCell ⟨w.heap.size,0,none⟩ (.int .i64 (S:Int))).setCell ⟨w.heap.size,1,none⟩ (.int .i64 (L:Int))).setCell ⟨w.heap.size,2,none⟩ (.int .i64 r)):=(((Upd.refl (λk=>k=w.heap.size) w4).setCell (p:=⟨w.heap.size,0,none⟩) (.inl rfl) _).setCell (p:=⟨w.heap.size,1,none⟩) (.inl rfl) _).setCell (p:=⟨w.heap.size,2,none⟩) (.inl rfl) _;have hz:w.heap.size<w3.heap.size:=waw hgi3.out.lt hBa.size;have hHp2:Hp (((w4.setCell ⟨w.heap.size,0,none⟩ (.int .i64 (S:Int))).setCell ⟨w.heap.size,1,none⟩ (.int .i64 (L:Int))).setCell ⟨w.heap.size,2,none⟩ (.int .i64 r)) w3.heap.size p S L r hs (newR S L r hs ms S) F:=by
  obtain⟨gh,gc,hc,cc,rv,h⟩:=hHp;exact⟨gh,gc,hc,cc,rv,h.upd hu (λk hk e=>absurd (hFb k hk) (by rw[show k=w.heap.size from e];omega))⟩
 have hBz:Below w.heap.size w (((w4.setCell ⟨w.heap.size,0,none⟩ (.int .i64 (S:Int))).setCell ⟨w.heap.size,1,none⟩ (.int .i64 (L:Int))).setCell ⟨w.heap.size,2,none⟩ (.int .i64 r)):=(hB4.out.trans (hBc.mono hB4.out.size)).trans (hu.below (λk e=>wc3 (show w.heap.size=k from(show k=w.heap.size from e).symm)) (wap hB4.out.size hBc.size));have hsz:w3.heap.size<=((((w4.setCell ⟨w.heap.size,0,none⟩ (.int .i64 (S:Int))).setCell ⟨w.heap.size,1,none⟩ (.int .i64 (L:Int))).setCell ⟨w.heap.size,2,none⟩ (.int .i64 r))).heap.size:=wap hB6.size hu.size;replace hHp2:=waa hHp2;replace hBz:=waa hBz;replace hsz:=waa hsz;have hb4:w4.heap[w.heap.size]? =some (.cells #[.int .i64 0,.int .i64 0,.int .i64 0] 23 (0,0)):=hgi3.out.below hBc hgi3.out.lt;have hb5:=qah (qah (qah hb4 0 (.int .i64 (S:Int))) 1 (.int .i64 (L:Int))) 2 (.int .i64 r);have g0:((((w4.setCell ⟨w.heap.size,0,none⟩ (.int .i64 (S:Int))).setCell ⟨w.heap.size,1,none⟩ (.int .i64 (L:Int))).setCell ⟨w.heap.size,2,none⟩ (.int .i64 r))).cell? ⟨w.heap.size,0,none⟩=some (.int .i64 (S:Int)):=by rw[qaa hb5];rfl
 have g1:((((w4.setCell ⟨w.heap.size,0,none⟩ (.int .i64 (S:Int))).setCell ⟨w.heap.size,1,none⟩ (.int .i64 (L:Int))).setCell ⟨w.heap.size,2,none⟩ (.int .i64 r))).cell? ⟨w.heap.size,1,none⟩=some (.int .i64 (L:Int)):=by rw[qaa hb5];rfl
 have g2:((((w4.setCell ⟨w.heap.size,0,none⟩ (.int .i64 (S:Int))).setCell ⟨w.heap.size,1,none⟩ (.int .i64 (L:Int))).setCell ⟨w.heap.size,2,none⟩ (.int .i64 r))).cell? ⟨w.heap.size,2,none⟩=some (.int .i64 r):=by rw[qaa hb5];rfl
 clear hb4 hb5;clear hHp hFb hB6 hu hgi3 hmp hnw hM hrow3 hB5 hBa hBc hHeld hgx2;generalize (((w4.setCell ⟨w.heap.size,0,none⟩ (.int .i64 (S:Int))).setCell ⟨w.heap.size,1,none⟩ (.int .i64 (L:Int))).setCell ⟨w.heap.size,2,none⟩ (.int .i64 r))=W9 at g0 g1 g2 hHp2 hBz hsz ⊢;go_wp2_with fail;exact bodyPost_ret (v:= .tuple #[.agg #[.int .i64 (S:Int),.int .i64 (L:Int),.int .i64 r],.pointer (some ⟨p,0,none⟩),.int .i64 0]) (by simp[results,Tryz.results31,go_sem,g0,g1,g2]) rfl ⟨p,F,w3.heap.size,rfl,hHp2.out,wbb hz,hsz.out,hBz.out⟩
theorem q84(hr:Rd w A ws.length (u64V ws))(hcap:ws.length<=cap)(hl:ws.length<=2000)(hlt:∀y∈ws,y<18446744073709551616)(h:¬∃s l r hs,Hit ws s l r/\qa3 s l r ws=some hs):
  Calls Tryz.prog 31 #[.slice A ws.length cap] w λe w'=>e= .returned (.tuple #[.agg #[.int .i64 0,.int .i64 0,.int .i64 0],.pointer none,.int .i64 11])/\Below w.heap.size w w':=by
 have hg0:=waa (Gi.new w 0 0 0);have hB0:=waa (qa7 w 0 0 0);by_cases hh:∃s l r,Hit ws s l r
 ·obtain⟨s,l,r,hh⟩:=hh
  have hho:qa3 s l r ws=none:=by
   cases he:qa3 s l r ws with
   |none=>rfl
   |some hs=>exact absurd ⟨s,l,r,hs,hh,he⟩ h
  have hge:=waa (λ(V:World) (hW:Below w.heap.size w V)=>show Calls Tryz.prog 53 #[.slice A ws.length cap] V λe w'=>e= .returned (.tuple #[.agg #[.int .i64 s,.int .i64 l,.int .i64 r],.int .i64 0])/\Below V.heap.size V w' from(qec A cap ws V (hr.below hW) hcap Zo hlt).mono λe w' ⟨h1,h2⟩=>⟨h1.is hh,h2⟩);have hhe:=waa (λ(V:World) (hW:Below w.heap.size w V)=>show Calls Tryz.prog 54 #[.agg #[.int .i64 s,.int .i64 l,.int .i64 r],.slice A ws.length cap] V λe w'=>e= .returned (.tuple #[.slice none 0 0,.int .i64 11])/\Below V.heap.size V w' from
   (qfh s l r A cap ws V (hr.below hW) Zo hlt).mono λe w' ⟨h1,h2⟩=>⟨by
    rw[hho] at h1;exact h1,h2⟩)
  generalize ws.length=n at hge hhe ⊢;clear hr hh h hlt hl hcap hho;go_enter Tryz.func31,Tryz.ntmps31;go_wp2_with fail;refine(hge.out _ hB0.out).mono ?_;rintro e w1 ⟨rfl,hB1⟩;have hgi1:=waa (hg0.out.below hB1 hg0.out.lt);replace hB1:=waa (hB0.out.trans (hB1.mono hB0.out.size));have hBx:Below w1.heap.size w1 (w1.alloc (.cells #[.int .i64 s,.int .i64 l,.int .i64 r] 23)):=(wac _ w1).alloc (wab _) _;have hgx:=Gi.new w1 s l r;have hgi2:=waa (hgi1.out.below hBx hgi1.out.lt);have hB2:=waa (hB1.out.trans (hBx.mono hB1.out.size));obtain⟨x0,x1,x2,-⟩:=hgx.cells;clear hge hg0 hB0 hgi1 hB1 hBx hgx;go_wp2_with fail;refine(hhe.out _ hB2.out).mono ?_;rintro e w2 ⟨rfl,hB3⟩;obtain⟨d0,d1,d2,df⟩:=(hgi2.out.below hB3 hgi2.out.lt).cells;have hB4:=waa (hB2.out.trans (hB3.mono hB2.out.size));clear hhe hB3 hgi2 hB2 x0 x1 x2;go_wp2_with fail;exact bodyPost_ret (v:= .tuple #[.agg #[.int .i64 0,.int .i64 0,.int .i64 0],.pointer none,.int .i64 11]) (by simp[results,Tryz.results31,go_sem,d0,d1,d2]) rfl ⟨rfl,by(iterate 3 refine wa7 ?_ Zs _);exact hB4.out⟩
 ·have hge:=waa (λ(V:World) (hW:Below w.heap.size w V)=>show Calls Tryz.prog 53 #[.slice A ws.length cap] V λe w'=>e= .returned (.tuple #[.agg #[.int .i64 0,.int .i64 0,.int .i64 0],.int .i64 11])/\Below V.heap.size V w' from(qec A cap ws V (hr.below hW) hcap Zo hlt).mono λe w' ⟨h1,h2⟩=>⟨h1.no (λs l r hq=>hh ⟨s,l,r,hq⟩),h2⟩)
  generalize ws.length=n at hge ⊢;clear hr hh h hlt hl hcap;go_enter Tryz.func31,Tryz.ntmps31;go_wp2_with fail;refine(hge.out _ hB0.out).mono ?_;rintro e w1 ⟨rfl,hB1⟩;have hBx:Below w1.heap.size w1 (w1.alloc (.cells #[.int .i64 0,.int .i64 0,.int .i64 0] 23)):=(wac _ w1).alloc (wab _) _;have hgi1:=hg0.out.below hB1 hg0.out.lt;obtain⟨d0,d1,d2,df⟩:=(hgi1.below hBx hgi1.lt).cells;replace hB1:=waa (hB0.out.trans (hB1.mono hB0.out.size));replace hB1:=waa (hB1.out.trans (hBx.mono hB1.out.size));clear hge hg0 hB0 hgi1 hBx;go_wp2_with fail;exact bodyPost_ret (v:= .tuple #[.agg #[.int .i64 0,.int .i64 0,.int .i64 0],.pointer none,.int .i64 11]) (by simp[results,Tryz.results31,go_sem,d0,d1,d2]) rfl ⟨rfl,by(iterate 3 refine wa7 ?_ Zs _);first|exact hB1.out|exact hB1.out.alloc Zs _|exact(hB1.out.alloc hB1.out.size _)⟩
end
def R18(V:World)(base p s L:Nat)(r:Int)(hs:List (Int×Int×Int))(rv:Nat->Value)(rx:Nat->List Int):Prop:=
 (∃(gh hcp:Nat) (cv:Value),V.heap[p]? =some (.cells (hpC rv (s:Int) (L:Int) r (.slice (some ⟨gh,0,none⟩) s hcp) cv) 79 (0,0))/\V.ownsRow base 82 3 (.slice (some ⟨gh,0,none⟩) s hcp) s (hV hs))/\
  (∀c,c<4->RowI V base (rv c) (rx c))/\(∀i j,i<4->j<4->i≠j->∀g,(rv i).ownBlock=some g->(rv j).ownBlock≠some g)/\base<=p
section
variable {V V':World} {base p s L:Nat} {r:Int} {hs:List (Int×Int×Int)} {rv:Nat->Value} {rx:Nat->List Int}
theorem q5v{b g:Nat}{C:Array Value}{t:TypeId}{fr:Nat×Nat}{v:Value}{X:List Int}(h:V.heap[b]? =some (.cells C t fr))(ht:t≠3)(hr:RowI V base v X):v.ownBlock≠some b:=by
 intro e;rcases hr with ⟨rfl,-⟩|⟨g,cap,cur,rfl,-,hh,-⟩
 ·cases e
 ·injection e with e
  subst e;rw[h] at hh;injection hh with hh;injection hh with _ hh;exact ht hh
theorem R18.below(h:R18 V base p s L r hs rv rx)(hB:Below V.heap.size V V'):R18 V' base p s L r hs rv rx:=by
 obtain⟨⟨gh,hcp,cv,h1,h2⟩,h3,h4,h5⟩:=h;exact⟨⟨gh,hcp,cv,(hB.block p (wal.1 h1).1).trans h1,qaf h2 hB⟩,λc hc=>(h3 c hc).below hB,h4,h5⟩
theorem R18.put(h:R18 V base p s L r hs rv rx){c:Nat}(hc:c<4){gh hcp:Nat}{cv u:Value}{X:List Int}(h1:V.heap[p]? =some (.cells (hpC rv (s:Int) (L:Int) r (.slice (some ⟨gh,0,none⟩) s hcp) cv) 79 (0,0))){G:Nat->Prop}(hu:Upd G V V')(hG:∀k,G k->k=p\/(rv c).ownBlock=some k)(hp:V'.heap[p]? =some (.cells ((hpC rv (s:Int) (L:Int) r (.slice (some ⟨gh,0,none⟩) s hcp) cv).setIfInBounds (4+c) u) 79 (0,0)))(hr:RowI V' base u X)(ho:u.ownBlock=(rv c).ownBlock\/∃g,u.ownBlock=some g/\V.heap.size<=g):R18 V' base p s L r hs (upV rv c u) (upV rx c X):=by
 obtain⟨⟨gh',hcp',cv',h1',h2⟩,h3,h4,h5⟩:=h;obtain⟨rfl,rfl⟩:gh'=gh/\hcp'=hcp:=by
  rw[h1] at h1';injection h1' with e;injection e with e;have e3:(hpC rv (s:Int) (L:Int) r (.slice (some ⟨gh,0,none⟩) s hcp) cv)[3]? =(hpC rv (s:Int) (L:Int) r (.slice (some ⟨gh',0,none⟩) s hcp') cv')[3]?:=by rw[e]
  have e4:some (Value.slice (some ⟨gh,0,none⟩) s hcp)=some (Value.slice (some ⟨gh',0,none⟩) s hcp'):=e3;injection e4 with e4;injection e4 with e5 _ e6;injection e5 with e5;injection e5 with e5;exact⟨e5.symm,e6.symm⟩
 rw[qwp hc] at hp;have hghb:∀k,(Value.slice (some ⟨gh',0,none⟩) s hcp').ownBlock=some k->¬G k:=λk hk hg=>by
  rcases hG k hg with e|e
  ·subst e
   exact qaz h1 Zd h2 hk.symm
  ·rcases h3 c hc with ⟨e0,-⟩|⟨g,cap,cur,e0,-,hh,-⟩
   ·rw[e0] at e;cases e
   ·rw[e0] at e
    injection e with e;subst e;exact qaz hh Zd h2 hk.symm
 refine⟨⟨gh',hcp',cv,hp,qde h2 hu hghb⟩,λi hi=>?_,λi j hi hj hij g hg hg2=>?_,h5⟩
 ·by_cases hic:i=c
  ·subst hic
   rw[qha,qha];exact hr
  ·rw[qcj _ _ hic,qcj _ _ hic]
   refine(h3 i hi).upd hu (λg hg hk=>?_);rcases hG g hk with e|e
   ·subst e
    exact q5v (g:=0) h1 Zd (h3 i hi) hg
   ·exact h4 i c hi hc hic g hg e
 ·have key:∀a b,a<4->a≠b->b=c->(upV rv c u a).ownBlock=some g->(upV rv c u b).ownBlock=some g->False:=λa b ha hab hb e1 e2=>by
   subst hb;rw[qcj _ _ hab] at e1;rw[qha] at e2;rcases ho with e|⟨g2,e,hg2⟩
   ·exact h4 a b ha hc hab g e1 (by rw[<-e];exact e2)
   ·rw[e2] at e
    injection e with e;have:=((h3 a ha).lt g e1).2
    omega
  by_cases hjc:j=c
  ·exact key i j hi hij hjc hg hg2
  ·by_cases hic:i=c
   ·exact key j i hj (λe=>hij e.symm) hic hg2 hg
   ·rw[qcj _ _ hic] at hg
    rw[qcj _ _ hjc] at hg2;exact h4 i j hi hj hij g hg hg2
theorem R18.made{gh hcp:Nat}{cv:Value}(h1:V.heap[p]? =some (.cells (hpC (λ_=> .slice none 0 0) (s:Int) (L:Int) r (.slice (some ⟨gh,0,none⟩) s hcp) cv) 79 (0,0)))(h2:V.ownsRow base 82 3 (.slice (some ⟨gh,0,none⟩) s hcp) s (hV hs))(h3:base<=p):R18 V base p s L r hs (λ_=> .slice none 0 0) (λ_=>[]):=
 ⟨⟨gh,hcp,cv,h1,h2⟩,λc _=>RowI.nil _ _,λi j _ _ _ g e=>(by cases e),h3⟩
end
def rfB(hs:List (Int×Int×Int))(ms:List Nat)(c:Nat)(b:BL):List Int:=
 if((hs[b.2.1.toNat]?).getD (0,0,0)).1=1/\hasB (ms.getD b.2.1.toNat 0) b.2.2.1=false/\((hs[b.2.1.toNat]?).getD (0,0,0)).2.1.toNat=c then[b.1] else[]
def rfS(hs:List (Int×Int×Int))(ms:List Nat)(bs:List BL)(c:Nat):List Int:=bs.flatMap (rfB hs ms c)
theorem qaap(hs:List (Int×Int×Int))(ms:List Nat):rfS hs ms []=λ_=>[]:=rfl
theorem qtz(hs:List (Int×Int×Int))(ms:List Nat)(bs:List BL)(b:BL)(c:Nat):rfS hs ms (bs++[b]) c=rfS hs ms bs c++rfB hs ms c b:=by
 unfold rfS;rw[we2];simp
theorem qti{hs:List (Int×Int×Int)}{ms:List Nat}{bs:List BL}{b:BL}(h:¬(((hs[b.2.1.toNat]?).getD (0,0,0)).1=1/\hasB (ms.getD b.2.1.toNat 0) b.2.2.1=false)):rfS hs ms (bs++[b])=rfS hs ms bs:=by
 funext c
 rw[qtz];unfold rfB;rw[if_neg (λe=>h ⟨e.1,e.2.1⟩),wbl]
theorem qwi{hs:List (Int×Int×Int)}{ms:List Nat}{bs:List BL}{b:BL}{C:Nat}(h1:((hs[b.2.1.toNat]?).getD (0,0,0)).1=1)(h2:hasB (ms.getD b.2.1.toNat 0) b.2.2.1=false)(h3:((hs[b.2.1.toNat]?).getD (0,0,0)).2.1.toNat=C):rfS hs ms (bs++[b])=upV (rfS hs ms bs) C (rfS hs ms bs C++[b.1]):=by
 funext c
 rw[qtz];unfold rfB upV;by_cases hc:c=C
 ·subst hc
  rw[if_pos ⟨h1,h2,h3⟩,if_pos rfl]
 ·rw[if_neg (λe=>hc (by rw[<-e.2.2,h3])),if_neg hc,wbl]
theorem qw5{hs:List (Int×Int×Int)}{ms:List Nat}(c:Nat):∀bs:List BL,(rfS hs ms bs c).length<=bs.length
 |[]=>by simp[rfS]
 |b::t=>by
  have ih:=qw5 (hs:=hs) (ms:=ms) c t;unfold rfS at ih ⊢;rw[wc7,was,way];have:(rfB hs ms c b).length<=1:=by unfold rfB;split<;>simp
  omega
theorem qlp{α β:Type}{f g:α->List β}:∀{A:List α},(∀a∈A,f a=g a)->A.flatMap f=A.flatMap g
 |[],_=>rfl
 |a::A,h=>by rw[wc7,wc7,h a Zs,qlp (λb hb=>h b (by simp[hb]))]
theorem qabu{s L:Nat}{r:Int}{hs:List (Int×Int×Int)}{ms:List Nat}(hd:hdsB (s:Int) (L:Int) r hs=true)(hl:hs.length=s):rfS hs ms (qbd (s:Int) (L:Int) r hs)=newR s L r hs ms s:=by
 funext c
 rw[qd9 hd,hl];unfold rfS qas newR;rw[List.flatMap_assoc];congr 1
 funext k
 by_cases hk:k<s
 ·obtain⟨x,hx⟩:∃x,hs[k]? =some x:=⟨_,waj Zo⟩
  have hdo:hdOf hs (k:Int)=x:=by
   unfold hdOf;rw[if_pos Zo,wam,hx];rfl
  rw[hdo];by_cases h1:x.1=1
  ·have hw:whoB hs k=true:=qgo (by obtain⟨a1,a2⟩:=wan.1 hx;rw[<-a2];exact wbc a1) h1
   have hb:blkL s L r hs (k:Int)=qdm (qby s L r k) (szN x.2.1) (bkN x.2.1).toNat:=by
    unfold blkL;rw[hdo,if_pos h1]
   have hnb:adNb x=bkN x.2.1:=by unfold adNb;rw[if_neg Zo]
   have hwd:adWd x=szN x.2.1:=by unfold adWd;rw[if_neg Zo]
   rw[qfn hw hx,hb,hnb,hwd,qhf];unfold frI bls;have hmem:∀i,i<(bkN x.2.1).toNat->(qdm (qby s L r k) (szN x.2.1) (bkN x.2.1).toNat)[i]? =some (qby s L r k+(i:Int)*szN x.2.1):=λi hi=>by
    unfold qdm;rw[wa1,wdi hi];rfl
   rw[List.flatMap_map];by_cases hcl:x.2.1.toNat=c
   ·rw[if_pos hcl]
    refine qlp (λi hi=>?_);rw[hmem i (wcc.1 hi)];unfold rfB;simp only[wam,hx,wa8,h1,hcl,true_and,and_true,we9];cases hasB (ms.getD k 0) (i:Int)<;>simp
   ·rw[if_neg hcl]
    rw[List.flatMap_eq_nil_iff];intro i hi;unfold rfB;simp only[wam,hx,wa8];rw[if_neg (λe=>hcl e.2.2)]
  ·have hb:blkL s L r hs (k:Int)=[]:=by
    unfold blkL;rw[hdo,if_neg h1]
   rw[hb];have e0:frI [] (ms.getD k 0) ([]:List Int).length=[]:=rfl;rw[e0,ite_self];rw[List.flatMap_eq_nil_iff];intro b hbm;obtain⟨h,hx2,-,i,-,rfl⟩:=qgm hbm;rw[hx] at hx2;injection hx2 with hx2;subst hx2;unfold rfB;simp only[wam,hx,wa8];rw[if_neg (λe=>h1 e.1)]
 ·have hb:blkL s L r hs (k:Int)=[]:=by
   unfold blkL;have hdo:hdOf hs (k:Int)=(0,0,0):=by
    unfold hdOf;rw[if_neg Zo]
   rw[hdo,if_neg Zd]
  have hn:qc6 (s:Int) (L:Int) r hs k=[]:=qhk (qsr Zo);rw[hb,hn];have e0:frI [] (ms.getD k 0) ([]:List Int).length=[]:=rfl;rw[e0,ite_self];rfl
end Go.Proofs.YtocncmbeinmiaaaGreat
