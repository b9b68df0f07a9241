/- Parts. No condition. -/
import Derived.Test.YtocncmbeinmiaaaGreatJoinU24
set_option linter.unusedVariables false
set_option maxRecDepth 100000
set_option maxHeartbeats 8000000
namespace Go.Proofs.YtocncmbeinmiaaaGreat
open Go Go.RowKit Go.Shelf
attribute [local go_sem] wcy
def IRepE(B:Nat)(o:Option (List Nat))(e:Ending)(w':World):Prop:=match o with
 |none=>e= .returned (.tuple #[.slice none 0 0,.int .i64 11])
 |some L=>∃v,e= .returned (.tuple #[v,.int .i64 0])/\w'.ownsRow B 27 1 v L.length (u64V L)
theorem IRepE.no{o:Option (List Nat)}(h:o=none)(B:Nat)(w':World):IRepE B o (.returned (.tuple #[.slice none 0 0,.int .i64 11])) w':=by rw[h];exact rfl
theorem IRepE.yes{o:Option (List Nat)}{L:List Nat}{B:Nat}{w':World}{v:Value}(h:o=some L)(hr:w'.ownsRow B 27 1 v L.length (u64V L)):IRepE B o (.returned (.tuple #[v,.int .i64 0])) w':=by rw[h];exact⟨v,rfl,hr⟩
theorem qtq(A:Option Addr)(cap:Nat)(ws:List Nat)(w:World)(hr:Rd w A ws.length (u64V ws))(hcap:ws.length<=cap)(hl:ws.length<=9223372036854775807)(hlt:∀x∈ws,x<18446744073709551616)(hh:∀s l r,¬Hit ws s l r):
  Calls Tryz.prog 160 #[.slice A ws.length cap] w λe w'=>IRepE w.heap.size none e w'/\Below w.heap.size w w':=by
 have hs:=waa (λV (hV:Below w.heap.size w V)=>(qec A cap ws V (hr.below hV) hcap hl hlt).mono λe w' ⟨h1,h2⟩=>(⟨h1.no hh,h2⟩:e=Ending.returned (.tuple #[.agg #[.int .i64 0,.int .i64 0,.int .i64 0],.int .i64 11])/\Below V.heap.size V w'));have hB0:=((wac w.heap.size w).alloc (wab _) (.cells #[.slice none 0 0] 40)).alloc Zs (.cells #[.int .i64 0] 36);have hx0:Boxed ((w.alloc (.cells #[.slice none 0 0] 40)).alloc (.cells #[.int .i64 0] 36)) w.heap.size 40 (.slice none 0 0):=qag (qan rfl _ _) _;have hy0:Boxed ((w.alloc (.cells #[.slice none 0 0] 40)).alloc (.cells #[.int .i64 0] 36)) (w.heap.size+1) 36 (.int .i64 0):=qan Zs _ _;clear hr hh;refine(callsIn_wide (n:=5)).1 ?_;refine callsIn_of_wp_marks Tryz.func160 rfl trivial ?_ rfl;simp only[Tryz.ntmps160,wbj,way,wbq,Nat.reduceAdd,Nat.reduceSub,wci,wcj,wck,wcl,wba,wcb];gi_wp2_with fail
 generalize (w.alloc (.cells #[.slice none 0 0] 40)).alloc (.cells #[.int .i64 0] 36)=W1 at hB0 hx0 hy0 ⊢;refine⟨trivial,(callsIn_wide.2 (hs.out _ hB0)).mono ?_⟩;rintro e w1 ⟨rfl,hB⟩;have hB1:=(hB0.trans (hB.mono hB0.size)).alloc (hB0.trans (hB.mono hB0.size)).size (.cells #[.int .i64 0,.int .i64 0,.int .i64 0] 23);have hx1:Boxed (w1.alloc (.cells #[.int .i64 0,.int .i64 0,.int .i64 0] 23)) w.heap.size 40 (.slice none 0 0):=qag (qao hx0 hB hx0.lt) _;have hy1:Boxed (w1.alloc (.cells #[.int .i64 0,.int .i64 0,.int .i64 0] 23)) (w.heap.size+1) 36 (.int .i64 0):=qag (qao hy0 hB hy0.lt) _;generalize hW:w1.alloc (.cells #[.int .i64 0,.int .i64 0,.int .i64 0] 23)=W2 at hB1 hx1 hy1;have hx2:=hx1.cell;have hx3:=hx1.frozen;have hy2:=hy1.cell;have hy3:=hy1.frozen;have hx4:=hx1.set (.slice none 0 0);have hy4:Boxed (W2.setCell ⟨w.heap.size,0,none⟩ (.slice none 0 0)) (w.heap.size+1) 36 (.int .i64 0):=(wat _ _ _ _ (show w.heap.size+1≠w.heap.size by omega)).trans hy1;have hy5:=hy4.set (.int .i64 11);have hx5:Boxed ((W2.setCell ⟨w.heap.size,0,none⟩ (.slice none 0 0)).setCell ⟨w.heap.size+1,0,none⟩ (.int .i64 11)) w.heap.size 40 (.slice none 0 0):=(wat _ _ _ _ (show w.heap.size≠w.heap.size+1 by omega)).trans hx4;have e1:=hx5.cell;have e2:=hy5.cell;have hB5:=(hB1.setCell (p:=⟨w.heap.size,0,none⟩) (wab _) (.slice none 0 0)).setCell (p:=⟨w.heap.size+1,0,none⟩) (by show w.heap.size<=w.heap.size+1;omega) (.int .i64 11);rw[<-hW] at hx2 hx3 hy2 hy3 e1 e2 hB5;clear hx4 hy4 hy5 hx5 hx1 hy1 hB1 hW hB hB0 hx0 hy0;gi_wp2_with fail
 refine⟨.tuple #[.slice none 0 0,.int .i64 11],by simp[results,Tryz.f160,go_sem,e1,e2],IRepE.no rfl _ _,hB5⟩
def RepSt(w W:World)(b2 b3 b4 b6 g n c2:Nat)(s l r:Int)(o:List Nat):Prop:=W.ownsRow w.heap.size 27 1 (.slice (some ⟨g,0,none⟩) n c2) n (u64V o)/\Boxed W b6 40 (.slice (some ⟨g,0,none⟩) n c2)/\Boxed W b2 40 (.slice none 0 0)/\Boxed W b3 36 (.int .i64 0)/\Gi W b4 s l r
section
variable {w W W':World} {b2 b3 b4 b6 g n c2:Nat} {s l r:Int} {o:List Nat}
theorem RepSt.below(h:RepSt w W b2 b3 b4 b6 g n c2 s l r o)(hb:Below W.heap.size W W'):RepSt w W' b2 b3 b4 b6 g n c2 s l r o:=
 ⟨qaf h.1 hb,qao h.2.1 hb h.2.1.lt,qao h.2.2.1 hb h.2.2.1.lt,qao h.2.2.2.1 hb h.2.2.2.1.lt,qao h.2.2.2.2 hb h.2.2.2.2.lt⟩
theorem RepSt.turn{L:Nat}{ob:Obj}(o':Obj)(h:RepSt w W b2 b3 b4 b6 g n c2 s l r o)(hl:W.heap[L]? =some ob)(ho:ob.isCells=false):RepSt w (W.putObj L o') b2 b3 b4 b6 g n c2 s l r o:=
 ⟨ownsRow_putObj h.1 o' hl ho,qbx h.2.1 hl ho,qbx h.2.2.1 hl ho,qbx h.2.2.2.1 hl ho,qbx h.2.2.2.2 hl ho⟩
theorem RepSt.len(h:RepSt w W b2 b3 b4 b6 g n c2 s l r o):o.length=n:=by have:=h.1.1;rw[qai] at this;omega
theorem RepSt.apart(h:RepSt w W b2 b3 b4 b6 g n c2 s l r o){b:Nat}{C:Array Value}{t:TypeId}{fr:Nat×Nat}(hb:W.heap[b]? =some (.cells C t fr))(hne:t≠27):b≠g:=λe=>qaz hb hne h.1 (by rw[e];rfl)
theorem RepSt.store(h:RepSt w W b2 b3 b4 b6 g n c2 s l r o)(i x:Nat):RepSt w (W.setCell ⟨g,i,none⟩ (.int .u64 (x:Int))) b2 b3 b4 b6 g n c2 s l r (o.set i x):=by
 have hst:=(h.1.stored i (.int .u64 (x:Int))).1;rw[qfw] at hst;exact⟨hst,(wat _ _ _ _ (h.apart h.2.1 Zd)).trans h.2.1,(wat _ _ _ _ (h.apart h.2.2.1 Zd)).trans h.2.2.1,(wat _ _ _ _ (h.apart h.2.2.2.1 Zd)).trans h.2.2.2.1,(wat _ _ _ _ (h.apart h.2.2.2.2 Zd)).trans h.2.2.2.2⟩
theorem RepSt.at_(h:RepSt w W b2 b3 b4 b6 g n c2 s l r o){i:Nat}(hi:i<n):(∃u,W.cell? ⟨g,i,none⟩=some u)/\W.frozen? ⟨g,i,none⟩=false/\w.heap.size<=g:=
 ⟨by rw[h.1.cellAt i Zo];exact⟨_,waj (by rw[qai,h.len];exact hi)⟩,h.1.frozenAt i,qd5 h.1⟩
theorem CapL.other{W:World}{bg bw g:Nat}{v:Value}{i:Nat}{u:Value}(h:CapL W bg bw s l r v)(h1:bg≠g)(h2:bw≠g):CapL (W.setCell ⟨g,i,none⟩ u) bg bw s l r v:=⟨(wat _ _ _ _ h1).trans h.1,(wat _ _ _ _ h2).trans h.2⟩
theorem CapL.turn{W:World}{bg bw L:Nat}{v:Value}{ob:Obj}(o':Obj)(h:CapL W bg bw s l r v)(hl:W.heap[L]? =some ob)(ho:ob.isCells=false):CapL (W.putObj L o') bg bw s l r v:=⟨qbx h.1 hl ho,qbx h.2 hl ho⟩
end
theorem qjo(s l r:Int)(A:Option Addr)(cap:Nat)(ws:List Nat)(w:World)(hr:Rd w A ws.length (u64V ws))(hcap:ws.length<=cap)(hlt:∀x∈ws,x<18446744073709551616)(hh:Hit ws s l r):
  Calls Tryz.prog 160 #[.slice A ws.length cap] w λe w'=>IRepE w.heap.size (repF s l r ws l.toNat) e w'/\Below w.heap.size w w':=by
 have hf:fitB s l r ws.length=true:=fitB_iff.2 ⟨hh.1,hh.2.1⟩;have hbd:=qaw hf;have hs:=waa (λV (hV:Below w.heap.size w V)=>(qec A cap ws V (hr.below hV) hcap Zo hlt).mono λe w' ⟨h1,h2⟩=>(⟨h1.is hh,h2⟩:e=Ending.returned (.tuple #[.agg #[.int .i64 s,.int .i64 l,.int .i64 r],.int .i64 0])/\Below V.heap.size V w'));obtain⟨p,rfl,-⟩:=qa6 hr (show ws[0]? =some _ from waj Zo);obtain⟨n,hn⟩:∃n,ws.length=n:=⟨_,rfl⟩
 obtain⟨m,hm⟩:∃m:Nat,l=(m:Int):=⟨l.toNat,Zo⟩
 subst hm;have hn2:128<=n/\n<=1328:=Zo
 have hm4:m<=4:=Zo
 have hlanes:16+40*m<=n:=Zo
 have hcl:=waa (λV (hV:Below w.heap.size w V)=>qhu p n cap ws V (by have:=hr.below hV;rwa [hn] at this) hn Zo Zo Zo);have hmk:=waa (λV=>qys s (m:Int) r (some p) n cap V);have hln:=waa (λ(t:Nat) (ht:t<m) (V:World)=>show Calls Tryz.prog 108 #[.agg #[.int .i64 s,.int .i64 (m:Int),.int .i64 r],.int .i64 (t:Int)] V λe w'=>e= .returned (.int .i64 ((16+40*t:Nat):Int))/\Below V.heap.size V w' from by
  have:=qfx s (m:Int) r (t:Int) V
  rw[show qbl s (m:Int) r (t:Int)=((16+40*t:Nat):Int) from(if_pos ⟨hh.1,Zo,Zo⟩).trans Zo] at this;exact this)
 have hmy:=waa (λ(a:Int) (h0:0<=a) (h1:a<=16383) V=>qty s (m:Int) r a V Zo Zo);have hin:=waa (λ(a:Int) (h:qbj s (m:Int) r a=true)=>show 0<=a/\a<(n:Int) from by have:=imay_iff.1 h;omega);have hrK:=waa hr;rw[hn] at hs ⊢;rw[wam];have hB0:=((wac w.heap.size w).alloc (wab _) (.cells #[.slice none 0 0] 40)).alloc Zs (.cells #[.int .i64 0] 36);have hx0:Boxed ((w.alloc (.cells #[.slice none 0 0] 40)).alloc (.cells #[.int .i64 0] 36)) w.heap.size 40 (.slice none 0 0):=qag (qan rfl _ _) _;have hy0:Boxed ((w.alloc (.cells #[.slice none 0 0] 40)).alloc (.cells #[.int .i64 0] 36)) (w.heap.size+1) 36 (.int .i64 0):=qan Zs _ _;clear hr hh;refine(callsIn_wide (n:=5)).1 ?_;refine callsIn_of_wp_marks Tryz.func160 rfl trivial ?_ rfl;simp only[Tryz.ntmps160,wbj,way,wbq,Nat.reduceAdd,Nat.reduceSub,wci,wcj,wck,wcl,wba,wcb];gi_wp2_with fail
 generalize (w.alloc (.cells #[.slice none 0 0] 40)).alloc (.cells #[.int .i64 0] 36)=W1 at hB0 hx0 hy0 ⊢;refine⟨trivial,(callsIn_wide.2 (hs.out _ hB0)).mono ?_⟩;rintro e w1 ⟨rfl,hB⟩;have hBa:=(wac w1.heap.size w1).alloc (wab _) (.cells #[.int .i64 s,.int .i64 (m:Int),.int .i64 r] 23);have hB1:=(hB0.trans (hB.mono hB0.size)).trans (hBa.mono (hB0.trans (hB.mono hB0.size)).size);have hx1:=qag (qao hx0 hB hx0.lt) (.cells #[.int .i64 s,.int .i64 (m:Int),.int .i64 r] 23);have hy1:=qag (qao hy0 hB hy0.lt) (.cells #[.int .i64 s,.int .i64 (m:Int),.int .i64 r] 23);have hg1:=Gi.new w1 s (m:Int) r;clear hB hB0 hx0 hy0 hBa;generalize hb4:w1.heap.size=b4 at hg1;gi_wp2_with fail
 generalize (w1.alloc (.cells #[.int .i64 s,.int .i64 (m:Int),.int .i64 r] 23))=W2 at hB1 hx1 hy1 hg1 ⊢;refine⟨trivial,(callsIn_wide.2 (hcl.out _ hB1)).mono ?_⟩;rintro e w3 ⟨g,c2,rfl,hown,hC⟩;have hr3:=qax hown hB1.size;have hBb:=(wac w3.heap.size w3).alloc (wab _) (.cells #[.slice (some ⟨g,0,none⟩) n c2] 40);have hB3:=hB1.trans (hC.mono hB1.size);have hst:RepSt w (w3.alloc (.cells #[.slice (some ⟨g,0,none⟩) n c2] 40)) w.heap.size (w.heap.size+1) b4 w3.heap.size g n c2 s (m:Int) r ws:=
  ⟨qaf hr3 hBb,qan rfl _ _,qag (qao hx1 hC (wal.1 hx1).1) _,qag (qao hy1 hC (wal.1 hy1).1) _,qag (qao hg1 hC hg1.lt) _⟩
 have hB4:=hB3.trans (hBb.mono hB3.size);clear hown hC hr3 hBb hB1 hx1 hy1 hg1;obtain⟨c0,c1,c3,cf⟩:=hst.2.2.2.2.cells;gi_wp2_with fail
 generalize (w3.alloc (.cells #[.slice (some ⟨g,0,none⟩) n c2] 40))=W4 at hst hB4 c0 c1 c3 cf ⊢;generalize w3.heap.size=b6 at hst ⊢;refine⟨trivial,(callsIn_wide.2 (hmk.out _)).mono ?_⟩;rintro e w5 ⟨rfl,hcp,hC⟩;have hst5:=hst.below hC;have hB5:=hB4.trans (hC.mono hB4.size);generalize W4.heap.size=bg at hcp ⊢;clear hst hB4 hC c0 c1 c3 cf;gi_wp2_with fail
 refine q0d rfl Zo (gf:=276) (lb:=#[.pointer (some ⟨bg,0,none⟩),.pointer (some ⟨bg+1,0,none⟩)]) rfl trivial (enters_of Tryz.func276 Zk rfl) ?_;intro rc W6 hfn hrs hpe htm hps has hbo hbk hBW hsz;have hD0:w5.heap.size+1≠w5.heap.size:=Zo
 have hb5s:=hB5.size;generalize hL:w5.heap.size+1=L at hbk hD0 ⊢;have hLw:w.heap.size<=L:=Zo
 have hft:fitB s (m:Int) r ws.length=true:=by rw[hn];rw[hn] at hf;exact hf
 have hri:=qxp (5 - 1) Zo L bg (bg+1) s (m:Int) r (some p) cap ws w hrK.out hcap hft hlt
  (λt W=>(∃o,Hid (repF s (m:Int) r ws t=some o)/\RepSt w W w.heap.size (w.heap.size+1) b4 b6 g n c2 s (m:Int) r o)/\CapL W bg (bg+1) s (m:Int) r (.slice (some p) ws.length cap)/\Below w.heap.size w W/\LoopBk W L w5.heap.size rc)
  (λW=>Hid (repF s (m:Int) r ws m=none)/\Boxed W w.heap.size 40 (.slice none 0 0)/\Boxed W (w.heap.size+1) 36 (.int .i64 11)/\Below w.heap.size w W/\LoopBk W L w5.heap.size (qes rc .ret))
  (λt W h=>⟨h.2.1,h.2.2.1⟩)
  (λt W W' h hb=>by
   obtain⟨⟨o,h1,h2⟩,h4,h5,h6⟩:=h;exact⟨⟨o,h1,h2.below hb⟩,h4.below hb,h5.trans (hb.mono h5.size),h6.later hb⟩)
 rw[wam,hn] at hri;refine(hri ?round W6 ⟨⟨ws,waa rfl,hst5.below hBW⟩,hcp.below hBW,hB5.trans (hBW.mono hB5.size),hbk⟩).mono ?done
 case round=>
  clear hri hcp hst5 hbk hBW hsz hB5;rintro t v W ht ⟨⟨o,hrep,hst⟩,hcp,hB,hbk⟩ hown;have htm':t<m:=Zo
  refine qyz hfn hrs hpe hbk (by rw[hps];rfl) ?_;rw[has,hps,htm];have hyes:=waa (λh2=>qdw hrep.out h2);have hno:=waa (λh2=>qkw (qgz (s:=s) (l:=(m:Int)) (r:=r) (ws:=ws) (t:=t) h2) (show t+1<=m by omega));have hebd:=waa (qs1 (ws:=ws) (t:=t));have hel:=qkb ws t;have hln':=waa (hln.out t htm');generalize qak ws t=es at hyes hno hebd hel hown;obtain⟨Be,ce,rfl,hE⟩:=EsRd.of_own hown;gi_wp2_with fail
  refine⟨hbk,?_⟩;rw[hbo];have hb5:=hbk.turn hD0 (qew rc);have hs5:=hst.turn (.loop (qew rc)) hbk.rec_ rfl;have hc5:=hcp.turn (.loop (qew rc)) hbk.rec_ rfl;have ho5:=ownsRow_putObj hown (.loop (qew rc)) hbk.rec_ rfl;have hB5:Below w.heap.size w (W.putObj L (.loop (qew rc))):=qeh hB hbk.rec_ hLw;generalize W.putObj L (.loop (qew rc))=W7 at hb5 hs5 hc5 ho5 hB5 ⊢;obtain⟨Be',ce',hbe,hE5⟩:=EsRd.of_own ho5;injection hbe with hbe1 _ hbe2;subst hbe1 hbe2;clear hst hcp hB hbk hown hE;gi_wp2_with fail
  gi_loopw [28] (λq wr=>∃(V:World) (i:Nat) (o2:List Nat),V=wr/\q= .int .i64 (i:Int)/\i<=es.length/\Hid (putE o (es.take i)=o2)/\Hid ((es.take i).all (λe=>qbj s (m:Int) r e.1)=true)/\RepSt w V w.heap.size (w.heap.size+1) b4 b6 g n c2 s (m:Int) r o2/\EsRd V Be es.length es/\CapL V bg (bg+1) s (m:Int) r (.slice (some p) n cap)/\Below w.heap.size w V/\LoopBk V L w5.heap.size (qew rc)/\(∀q,Be=some q->q.block≠g)) (λq _=>es.length - (RowKit.intOf q).toNat)
  case atStart=>
   exact⟨_,0,o,rfl,rfl,wau _,waa rfl,waa rfl,hs5,hE5,hc5,hB5,hb5,λq hq=>by
    subst hq;rcases qhm ho5 hs5.1 Zd with h|h
    ·cases h
    ·exact λe=>h (by show some q.block=some g;rw[e])⟩
  case round=>
   clear hs5 hE5 hc5 hB5 hb5 ho5;obtain⟨V,i,o2,rfl,rfl,hi,hpt,hal,hst,hE,hcp,hB,hbk,hBe⟩:=hrel;by_cases hil:i<es.length
   ·obtain⟨pe,a,x,rfl,hd,hmem,e0,e1⟩:=hE.at_ hil
    have hei:es[i]? =some (a,x):=by
     have:=wbc hil
     rw[hd] at this;injection this with q1 q2;rw[waj hil,q1]
    obtain⟨a0,a1⟩:=hebd.out _ hmem;have a0':0<=a:=a0;have a1':a<=16383:=a1;have g0:(0:Int)<=(i:Int):=Zo
    have g1:(i:Int)<(es.length:Int):=Zo
    have hmc:=λU=>hmy.out a a0' a1' U
    have hBa:=(wac V.heap.size V).alloc (wab _) (.cells #[.int .i64 a,.int .u64 (x:Int)] 152);have hst1:=hst.below hBa;have hE1:=hE.below hBa;have hcp1:=hcp.below hBa;have hB1:=hB.trans (hBa.mono hB.size);have hbk1:=hbk.later hBa;have hen:=qan (V:=V) rfl #[.int .i64 a,.int .u64 (x:Int)] 152;obtain⟨x0,x1,x2,xf⟩:=hst1.2.2.2.2.cells;cases him:qbj s (m:Int) r a with
    |false=>
     rw[him] at hmc;have hmc':=waa hmc;have hon:=waa (hno.out (q2k hei him));clear hmc him hei hpt hal hd hmem a0 a1;gi_wp2_with fail
     refine⟨trivial,(CallsIn.inRound L (callsIn_wide.2 (hmc'.out _))).mono ?_⟩;rintro e U1 ⟨rfl,hC⟩;have hst2:=hst1.below hC;have hB2:=hB1.trans (hC.mono hB1.size);have hbk2:=hbk1.later hC;have y0:=hst2.2.2.1.cell;have y1:=hst2.2.2.1.frozen;have z0:=hst2.2.2.2.1.cell;have z1:=hst2.2.2.2.1.frozen;have hx4:=hst2.2.2.1.set (.slice none 0 0);have hy4:Boxed (U1.setCell ⟨w.heap.size,0,none⟩ (.slice none 0 0)) (w.heap.size+1) 36 (.int .i64 0):=(wat _ _ _ _ (show w.heap.size+1≠w.heap.size by omega)).trans hst2.2.2.2.1;have hy5:=hy4.set (.int .i64 11);have hx5:Boxed ((U1.setCell ⟨w.heap.size,0,none⟩ (.slice none 0 0)).setCell ⟨w.heap.size+1,0,none⟩ (.int .i64 11)) w.heap.size 40 (.slice none 0 0):=(wat _ _ _ _ (show w.heap.size≠w.heap.size+1 by omega)).trans hx4;have hB5:=(hB2.setCell (p:=⟨w.heap.size,0,none⟩) (wab _) (.slice none 0 0)).setCell (p:=⟨w.heap.size+1,0,none⟩) (by show w.heap.size<=w.heap.size+1;omega) (.int .i64 11);have hbk5:=(hbk2.cell (v:= .slice none 0 0) y0).cell (v:= .int .i64 11) hy4.cell;clear hst1 hE1 hcp1 hB1 hbk1 hen x0 x1 x2 xf hst hE hcp hB hbk hBe e0 e1 hx4 hy4 hst2 hB2 hbk2 hC;gi_wp2_with fail
     exact⟨hbk5,.inr ⟨rfl,hon,qbx hx5 hbk5.rec_ rfl,qbx hy5 hbk5.rec_ rfl,qeh hB5 hbk5.rec_ hLw,hbk5.turn hD0 (qes rc .ret)⟩⟩
    |true=>
     rw[him] at hmc;have hmc':=waa hmc;have hal2:=waa (qt3 hal.out hei him);obtain⟨b0,b1⟩:=hin.out a him;obtain⟨a,rfl⟩:=waz a0';have hpt2:=waa (show putE o (es.take (i+1))=o2.set a x by rw[quj hei,hpt.out,wam]);have b2:(0:Int)<=(a:Int):=b0;have b3:(a:Int)<(n:Int):=Zo
     clear hmc him hei hpt hal b0 b1 hd hmem a0 a1;gi_wp2_with fail
     refine⟨trivial,(CallsIn.inRound L (callsIn_wide.2 (hmc'.out _))).mono ?_⟩;rintro e U1 ⟨rfl,hC⟩;have hst2:=hst1.below hC;have hE2:=hE1.below hC;have hcp2:=hcp1.below hC;have hB2:=hB1.trans (hC.mono hB1.size);have hbk2:=hbk1.later hC;have hen2:=qao hen hC (wal.1 hen).1;have y0:=hst2.2.1.cell;have z0:U1.cell? ⟨V.heap.size,0,none⟩=some (.int .i64 (a:Int)):=by rw[qaa hen2];rfl
     have z1:U1.cell? ⟨V.heap.size,1,none⟩=some (.int .u64 (x:Int)):=by rw[qaa hen2];rfl
     obtain⟨⟨u,hu⟩,hfz,hgb⟩:=hst2.at_ (i:=a) Zo;have hst3:=hst2.store a x;have hE3:=qr5 (o:=a) (u:= .int .u64 (x:Int)) hE2 (hBe pe rfl);have hcp3:=hcp2.other (i:=a) (u:= .int .u64 (x:Int)) (hst2.apart hcp2.1 Zd) (hst2.apart hcp2.2 Zd);have hB3:=hB2.setCell (p:=⟨g,a,none⟩) hgb (.int .u64 (x:Int));have hbk3:=hbk2.cell (v:= .int .u64 (x:Int)) hu;clear hst1 hE1 hcp1 hB1 hbk1 hen x0 x1 x2 xf hst hE hcp hB hbk e0 e1 hst2 hE2 hcp2 hB2 hbk2 hC hen2;gi_wp2_with fail
     go_roundw
     case rel=>exact⟨_,i+1,_,rfl,by go_num,Zo,hpt2,hal2,hst3,hE3,hcp3,hB3,hbk3,hBe⟩
     case measure=>simp[RowKit.intOf];omega
   ·obtain rfl:i=es.length:=Zo
    rw[wbz] at hpt hal;have hrs2:=waa (hyes.out hal.out);rw[hpt.out] at hrs2;have hk:=hln';obtain⟨a,ha⟩:∃a,16+40*t=a:=⟨_,rfl⟩
    rw[ha] at hrs2 hk;have b2:(0:Int)<=(a:Int):=Zo
    have b3:(a:Int)<(n:Int):=Zo
    obtain⟨c0,c1,c3,cf⟩:=hst.2.2.2.2.cells;have y0:=hst.2.1.cell;clear ha hpt hal hE hBe;gi_wp2_with fail
    have hVd:=(wac V.heap.size V).drew;have hst0:=hst.below hVd;have hcp0:=hcp.below hVd;have hB0:=hB.trans (hVd.mono hB.size);have hbk0:=hbk.later hVd;obtain⟨c0,c1,c3,cf⟩:=hst0.2.2.2.2.cells;have y0:=hst0.2.1.cell;clear hst hcp hB hbk hVd;gi_region_with (refine⟨trivial,?_⟩;gi_at_call 108;refine(CallsIn.inRound L (callsIn_wide.2 (hk.out _))).mono ?_;rintro e U1 ⟨rfl,hC⟩;have hst2:=hst0.below hC;have hcp2:=hcp0.below hC;have hB2:=hB0.trans (hC.mono hB0.size);have hbk2:=hbk0.later hC;have z0:=hst2.2.1.cell;obtain⟨⟨u,hu⟩,hfz,hgb⟩:=hst2.at_ (i:=a) Zo)
    all_goals(
     have hst3:=hst2.store a 0;have hcp3:=hcp2.other (i:=a) (u:= .int .u64 ((0:Nat):Int)) (hst2.apart hcp2.1 Zd) (hst2.apart hcp2.2 Zd);have hB3:=hB2.setCell (p:=⟨g,a,none⟩) hgb (.int .u64 ((0:Nat):Int));have hbk3:=hbk2.cell (v:= .int .u64 ((0:Nat):Int)) hu;clear hst0 hcp0 hB0 hbk0 hst2 hcp2 hB2 hbk2 hC c0 c1 c3 cf y0 z0 hu hfz;gi_wp2_with fail
     exact⟨hbk3,.inl ⟨rfl,⟨_,hrs2,hst3.turn _ hbk3.rec_ rfl⟩,hcp3.turn _ hbk3.rec_ rfl,qeh hB3 hbk3.rec_ hLw,hbk3.turn hD0 rc⟩⟩)
 case done=>
  clear hri hcp hst5 hbk hBW hsz hB5;rintro e W2 ⟨⟨v,rfl⟩,(⟨⟨o,hrep,hst⟩,hcp,hB,hbk⟩|⟨hrep,hx,hy,hB,hbk⟩)⟩
  ·refine⟨⟨_,rfl⟩,.inl ⟨hbk,?_⟩⟩
   have hst3:=hst.turn (.loop {rc with state:= .exhausted}) hbk.rec_ rfl;have hB3:Below w.heap.size w (W2.putObj L (.loop {rc with state:= .exhausted})):=qeh hB hbk.rec_ hLw;have hbk3:=hbk.turn hD0 {rc with state:= .exhausted};generalize W2.putObj L (.loop {rc with state:= .exhausted})=W3 at hst3 hB3 hbk3 ⊢;have y0:=hst3.2.1.cell;have x0:=hst3.2.2.1.cell;have x1:=hst3.2.2.1.frozen;have z0:=hst3.2.2.2.1.cell;have z1:=hst3.2.2.2.1.frozen;have hx4:=hst3.2.2.1.set (.slice (some ⟨g,0,none⟩) n c2);have hy4:Boxed (W3.setCell ⟨w.heap.size,0,none⟩ (.slice (some ⟨g,0,none⟩) n c2)) (w.heap.size+1) 36 (.int .i64 0):=(wat _ _ _ _ (show w.heap.size+1≠w.heap.size by omega)).trans hst3.2.2.2.1;have hy5:=hy4.set (.int .i64 0);have hx5:Boxed ((W3.setCell ⟨w.heap.size,0,none⟩ (.slice (some ⟨g,0,none⟩) n c2)).setCell ⟨w.heap.size+1,0,none⟩ (.int .i64 0)) w.heap.size 40 (.slice (some ⟨g,0,none⟩) n c2):=(wat _ _ _ _ (show w.heap.size≠w.heap.size+1 by omega)).trans hx4;have hbk5:=(hbk3.cell (v:= .slice (some ⟨g,0,none⟩) n c2) x0).cell (v:= .int .i64 0) hy4.cell;have hB5:=(hB3.setCell (p:=⟨w.heap.size,0,none⟩) (wab _) (.slice (some ⟨g,0,none⟩) n c2)).setCell (p:=⟨w.heap.size+1,0,none⟩) (by show w.heap.size<=w.heap.size+1;omega) (.int .i64 0);have hn1:=hst3.apart hst3.2.2.1 Zd;have hn2:=hst3.apart hst3.2.2.2.1 Zd;have hown5:((W3.setCell ⟨w.heap.size,0,none⟩ (.slice (some ⟨g,0,none⟩) n c2)).setCell ⟨w.heap.size+1,0,none⟩ (.int .i64 0)).ownsRow w.heap.size 27 1 (.slice (some ⟨g,0,none⟩) n c2) n (u64V o):=
    (hst3.1.kept (qbb W3 ⟨w.heap.size,0,none⟩ (.slice (some ⟨g,0,none⟩) n c2)) (.inr (λe=>hn1 (wco e).symm))).kept (qbb _ ⟨w.heap.size+1,0,none⟩ (.int .i64 0)) (.inr (λe=>hn2 (wco e).symm))
   have hol:=hst3.len;clear hst hB hbk hcp hst3 hB3 hbk3 hx4 hy4;gi_wp2_with fail
   generalize ((W3.setCell ⟨w.heap.size,0,none⟩ (.slice (some ⟨g,0,none⟩) n c2)).setCell ⟨w.heap.size+1,0,none⟩ (.int .i64 0))=W5 at hx5 hy5 hbk5 hB5 hown5 ⊢;refine⟨by simp,.inl ⟨_,_,rfl,run_takeDeferred hbk5.def_,?_⟩⟩;have e1:=(show Boxed _ _ _ _ from qbx (o':= .deferred none) hx5 hbk5.def_ rfl).cell;have e2:=(show Boxed _ _ _ _ from qbx (o':= .deferred none) hy5 hbk5.def_ rfl).cell;exact⟨.tuple #[.slice (some ⟨g,0,none⟩) n c2,.int .i64 0],by simp[results,Tryz.f160,go_sem,e1,e2],IRepE.yes hrep.out (by rw[hol];exact ownsRow_putObj hown5 _ hbk5.def_ rfl),qeh hB5 hbk5.def_ Zo⟩
  ·refine⟨⟨_,rfl⟩,.inr ⟨.ret,hbk,?_⟩⟩
   have hx3:Boxed (W2.putObj L (.loop {qes rc .ret with state:= .exhausted})) w.heap.size 40 (.slice none 0 0):=qbx hx hbk.rec_ rfl;have hy3:Boxed (W2.putObj L (.loop {qes rc .ret with state:= .exhausted})) (w.heap.size+1) 36 (.int .i64 11):=qbx hy hbk.rec_ rfl;have hB3:Below w.heap.size w (W2.putObj L (.loop {qes rc .ret with state:= .exhausted})):=qeh hB hbk.rec_ hLw;have hbk3:=hbk.turn hD0 {qes rc .ret with state:= .exhausted};generalize W2.putObj L (.loop {qes rc .ret with state:= .exhausted})=W3 at hx3 hy3 hB3 hbk3 ⊢;clear hx hy hB hbk;gi_wp2_with fail
   refine⟨by simp,.inl ⟨_,_,rfl,run_takeDeferred hbk3.def_,?_⟩⟩;have e1:=(show Boxed _ _ _ _ from qbx (o':= .deferred none) hx3 hbk3.def_ rfl).cell;have e2:=(show Boxed _ _ _ _ from qbx (o':= .deferred none) hy3 hbk3.def_ rfl).cell;exact⟨.tuple #[.slice none 0 0,.int .i64 11],by simp[results,Tryz.f160,go_sem,e1,e2],IRepE.no hrep.out _ _,qeh hB3 hbk3.def_ Zo⟩
theorem qql(A:Option Addr)(cap:Nat)(ws:List Nat)(w:World)(hr:Rd w A ws.length (u64V ws))(hcap:ws.length<=cap)(hl:ws.length<=9223372036854775807)(hlt:∀x∈ws,x<18446744073709551616):
  Calls Tryz.prog 160 #[.slice A ws.length cap] w λe w'=>((∃s l r,Hit ws s l r/\IRepE w.heap.size (repF s l r ws l.toNat) e w')\/((∀s l r,¬Hit ws s l r)/\IRepE w.heap.size none e w'))/\Below w.heap.size w w':=by
 by_cases hh:∃s l r,Hit ws s l r
 ·obtain⟨s,l,r,hh⟩:=hh
  exact(qjo s l r A cap ws w hr hcap hlt hh).mono λe w' ⟨h1,h2⟩=>⟨.inl ⟨s,l,r,hh,h1⟩,h2⟩
 ·have hno:∀s l r,¬Hit ws s l r:=λs l r h=>hh ⟨s,l,r,h⟩
  exact(qtq A cap ws w hr hcap hl hlt hno).mono λe w' ⟨h1,h2⟩=>⟨.inr ⟨hno,h1⟩,h2⟩
end Go.Proofs.YtocncmbeinmiaaaGreat
namespace Go.Proofs.YtocncmbeinmiaaaGreat
open Go Go.RowKit
def KpG(g:Nat)(W V:World):Prop:=∀q v,q.block≠g->W.cell? q=some v->V.cell? q=some v
theorem KpG.refl(g:Nat)(W:World):KpG g W W:=λ_ _ _ h=>h
theorem KpG.below{g:Nat}{W V V':World}(h:KpG g W V)(hb:Below V.heap.size V V'):KpG g W V':=λq v hq hv=>by
 have:=h q v hq hv
 exact(hb.cell (wak V _ this)).trans this
theorem KpG.set{g:Nat}{W V:World}(h:KpG g W V)(i:Nat)(u:Value):KpG g W (V.setCell ⟨g,i,none⟩ u):=λq v hq hv=>qaq (h q v hq hv) hq
theorem KpG.trans{g:Nat}{A B C:World}(h:KpG g A B)(k:KpG g B C):KpG g A C:=λq v hq hv=>k q v hq (h q v hq hv)
theorem qgy(p:Addr)(k:Nat):(p.add k).block=p.block:=by unfold Addr.add;split<;>rfl
theorem Rd.keepG{g n:Nat}{W V:World}{A:Option Addr}{xs:List Value}(h:Rd W A n xs)(hA:∀p,A=some p->p.block≠g)(k:KpG g W V):Rd V A n xs:=
 ⟨h.1,λhn=>by
  obtain⟨q,e,hq⟩:=h.2 hn;exact⟨q,e,λj v hj=>k _ _ (by rw[qgy];exact hA q e) (hq j v hj)⟩⟩
theorem qi6(bt g n c i x base:Nat)(o:List Nat)(V:World)(h:V.ownsRow base 27 1 (.slice (some ⟨g,0,none⟩) n c) n (u64V o))(hb:V.cell? ⟨bt,0,none⟩=some (.slice (some ⟨g,0,none⟩) n c))(hi:i<n):
  Calls Tryz.prog 344 #[.int .i64 (i:Int),.int .u64 (x:Int),.pointer (some ⟨bt,0,none⟩)] V λe w'=>e= .returned (.tuple #[])/\w'.ownsRow base 27 1 (.slice (some ⟨g,0,none⟩) n c) n (u64V (o.set i x))/\KpG g V w'/\Below base V w':=by
 have hlen:o.length=n:=by have:=h.1;rw[qai] at this;omega
 obtain⟨cx,hcx⟩:∃cx,V.cell? ⟨g,i,none⟩=some cx:=⟨_,by rw[h.cellAt i Zo];exact waj (by rw[qai,hlen];exact hi)⟩
 have hfz:=h.frozenAt i;have h0:(0:Int)<=(i:Int):=Zo
 have h1:(i:Int)<(n:Int):=Zo
 have hst:=(h.stored i (.int .u64 (x:Int))).1;rw[qfw] at hst;have hbel:base<=V.heap.size:=by have:=qd5 h;have:=wak V _ hcx;simp only at*;omega
 have hres:=waa (show(V.setCell ⟨g,i,none⟩ (.int .u64 (x:Int))).ownsRow base 27 1 (.slice (some ⟨g,0,none⟩) n c) n (u64V (o.set i x))/\KpG g V (V.setCell ⟨g,i,none⟩ (.int .u64 (x:Int)))/\Below base V (V.setCell ⟨g,i,none⟩ (.int .u64 (x:Int))) from⟨hst,(KpG.refl g V).set i _,(wac base V).setCell (p:=⟨g,i,none⟩) (show base<=g from qd5 h) _⟩);clear h hlen hst hbel hi;go_enter Tryz.func344,Tryz.ntmps344;go_wp2_with fail;go_end0
 exact⟨rfl,hres.out⟩
theorem q40(p:Addr)(n cap:Nat)(ws:List Nat)(w:World)(hr:Rd w (some p) n (u64V ws))(hn:ws.length=n)(h0:0<n)(h1:n<=2000)(hcap:n<=cap):
  Calls Tryz.prog 281 #[.slice (some p) n cap] w λe w'=>(∃g c bt,e= .returned (.tuple #[.slice (some ⟨g,0,none⟩) n c,.func (.func 344) #[] #[.pointer (some ⟨bt,0,none⟩)]])/\w'.ownsRow w.heap.size 27 1 (.slice (some ⟨g,0,none⟩) n c) n (u64V ws)/\w'.cell? ⟨bt,0,none⟩=some (.slice (some ⟨g,0,none⟩) n c)/\bt≠g)/\Below w.heap.size w w':=by
 have hmf:∀(fn:Fn) (first cap:Array Value) (w:World),(Instr.makeFunc fn first cap).run Tryz.prog w= .ok (.func fn first cap) w:=λ_ _ _ _=>rfl
 have hB0:=waa ((wac w.heap.size w).alloc (wab _) (.cells #[.slice none 0 0] 40));have hx0:Boxed (w.alloc (.cells #[.slice none 0 0] 40)) w.heap.size 40 (.slice none 0 0):=qan rfl _ _;have hcl:=waa (λV (hV:Below w.heap.size w V)=>qhu p n cap ws V (hr.below hV) hn h0 h1 hcap);clear hr;have hx0:=waa hx0;go_enter Tryz.func281,Tryz.ntmps281;go_wp2_with (go_at_call 44;go_loud (refine(hcl.out _ hB0.out).mono ?_;rintro e w3 ⟨g,c,rfl,hown,hC⟩;have hx3:Boxed w3 w.heap.size 40 (.slice none 0 0):=qao hx0.out hC hx0.out.lt;have y0:=hx3.cell;have y1:=hx3.frozen;have hgb:w.heap.size≠g:=(by have:=qd5 hown;simp at this;omega);have hx5:=(hx3.set (.slice (some ⟨g,0,none⟩) n c));have y2:=hx5.cell;have y3:=hx5.frozen;have hx6:=(hx5.set (.slice (some ⟨g,0,none⟩) n c)).cell;have hown4:=waa (ownsRow_setCell_below (ownsRow_setCell_below (qax (b:=w.heap.size+1) hown Zs) (a:=⟨w.heap.size,0,none⟩) Zs (.slice (some ⟨g,0,none⟩) n c)) (a:=⟨w.heap.size,0,none⟩) Zs (.slice (some ⟨g,0,none⟩) n c));have hB3:=waa (((hB0.out.trans (hC.mono hB0.out.size)).setCell (p:=⟨w.heap.size,0,none⟩) (wab _) (.slice (some ⟨g,0,none⟩) n c)).setCell (p:=⟨w.heap.size,0,none⟩) (wab _) (.slice (some ⟨g,0,none⟩) n c));clear hx5;clear hown hC hx3))
 try rw[wa0]
 exact bodyPost_ret (v:= .tuple #[.slice (some ⟨g,0,none⟩) n c,.func (.func 344) #[] #[.pointer (some ⟨w.heap.size,0,none⟩)]]) (by simp[results,Tryz.results281,go_sem,hx6]) rfl ⟨⟨g,c,w.heap.size,rfl,qax hown4.out (wd7 _),hx6,hgb⟩,hB3.out⟩
end Go.Proofs.YtocncmbeinmiaaaGreat
namespace Go.Proofs.YtocncmbeinmiaaaGreat
open Go Go.RowKit Go.Shelf
attribute [local go_sem] wcy
def qba(ws v:List Nat)(n:Nat):List (Int×Nat):=(List.range n).filterMap λi=>if v.getD i 0=ws.getD i 0 then none else some ((i:Int),v.getD i 0)
theorem qj2(ws v:List Nat)(n:Nat):qba ws v (n+1)=qba ws v n++if v.getD n 0=ws.getD n 0 then[] else[((n:Int),v.getD n 0)]:=by
 rw[qba,qba,wcd,List.filterMap_append];congr 1
 by_cases h:v.getD n 0=ws.getD n 0
 ·rw[if_pos h,List.filterMap_cons,if_pos h];rfl
 ·rw[if_neg h,List.filterMap_cons,if_neg h];rfl
theorem qmd(ws v:List Nat)(n:Nat):(qba ws v n).length<=n:=by
 have:=List.length_filterMap_le (λi:Nat=>if v.getD i 0=ws.getD i 0 then none else some ((i:Int),v.getD i 0)) (List.range n)
 rwa [we5] at this
theorem q9i(ws v:List Nat){n m:Nat}(h:n<=m):qba ws v n<+:qba ws v m:=by
 induction m with
 |zero=>
   obtain rfl:n=0:=Zo
   exact wee _
 |succ m ih=>
  by_cases hn:n=m+1
  ·subst hn;exact wee _
  ·rw[qj2]
   exact(ih Zo).trans (wg5 _ _)
def encE(x:Int×Nat):Array Value:=#[.agg #[.int .i64 x.1,.int .u64 (x.2:Int)]]
def CapF(W:World)(bt bf:Nat)(T F:Value):Prop:=Boxed W bt 40 T/\Boxed W bf 40 F
theorem CapF.below{W W':World}{bt bf:Nat}{T F:Value}(h:CapF W bt bf T F)(hB:Below W.heap.size W W'):CapF W' bt bf T F:=⟨(hB.block _ h.1.lt).trans h.1,(hB.block _ h.2.lt).trans h.2⟩
def qif(n0 bt bf:Nat)(T F:Value)(W W':World):Prop:=(CapF W bt bf T F->CapF W' bt bf T F)/\Below n0 W W'
theorem qabb{n0 bt bf:Nat}{T F:Value}:∀{X Y Z:World},qif n0 bt bf T F X Y->qif n0 bt bf T F Y Z->qif n0 bt bf T F X Z:=λh k=>⟨λx=>k.1 (h.1 x),h.2.trans k.2⟩
theorem qabv{n0 bt bf D:Nat}{T F:Value}(hn:n0<=D)(W:World)(k:Nat)(o o':Obj)(hk:D<=k)(hl:W.heap[k]? =some o)(ho:o.isCells=false)(_:o.isWalk=false):qif n0 bt bf T F W (W.putObj k o'):=
 ⟨λh=>⟨qdd h.1 hl ho,qdd h.2 hl ho⟩,
  (wac n0 W).grown (grownBy_putObj' W k o') (by have:=(wal.1 hl).1;omega) (λj e=>by cases e;omega)⟩
theorem quo{n0 bt bf:Nat}{T F:Value}{W:World}(h:n0<=W.heap.size)(o:Obj):qif n0 bt bf T F W (W.alloc o):=⟨λh=>h.below ((wac _ W).alloc (wab _) o),(wac _ W).alloc h o⟩
def ixV:Value->Nat| .int _ q=>q.toNat|_=>0
theorem qzn(n:Nat)(hn:1<=n)(y bt bf:Nat)(TA FA:Option Addr)(tc fc N:Nat)(ws v:List Nat)(w0:World)(hF:Rd w0 FA N (u64V ws))(hT:Rd w0 TA N (u64V v))(hwl:ws.length=N)(hvl:v.length=N)(hN:N<=2000)(J Jx:List (Int×Nat)->World->Prop)(hY:∀pre x W,J pre W->pre.length<2001->YieldAt Fence.wide (n - 1) Tryz.prog y (encE x) W λe W'=>
   (e= .returned (.bool true)/\J (pre++[x]) W'/\qif w0.heap.size bt bf (.slice TA N tc) (.slice FA N fc) W W')\/(e= .returned (.bool false)/\Jx (pre++[x]) W'))(W:World)(hc:CapF W bt bf (.slice TA N tc) (.slice FA N fc))(hB:Below w0.heap.size w0 W)(h0:J [] W):
  CallsIn Fence.wide n Tryz.prog 285 #[.func (.yield y) #[] #[],.pointer (some ⟨bt,0,none⟩),.pointer (some ⟨bf,0,none⟩)] W λe W'=>(∃u,e= .returned u)/\
   ((∃ys,ys=qba ws v N/\J ys W')\/(∃pre,pre<+:qba ws v N/\Jx pre W')):=by
 refine callsIn_of_wp Tryz.func285 rfl trivial ?_ rfl;simp only[Tryz.ntmps285,wbj,way,wbq,Nat.reduceAdd,Nat.reduceSub,wci,wcj,wck,wcl,wba,wcb];have c1:=hc.1.cell;gi_wp2_with fail
 gi_loopw [8] (λp wr=>∃k:Nat,k<=N/\p= .int .i64 (k:Int)/\CapF wr bt bf (.slice TA N tc) (.slice FA N fc)/\Below w0.heap.size w0 wr/\J (qba ws v k) wr)
  (λp _=>N - ixV p)
 case atStart=>exact⟨0,wau _,rfl,hc,hB,h0⟩
 case round=>
  clear hc hB h0 c1;obtain⟨k,hk,rfl,hcp,hB,hJ⟩:=hrel;have c2:=hcp.2.cell;by_cases hlt:k<N
  ·obtain⟨x,hx⟩:∃x,v[k]? =some x:=⟨_,waj Zo⟩
   obtain⟨z,hz⟩:∃z,ws[k]? =some z:=⟨_,waj Zo⟩
   obtain⟨pt,rfl,ct⟩:=qa6 (hT.below hB) hx;obtain⟨pf,rfl,cf⟩:=qa6 (hF.below hB) hz;have hs:=qj2 ws v k;rw[wax,wax,hx,hz,wa8,wa8] at hs;have hk0:(0:Int)<=(k:Int):=Zo
   have hk1:(k:Int)<(N:Int):=Zo
   by_cases hxz:x=z
   ·subst hxz
    rw[if_pos rfl,wbl] at hs;rw[<-hs] at hJ;clear hs hx hz;gi_wp2_with fail
    refine⟨λ_ h=>(by cases h),?_⟩;gi_wp2_with fail
    go_roundw
    case rel=>exact⟨k+1,Zo,by go_num,hcp,hB,hJ⟩
    case measure=>simp[ixV];omega
   ·rw[if_neg hxz] at hs
    have hne:((x:Int) !=(z:Int))=true:=bne_iff_ne.2 Zo;have hne2:¬(x:Int)=(z:Int):=Zo
    have hll:=qmd ws v k;have hp:=waa (q9i ws v (show k+1<=N by omega));obtain⟨fn,tmps,assign,body,hy,hR⟩:=hY (qba ws v k) ((k:Int),x) wr hJ Zo;dsimp only[encE] at hy;rw[<-hs] at hR;clear hs hx hz;gi_wp2_with fail
    refine hR.mono ?_;rintro e W3 (⟨rfl,hJ3,hk3⟩|⟨rfl,hJx3⟩)
    ·have hc3:=hk3.1 hcp
     have hB3:=hB.trans hk3.2;gi_wp2_with fail
     go_roundw
     case rel=>exact⟨k+1,Zo,by go_num,hc3,hB3,hJ3⟩
     case measure=>simp[ixV];omega
    ·gi_wp2_with fail
     refine bodyPost_ret (results_none rfl _ _ _) rfl ?_;exact⟨⟨_,rfl⟩,.inr ⟨_,hp.out,hJx3⟩⟩
  ·obtain rfl:k=N:=Zo
   gi_wp2_with fail
   go_end0
   exact⟨⟨_,rfl⟩,.inl ⟨_,rfl,hJ⟩⟩
theorem qup(n:Nat)(hn:1<=n)(bt bf:Nat)(TA FA:Option Addr)(tc fc N:Nat)(ws v:List Nat)(w0 w:World)(hF:Rd w0 FA N (u64V ws))(hT:Rd w0 TA N (u64V v))(hwl:ws.length=N)(hvl:v.length=N)(hN:N<=2000)(hc:CapF w bt bf (.slice TA N tc) (.slice FA N fc))(hB0:Below w0.heap.size w0 w):
  SeqStopsK Fence.wide n Tryz.prog 285 #[.pointer (some ⟨bt,0,none⟩),.pointer (some ⟨bf,0,none⟩)] encE (qif w0.heap.size bt bf (.slice TA N tc) (.slice FA N fc)) (λys=>ys=qba ws v N) (λpre=>pre<+:qba ws v N) 2001 w:=λy J Jx W hW _ _ hY h0=>
 qzn n hn y bt bf TA FA tc fc N ws v w0 hF hT hwl hvl hN J Jx hY W (hc.below hW) (hB0.trans (hW.mono hB0.size)) h0
theorem q10(FA TA:Option Addr)(N fc tc:Nat)(w:World):
  Calls Tryz.prog 213 #[.slice FA N fc,.slice TA N tc] w λe w'=>e= .returned (.func (.func 285) #[] #[.pointer (some ⟨w.heap.size+1,0,none⟩),.pointer (some ⟨w.heap.size,0,none⟩)])/\CapF w' (w.heap.size+1) w.heap.size (.slice TA N tc) (.slice FA N fc)/\Below w.heap.size w w'/\w'.heap.size=w.heap.size+2:=by
 have hmf:∀(fn:Fn) (first cap:Array Value) (w:World),(Instr.makeFunc fn first cap).run Tryz.prog w= .ok (.func fn first cap) w:=λ_ _ _ _=>rfl
 have hres:=waa (show CapF ((w.alloc (.cells #[.slice FA N fc] 40)).alloc (.cells #[.slice TA N tc] 40)) (w.heap.size+1) w.heap.size (.slice TA N tc) (.slice FA N fc)/\Below w.heap.size w ((w.alloc (.cells #[.slice FA N fc] 40)).alloc (.cells #[.slice TA N tc] 40))/\((w.alloc (.cells #[.slice FA N fc] 40)).alloc (.cells #[.slice TA N tc] 40)).heap.size=w.heap.size+2 from
  ⟨⟨qan Zs _ _,qag (qan rfl _ _) _⟩,((wac _ w).alloc (wab _) _).alloc Zs _,by simp⟩)
 go_enter Tryz.func213,Tryz.ntmps213;go_wp2_with fail;go_ret;exact⟨rfl,hres.out⟩
end Go.Proofs.YtocncmbeinmiaaaGreat
