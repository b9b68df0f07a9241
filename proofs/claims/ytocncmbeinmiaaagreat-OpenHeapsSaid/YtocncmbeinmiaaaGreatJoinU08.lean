/- Parts. No condition. -/
import Derived.WalkMore
import Derived.Test.YtocncmbeinmiaaaGreatJoinU07
set_option linter.unusedVariables false
set_option maxRecDepth 100000
set_option maxHeartbeats 8000000
namespace Go.Proofs.YtocncmbeinmiaaaGreat
open Go Go.RowKit
def hV(l:List (Int×Int×Int)):List Value:=l.flatMap λb=>[.int .i64 b.1,.int .i64 b.2.1,.int .i64 b.2.2]
theorem qfg(l:List (Int×Int×Int)):(hV l).length=l.length*3:=by
 induction l with
 |nil=>rfl
 |cons e r ih=>
  show(Value.int .i64 e.1::Value.int .i64 e.2.1::Value.int .i64 e.2.2::hV r).length=_
  simp only[way,ih];omega
theorem qwa(l:List (Int×Int×Int))(a b c:Int):hV (l++[(a,b,c)])=hV l++[.int .i64 a,.int .i64 b,.int .i64 c]:=by simp[hV]
theorem qzt{l:List (Int×Int×Int)}{j:Nat}{e:Int×Int×Int}(h:l[j]? =some e):(hV l)[j*3]? =some (.int .i64 e.1)/\(hV l)[j*3+1]? =some (.int .i64 e.2.1)/\(hV l)[j*3+2]? =some (.int .i64 e.2.2):=by
 induction l generalizing j with
 |nil=>simp at h
 |cons f r ih=>
  cases j with
  |zero=>
   obtain rfl:f=e:=by simpa using h
   exact⟨rfl,rfl,rfl⟩
  |succ k=>
   have:=ih (j:=k) (by simpa using h)
   rw[show(k+1)*3=k*3+1+1+1 by omega];exact this
theorem HdsRd.of_own{w:World}{base n:Nat}{v:Value}{l:List (Int×Int×Int)}(h:w.ownsRow base 82 3 v n (hV l)):∃A cap,v= .slice A n cap/\HdsRd w A n l:=by
 have hl:l.length=n:=by have:=h.1;rw[qfg] at this;omega
 rcases h.2 with ⟨rfl,h0⟩|⟨g,cap,cur,rfl,hb,hg,hn,hc,hs,ht⟩
 ·subst h0
  exact⟨none,0,rfl,hl,λh=>absurd h Zo⟩
 ·refine⟨_,_,rfl,hl,λ_=>⟨_,rfl,λj e he=>?_⟩⟩
  obtain⟨h0,h1,h2⟩:=qzt he;have hj:j<n:=by rw[<-hl];exact(wan.1 he).1
  have ha:∀i,i<n*3->cur[i]? =(hV l)[i]?:=λi hi=>by
   rw[<-ht,wbh,if_pos hi,wb9]
  have e0:(⟨g,0,none⟩:Addr).add (j*3)=⟨g,j*3,none⟩:=by unfold Addr.add;split<;>simp_all
  rw[e0];exact⟨by rw[qaa hg,ha (j*3) Zo];exact h0,by rw[qaa hg,ha (j*3+1) Zo];exact h1,by rw[qaa hg,ha (j*3+2) Zo];exact h2⟩
theorem qga:(Tryz.prog.info? 82).map (λi=>(i.zero,i.size,i.bytes))=some (some (.agg #[.int .i64 0,.int .i64 0,.int .i64 0]),3,24):=by kernel_rfl
theorem qaad(n:Nat):hV (List.replicate n (0,0,0))=List.replicate (n*3) (Value.int .i64 0):=by
 induction n with
 |zero=>rfl
 |succ n ih=>
  rw[wex];show Value.int .i64 0::Value.int .i64 0::Value.int .i64 0::hV (List.replicate n (0,0,0))=_
  rw[ih,show(n+1)*3=n*3+1+1+1 by omega,wex,wex,wex]
theorem q0f(n:Nat):madeCells #[Value.int .i64 0,Value.int .i64 0,Value.int .i64 0] (n*3)=(hV (List.replicate n (0,0,0))).toArray:=by
 rw[qaad];apply Array.ext'
 apply wa3
 intro j;by_cases hj:j<n*3
 ·have h3:j%3=0\/j%3=1\/j%3=2:=Zo
  rcases h3 with h|h|h<;>simp[madeCells,hj,h]
 ·simp[madeCells,hj]
theorem qnp(t:Nat)(ht:t<=2000)(w:World):(Instr.makeSlice 75 (.int .i64 (t:Int)) (.int .i64 (t:Int))).run Tryz.prog w= .ok (.slice (some ⟨w.heap.size,0,none⟩) t t) (w.alloc (.cells (hV (List.replicate t (0,0,0))).toArray 82)):=by
 obtain⟨i,hi,hz,hs,hb⟩:=info_parts qga;have h:=run_makeSlice (P:=Tryz.prog) w 75 82 i _ wde hi hz .i64 .i64 (t:Int) (t:Int) Zo (wen _) (by rw[hs,wam];omega) (by rw[hb];omega) Zo;rw[hs,wam] at h;rw[h,<-q0f];rfl
theorem qaci(m:List (Int×Int×Int))(j:Nat)(k c n:Int)(hj:j<m.length):(((hV m).set (j*3) (.int .i64 k)).set (j*3+1) (.int .i64 c)).set (j*3+2) (.int .i64 n)=hV (m.set j (k,c,n)):=by
 induction m generalizing j with
 |nil=>simp at hj
 |cons h r ih=>
  cases j with
  |zero=>rfl
  |succ i=>
   show(((Value.int .i64 h.1::Value.int .i64 h.2.1::Value.int .i64 h.2.2::hV r).set ((i+1)*3) (.int .i64 k)).set ((i+1)*3+1) (.int .i64 c)).set ((i+1)*3+2) (.int .i64 n)=Value.int .i64 h.1::Value.int .i64 h.2.1::Value.int .i64 h.2.2::hV (r.set i (k,c,n))
   rw[<-ih i (by simpa using hj),show(i+1)*3=i*3+1+1+1 by omega,show i*3+1+1+1+1=i*3+1+1+1+1 from rfl];rfl
def RHeadsE(B:Nat)(o:Option (List (Int×Int×Int)))(e:Ending)(w':World):Prop:=match o with
 |none=>e= .returned (.tuple #[.slice none 0 0,.bool false])
 |some L=>∃v,e= .returned (.tuple #[v,.bool true])/\w'.ownsRow B 82 3 v L.length (hV L)
theorem RHeadsE.no{o:Option (List (Int×Int×Int))}(h:o=none)(B:Nat)(w':World):RHeadsE B o (.returned (.tuple #[.slice none 0 0,.bool false])) w':=by rw[h];exact rfl
theorem RHeadsE.yes{o:Option (List (Int×Int×Int))}{L:List (Int×Int×Int)}{B:Nat}{w':World}{v:Value}(h:o=some L)(hr:w'.ownsRow B 82 3 v L.length (hV L)):RHeadsE B o (.returned (.tuple #[v,.bool true])) w':=by rw[h];exact⟨v,rfl,hr⟩
theorem qe0(s l r:Int)(A:Option Addr)(cap:Nat)(ws:List Nat)(w:World)(hr:Rd w A ws.length (u64V ws))(hn:ws.length<=9223372036854775807)(hlt:∀x∈ws,x<18446744073709551616):
  Calls Tryz.prog 57 #[.agg #[.int .i64 s,.int .i64 l,.int .i64 r],.slice A ws.length cap] w λe w'=>RHeadsE w.heap.size (qa3 s l r ws) e w'/\Below w.heap.size w w':=by
 obtain⟨i0,ii,iz0,iz1,iz2⟩:=info_parts qga;have hg0:=Gi.new w s l r;have hB0:=qa7 w s l r;have hft:=λV=>q5i s l r A ws.length cap V hn
 cases hf:fitB s l r ws.length with
 |false=>
  rw[hf] at hft;have hft':=waa hft;have ho:=waa (show qa3 s l r ws=none from if_neg (by rw[hf];decide));clear hf hft hr;go_enter Tryz.func57,Tryz.ntmps57;go_wp2_with fail;generalize (w.alloc (.cells #[.int .i64 s,.int .i64 l,.int .i64 r] 23))=W1 at hg0 hB0 ⊢;obtain⟨c0,c1,c2,f⟩:=hg0.cells;go_wp2_with fail;refine(hft'.out _).mono ?_;rintro e w1 ⟨rfl,hB⟩;have hB1:=hB0.trans (hB.mono hB0.size);go_wp2_with fail;go_ret2;exact⟨RHeadsE.no ho.out _ _,hB1⟩
 |true=>
  rw[hf] at hft;have hft':=waa hft;have ho:=waa (show hdsF (λi=>ws.getD (hdAt l i) 0) s.toNat=qa3 s l r ws from(if_pos hf).symm);have hb:=qaw hf;have hm:=(fitB_iff.1 hf).1;have hhd:=waa (λ(j:Nat) (hj:(j:Int)<s) (V:World)=>show Calls Tryz.prog 82 #[.agg #[.int .i64 s,.int .i64 l,.int .i64 r],.int .i64 (j:Int)] V λe w'=>e= .returned (.int .i64 ((hdAt l j:Nat):Int))/\Below V.heap.size V w' from by
   have:=qki s l r (j:Int) V
   rw[show headN s l r (j:Int)=((hdAt l j:Nat):Int) from(if_pos ⟨hm,Zo,hj⟩).trans (by unfold hdAt;omega)] at this;exact this)
  generalize qa3 s l r ws=o at ho ⊢;generalize hF:(λi=>ws.getD (hdAt l i) 0)=F at ho;have hF':=waa hF;clear hf hft hF hm;go_enter Tryz.func57,Tryz.ntmps57;go_wp2_with fail;generalize (w.alloc (.cells #[.int .i64 s,.int .i64 l,.int .i64 r] 23))=W1 at hg0 hB0 ⊢;obtain⟨c0,c1,c2,f⟩:=hg0.cells;go_wp2_with fail;refine(hft'.out _).mono ?_;rintro e w1 ⟨rfl,hB⟩;have hg1:=hg0.below hB hg0.lt;have hB1:=hB0.trans (hB.mono hB0.size);clear hg0 hB0 hB c0 c1 c2 f;go_wp2_with fail;go_loopw [6,7] (λv q wr=>∃(W:World) (j:Nat) (L:List (Int×Int×Int)),W=wr/\W.ownsRow w.heap.size 82 3 v L.length (hV L)/\q= .int .i64 (j:Int)/\(j:Int)<=s/\L.length=j/\Hid (hdsF F j=some L)/\Gi W w.heap.size s l r/\Below w.heap.size w W) (λ_ q _=>s.toNat - (intOf q).toNat)
  case atStart=>exact⟨_,0,[],rfl,wa9 _ _ _ _,rfl,Zo,rfl,waa rfl,hg1,hB1⟩
  case round=>
   clear hg1 hB1;obtain⟨W,j,L,rfl,hrow,rfl,hj,hLl,hL,hg,hB⟩:=hrel;obtain⟨c0,c1,c2,f⟩:=hg.cells;by_cases hlt2:(j:Int)<s
   ·obtain⟨a,ha⟩:∃a,hdAt l j=a:=⟨_,rfl⟩
    have hal:a<ws.length:=by rw[<-ha];unfold hdAt;omega
    have hx:ws[a]? =some ws[a]:=waj hal;have hxl:=hlt ws[a] (wb6 _);have hFj:F j=ws[a]:=by rw[<-hF'.out];simp only;rw[ha,wax,hx];rfl
    obtain⟨p,rfl,-⟩:=qa6 hr hx;have hcell:=waa (λ(V:World) (hV:Below w.heap.size w V)=>show V.cell? (p.add a)=some (.int .u64 (ws[a]:Int)) from by
     obtain⟨q,e,hq⟩:=qa6 (hr.below hV) hx;injection e with e;subst e;exact hq)
    have hrd:=λV=>qxj ws[a] V hxl
    have hh:=hhd.out j hlt2;rw[ha] at hh;have hh':=waa hh;have a0:(0:Int)<=(a:Int):=Zo
    have a1:(a:Int)<(ws.length:Int):=Zo
    generalize ws[a]=x at hcell hrd hFj hxl;clear hx hh ha;cases hd:hdO x with
    |none=>
     have hrd2:=waa (λ(V:World)=>(hrd V).mono λe w' ⟨h1,h2⟩=>(⟨h1.untold hd,h2⟩:e=Ending.returned (.tuple #[.agg #[.int .i64 0,.int .i64 0,.int .i64 0],.bool false])/\Below V.heap.size V w'));have hon:=waa (show o=none from by rw[<-ho.out];exact qwm (qwl (by rw[hFj];exact hd)) Zo);clear hrd hd hFj;go_wp2_with fail;refine(hh'.out _).mono ?_;rintro e w2 ⟨rfl,hC⟩;have hB2:=hB.trans (hC.mono hB.size);have x0:=hcell.out w2 hB2;go_wp2_with fail;refine(hrd2.out _).mono ?_;rintro e w3 ⟨rfl,hD⟩;have hB3:=(hB2.trans (hD.mono hB2.size)).alloc (hB2.trans (hD.mono hB2.size)).size (.cells #[.int .i64 0,.int .i64 0,.int .i64 0] 82);go_wp2_with fail;try rw[wa0]
     go_ret2;exact⟨RHeadsE.no hon.out _ _,hB3⟩
    |some hdx=>
     obtain⟨k,c,m⟩:=hdx;have hrd2:=waa (λ(V:World)=>(hrd V).mono λe w' ⟨h1,h2⟩=>(⟨h1.told hd,h2⟩:e=Ending.returned (.tuple #[.agg #[.int .i64 k,.int .i64 c,.int .i64 m],.bool true])/\Below V.heap.size V w'));have hL2:=waa (qip hL.out (show hdO (F j)=some (k,c,m) by rw[hFj];exact hd));clear hrd hd hFj hL;go_wp2_with fail;refine(hh'.out _).mono ?_;rintro e w2 ⟨rfl,hC⟩;have hg2:=hg.below hC hg.lt;have hB2:=hB.trans (hC.mono hB.size);have x0:=hcell.out w2 hB2;have hr2:=qaf hrow hC;clear hg hB hC hrow c0 c1 c2 f;go_wp2_with fail;refine(hrd2.out _).mono ?_;rintro e w3 ⟨rfl,hD⟩;have hDa:=hD.alloc hD.size (.cells #[.int .i64 k,.int .i64 c,.int .i64 m] 82);have hg3:Gi _ w.heap.size s l r:=hg2.below hDa hg2.lt;have hB3:=hB2.trans (hDa.mono hB2.size);have hr3:=qaf hr2 hDa;have hhb:=Hd.new w3 k c m;clear hg2 hB2 hr2 hD hDa x0;have hs3:w.heap.size<=w3.heap.size+1:=by have:=hB3.size;simp at this;omega
     go_wp2_with (at_builtin;go_loud (refine wpList_append_own _ rfl _ _ 75 rfl w.heap.size 82 i0 (.agg #[.int .i64 0,.int .i64 0,.int .i64 0]) 3 24 wde ii iz0 iz1 iz2 rfl Zd _ _ _ rfl (hr3.alloc _) ⟨w3.heap.size+1,0,none⟩ 1 1 [.int .i64 k,.int .i64 c,.int .i64 m] rfl rfl (qb3 Zs _ rfl _) (by simp[Value.oneCell']) (by simp only[maxLen];omega) Zo Zx ?_);intro v' w4 hown' hgrow _;have hB4:=(hB3.alloc hB3.size (.cells #[.int .i64 k,.int .i64 c,.int .i64 m] 82)).grown hgrow Zx (qa0 hr3);have hg5:Gi w4 w.heap.size s l r:=qb1 hg3 Zd hr3 hgrow)
     go_roundw
     case rel=>exact⟨_,j+1,L++[(k,c,m)],rfl,by rw[qwa,was];exact hown',by go_num,Zo,by simp[hLl],hL2,hg5,hB4⟩
     case measure=>simp[intOf];omega
   ·obtain rfl:s=(j:Int):=Zo
    have hon:=waa (show o=some L from by rw[<-ho.out,wam];exact hL.out);go_wp2_with fail;go_ret2;exact⟨RHeadsE.yes hon.out hrow,hB⟩
theorem qfw(l:List Nat)(i x:Nat):(u64V l).set i (.int .u64 (x:Int))=u64V (l.set i x):=by simp[u64V,List.map_set]
theorem qaq{w:World}{b o:Nat}{u v:Value}{q:Addr}(h:w.cell? q=some v)(hne:q.block≠b):(w.setCell ⟨b,o,none⟩ u).cell? q=some v:=(wdl (wat _ _ _ _ hne)).trans h
theorem q8v{w:World}{p:Addr}{n b o:Nat}{u:Value}{xs:List Value}(h:Rd w (some p) n xs)(hne:p.block≠b):Rd (w.setCell ⟨b,o,none⟩ u) (some p) n xs:=
 ⟨h.1,λhn=>by
  obtain⟨q,e,hq⟩:=h.2 hn;obtain rfl:p=q:=by injection e
  refine⟨p,rfl,λj v hj=>qaq (hq j v hj) ?_⟩;unfold Addr.add;split<;>exact hne⟩
theorem qr5{w:World}{p:Addr}{n b o:Nat}{u:Value}{l:List (Int×Nat)}(h:EsRd w (some p) n l)(hne:p.block≠b):EsRd (w.setCell ⟨b,o,none⟩ u) (some p) n l:=
 ⟨h.1,λhn=>by
  obtain⟨q,e,hq⟩:=h.2 hn;obtain rfl:p=q:=by injection e
  refine⟨p,rfl,λj v hj=>?_⟩;have hb:(p.add (j*2)).block=p.block:=by unfold Addr.add;split<;>rfl
  exact⟨qaq (hq j v hj).1 (by rw[hb];exact hne),qaq (hq j v hj).2 (by show(p.add (j*2)).block≠b;rw[hb];exact hne)⟩⟩
theorem qd5{W:World}{base n:Nat}{e:TypeId}{size:Nat}{p:Addr}{c:Nat}{xs:List Value}(h:W.ownsRow base e size (.slice (some p) n c) n xs):base<=p.block:=(h.lt p.block rfl).1
def frL(s l r:Int)(T i:Nat):List Nat:=(supL s l r).take i++List.replicate (T - i) 0
theorem qaag(s l r:Int)(T:Nat):frL s l r T 0=List.replicate T 0:=by simp[frL]
theorem qach{s l r:Int}{T:Nat}(hT:totN s l r=(T:Int)):frL s l r T 8=qa8 s l r:=by
 rw[frL,qa8,hT,wam,wa2 (by rw[qco];omega)]
theorem q5t{s l r:Int}{T i:Nat}(hi:i<=8)(hT:8<=T):(frL s l r T i).length=T:=by
 rw[frL,was,war,qco,wfo];omega
theorem qabc{s l r:Int}{T i x:Nat}(hi:i<8)(hT:8<=T)(hx:(supL s l r)[i]? =some x):(frL s l r T i).set i x=frL s l r T (i+1):=by
 apply wa3
 intro j;have hl:((supL s l r).take i).length=i:=by rw[war,qco];omega
 have hl2:((supL s l r).take (i+1)).length=i+1:=by rw[war,qco];omega
 by_cases hj:j=i
 ·subst hj
  rw[wb3 (by rw[q5t Zo hT];omega),frL,wbk Zo,wbf Zo,hx]
 ·rw[wbe (λe=>hj e.symm)]
  by_cases hlt:j<i
  ·rw[frL,frL,wbk Zo,wbk Zo,wbf hlt,wbf Zo]
  ·rw[frL,frL,wbt Zo,wbt Zo,hl,hl2,wcu,wcu]
   by_cases hjT:j<T
   ·rw[if_pos Zo,if_pos Zo]
   ·rw[if_neg Zo,if_neg Zo]
theorem qvw(s l r:Int)(w:World)(hm:mayB s l r=true):Calls Tryz.prog 35 #[.agg #[.int .i64 s,.int .i64 l,.int .i64 r]] w λe w'=>∃v,e= .returned v/\w'.ownsRow w.heap.size 27 1 v (qa8 s l r).length (u64V (qa8 s l r))/\Below w.heap.size w w':=by
 obtain⟨T,hT,hT2⟩:∃T:Nat,totN s l r=(T:Int)/\128<=T/\T<=1328:=⟨(totN s l r).toNat,by have:=qdo hm;omega⟩
 have htot:=λV=>qfr s l r V
 rw[hT] at htot;have htot':=waa htot;have hwr:=waa (λV=>qnw s l r V hm);have hmk:=qit T Zo;have hend:=waa (qach hT);have hlenT:=waa (show(qa8 s l r).length=T by have:=qhi hm;omega);have hsl:=waa (qco s l r);have hg0:=Gi.new w s l r;have hB0:=qa7 w s l r;clear htot hT hm;go_enter Tryz.func35,Tryz.ntmps35;go_wp2_with fail;generalize (w.alloc (.cells #[.int .i64 s,.int .i64 l,.int .i64 r] 23))=W1 at hg0 hB0 ⊢;obtain⟨c0,c1,c2,f⟩:=hg0.cells;go_wp2_with fail;refine(htot'.out _).mono ?_;rintro e w1 ⟨rfl,hB⟩;have hg1:=hg0.below hB hg0.lt;have hB1:=hB0.trans (hB.mono hB0.size);have hrow:(w1.alloc (.cells (u64V (List.replicate T 0)).toArray 27)).ownsRow w.heap.size 27 1 (.slice (some ⟨w1.heap.size,0,none⟩) T T) T (u64V (frL s l r T 0)):=by
  rw[qaag];exact wcq w1 (u64V (List.replicate T 0)).toArray T hB1.size (by simp only[maxLen];omega) (by simp[u64V])
 have hBa:=(wac w1.heap.size w1).alloc (wab _) (.cells (u64V (List.replicate T 0)).toArray 27);have hg2:=hg1.below hBa hg1.lt;have hB2:=hB1.trans (hBa.mono hB1.size);have hgl:w1.heap.size<(w1.alloc (.cells (u64V (List.replicate T 0)).toArray 27)).heap.size:=by simp
 obtain⟨d0,d1,d2,f2⟩:=hg2.cells;clear hg0 hB0 hB c0 c1 c2 f hBa hg1 hB1;go_wp2_with fail;generalize (w1.alloc (.cells (u64V (List.replicate T 0)).toArray 27))=W2 at hrow hg2 hB2 hgl d0 d1 d2 f2 ⊢;generalize w1.heap.size=g at hrow hgl ⊢;refine(hwr.out _).mono ?_;rintro e w3 ⟨v,rfl,hown,hC⟩;have hr3:=qaf hrow hC;have hB3:=hB2.trans (hC.mono hB2.size);rw[hsl.out] at hown;obtain⟨A,cap,rfl,hR⟩:=Rd.of_own hown;obtain⟨p,rfl,-⟩:=qa6 hR (show(supL s l r)[0]? =some _ from waj (by rw[hsl.out];omega));have hpb:p.block≠g:=by have:=qd5 hown;omega
 clear hown hrow hg2 hB2 hC d0 d1 d2 f2;go_wp2_with fail;go_loopw [5] (λq wr=>∃(W:World) (i:Nat),W=wr/\q= .int .i64 (i:Int)/\i<=8/\W.ownsRow w.heap.size 27 1 (.slice (some ⟨g,0,none⟩) T T) T (u64V (frL s l r T i))/\Rd W (some p) 8 (u64V (supL s l r))/\Below w.heap.size w W) (λq _=>8 - (intOf q).toNat)
 case atStart=>exact⟨_,0,rfl,rfl,wau _,hr3,hR,hB3⟩
 case round=>
  clear hr3 hR hB3;obtain⟨W,i,rfl,rfl,hi,hrow,hR,hB⟩:=hrel;by_cases hlt:i<8
  ·have hx:(supL s l r)[i]? =some (supL s l r)[i]:=waj (by rw[hsl.out];exact hlt)
   obtain⟨p',ep,x0⟩:=qa6 hR hx;injection ep with ep;subst ep;generalize (supL s l r)[i]=x at hx x0;have hst:=waa (qabc (T:=T) hlt Zo hx);have hcell:=hrow.cellAt i Zo;have hex:∃u,(u64V (frL s l r T i))[i]? =some u:=⟨_,waj (by rw[qai,q5t Zo Zo];omega)⟩
   obtain⟨u,hu⟩:=hex;rw[hu] at hcell;have hfz:=hrow.frozenAt i;have hso:=(hrow.stored i (.int .u64 (x:Int))).1;rw[qfw,hst.out] at hso;have hR2:=q8v (o:=i) (u:= .int .u64 (x:Int)) hR hpb;have hgb:=qd5 hrow;have hB2:=hB.setCell (p:=⟨g,i,none⟩) hgb (.int .u64 (x:Int));have k0:(i:Int)<(T:Int):=Zo
   clear hx hu;go_wp2_with fail;go_roundw
   case rel=>exact⟨_,i+1,rfl,by go_num,Zo,hso,hR2,hB2⟩
   case measure=>simp[intOf];omega
  ·obtain rfl:i=8:=Zo
   rw[hend.out] at hrow;go_wp2_with fail;go_ret;exact⟨_,rfl,by rw[hlenT.out];exact hrow,hB⟩
structure Lim (ws:List Nat) (lim:Nat):Prop where
 le:lim<=4
 a1:decide (8<=ws.length)=decide (0<lim)
 a2:0<lim->mayB (cntS (ws.getD 2 0)) (cntL (ws.getD 2 0)) (cntR (ws.getD 2 0))=decide (1<lim)
 a3:1<lim->decide (ws.take 8=supL (cntS (ws.getD 2 0)) (cntL (ws.getD 2 0)) (cntR (ws.getD 2 0)))=decide (2<lim)
 a4:2<lim->decide ((ws.length:Int)=totN (cntS (ws.getD 2 0)) (cntL (ws.getD 2 0)) (cntR (ws.getD 2 0)))=decide (3<lim)
theorem qab0(ws:List Nat):∃lim,Lim ws lim:=by
 by_cases h1:8<=ws.length
 ·cases h2:mayB (cntS (ws.getD 2 0)) (cntL (ws.getD 2 0)) (cntR (ws.getD 2 0)) with
  |false=>exact⟨1,Zo,by simp[h1],λ_=>h2,λh=>by omega,λh=>by omega⟩
  |true=>
   by_cases h3:ws.take 8=supL (cntS (ws.getD 2 0)) (cntL (ws.getD 2 0)) (cntR (ws.getD 2 0))
   ·by_cases h4:(ws.length:Int)=totN (cntS (ws.getD 2 0)) (cntL (ws.getD 2 0)) (cntR (ws.getD 2 0))
    ·exact⟨4,Zo,by simp[h1],λ_=>h2,λ_=>decide_eq_true h3,λ_=>decide_eq_true h4⟩
    ·exact⟨3,Zo,by simp[h1],λ_=>h2,λ_=>decide_eq_true h3,λ_=>decide_eq_false h4⟩
   ·exact⟨2,Zo,by simp[h1],λ_=>h2,λ_=>decide_eq_false h3,λh=>by omega⟩
 ·exact⟨0,Zo,by simp[h1],λh=>by omega,λh=>by omega,λh=>by omega⟩
theorem Lim.hit{ws:List Nat}(h:Lim ws 4):Hit ws (cntS (ws.getD 2 0)) (cntL (ws.getD 2 0)) (cntR (ws.getD 2 0)):=
 ⟨h.a2 Zo,of_decide_eq_true (h.a4 Zo),of_decide_eq_true (h.a3 Zo)⟩
theorem Lim.no{ws:List Nat}{lim:Nat}(h:Lim ws lim)(hl:lim<4):∀s l r,¬Hit ws s l r:=by
 obtain⟨h0,h1,h2,h3,h4⟩:=h;match lim,hl with
 |0,_=>exact q7u (by have:=of_decide_eq_false h1;omega)
 |1,_=>exact qacf (h2 Zo)
 |2,_=>exact q6d (of_decide_eq_false (h3 Zo))
 |3,_=>exact q85 (of_decide_eq_false (h4 Zo))
section
variable {w0 V:World} {bl bw bg:Nat} {A:Option Addr} {c:Nat} {ws:List Nat}
def AskAt(w0 V:World)(bl bw bg:Nat)(A:Option Addr)(c:Nat)(ws:List Nat)(j:Nat):Prop:=
 (j<2->Asks w0 V bl bw bg A c ws 0 0 0)/\(2<=j->Asks w0 V bl bw bg A c ws (cntS (ws.getD 2 0)) (cntL (ws.getD 2 0)) (cntR (ws.getD 2 0)))
theorem AskAt.list{j:Nat}(h:AskAt w0 V bl bw bg A c ws j):AskL V bl bw bg:=by
 by_cases hj:j<2
 ·exact(h.1 hj).2.2.2.2.2.2
 ·exact(h.2 Zo).2.2.2.2.2.2
theorem AskL.cells(h:AskL V bl bw bg):V.cell? ⟨bl,0,none⟩=some (.func (.func 124) #[] #[.pointer (some ⟨bw,0,none⟩)])/\V.cell? ⟨bl,1,none⟩=some (.func (.func 125) #[] #[.pointer (some ⟨bw,0,none⟩),.pointer (some ⟨bg,0,none⟩)])
  /\V.cell? ⟨bl,2,none⟩=some (.func (.func 127) #[] #[.pointer (some ⟨bw,0,none⟩),.pointer (some ⟨bg,0,none⟩)])/\V.cell? ⟨bl,3,none⟩=some (.func (.func 130) #[] #[.pointer (some ⟨bw,0,none⟩),.pointer (some ⟨bg,0,none⟩)]):=
 ⟨by rw[qaa h.1];rfl,by rw[qaa h.1];rfl,by rw[qaa h.1];rfl,by rw[qaa h.1];rfl⟩
theorem q7e(lim:Nat)(hL:Lim ws lim)(h:Asks w0 V bl bw bg A c ws 0 0 0)(hcap:ws.length<=c)(hl:ws.length<=9223372036854775807)(hw:∀x∈ws,x<18446744073709551616):Calls Tryz.prog 123 #[.slice (some ⟨bl,0,none⟩) 4 4] V λe w'=>
  e= .returned (.bool (decide (3<lim)))/\∃j,AskAt w0 w' bl bw bg A c ws j/\(3<lim->2<=j):=by
 have hK:=keep hL;have hwK:=keep hw;have hlim:=hL.le;have hA0:AskAt w0 V bl bw bg A c ws 0:=⟨λ_=>h,λh=>by omega⟩
 clear hL hw h;go_enter Tryz.func123,Tryz.ntmps123;go_wp2_with fail;go_loopw [4,7] (λ_ k wr=>∃(W:World) (j:Nat),W=wr/\j<=4/\j<=lim/\k= .int .i64 (j:Int)/\AskAt w0 W bl bw bg A c ws j) (λ_ k _=>4 - (intOf k).toNat)
 case atStart=>exact⟨_,0,rfl,Zo,Zo,rfl,hA0⟩
 case round=>
  clear hA0;obtain⟨W,j,rfl,hj,hjl,rfl,hA⟩:=hrel;obtain⟨f0,f1,f2,f3⟩:=hA.list.cells;have hj5:j=0\/j=1\/j=2\/j=3\/j=4:=Zo
  rcases hj5 with rfl|rfl|rfl|rfl|rfl
  ·have hk:=q55 (hA.1 Zo)
   rw[hK.out.a1] at hk;by_cases hlt:0<lim
   ·rw[decide_eq_true hlt] at hk
    go_wp2_with (go_at_call 124;refine hk.mono ?_;rintro e w' ⟨rfl,rfl⟩)
    go_roundw
    case rel=>exact⟨_,1,rfl,Zo,Zo,rfl,λ_=>hA.1 Zo,λh=>by omega⟩
    case measure=>simp[intOf]
   ·rw[decide_eq_false hlt] at hk
    have hr:decide (3<lim)=false:=decide_eq_false Zo;go_wp2_with (go_at_call 124;refine hk.mono ?_;rintro e w' ⟨rfl,rfl⟩)
    go_ret;exact⟨qab (by rw[hr]),0,hA,λh=>by omega⟩
  ·by_cases hlt:1<lim
   ·have h8:8<=ws.length:=by have:=hK.out.a1;rw[decide_eq_true (show 0<lim by omega)] at this;exact of_decide_eq_true this
    have hk:=quh (hA.1 Zo) h8 hl hwK.out;rw[hK.out.a2 Zo,decide_eq_true hlt] at hk;go_wp2_with (go_at_call 125;refine hk.mono ?_;rintro e w' ⟨rfl,hA2⟩)
    go_roundw
    case rel=>exact⟨_,2,rfl,Zo,Zo,rfl,λh=>by omega,λ_=>hA2⟩
    case measure=>simp[intOf]
   ·have h8:8<=ws.length:=by have:=hK.out.a1;rw[decide_eq_true (show 0<lim by omega)] at this;exact of_decide_eq_true this
    have hk:=quh (hA.1 Zo) h8 hl hwK.out;rw[hK.out.a2 Zo,decide_eq_false hlt] at hk;have hr:decide (3<lim)=false:=decide_eq_false Zo;go_wp2_with (go_at_call 125;refine hk.mono ?_;rintro e w' ⟨rfl,hA2⟩)
    go_ret;exact⟨qab (by rw[hr]),2,⟨λh=>by omega,λ_=>hA2⟩,λh=>by omega⟩
  ·by_cases hlt:2<lim
   ·have h8:8<=ws.length:=by have:=hK.out.a1;rw[decide_eq_true (show 0<lim by omega)] at this;exact of_decide_eq_true this
    have hm:=hK.out.a2 Zo;rw[decide_eq_true (show 1<lim by omega)] at hm;have hk:=qtg (hA.2 Zo) h8 hcap hm;clear hm;rw[hK.out.a3 Zo,decide_eq_true hlt] at hk;go_wp2_with (go_at_call 127;refine hk.mono ?_;rintro e w' ⟨rfl,hA2⟩)
    go_roundw
    case rel=>exact⟨_,3,rfl,Zo,Zo,rfl,λh=>by omega,λ_=>hA2⟩
    case measure=>simp[intOf]
   ·have h8:8<=ws.length:=by have:=hK.out.a1;rw[decide_eq_true (show 0<lim by omega)] at this;exact of_decide_eq_true this
    have hm:=hK.out.a2 Zo;rw[decide_eq_true (show 1<lim by omega)] at hm;have hk:=qtg (hA.2 Zo) h8 hcap hm;clear hm;rw[hK.out.a3 Zo,decide_eq_false hlt] at hk;have hr:decide (3<lim)=false:=decide_eq_false Zo;go_wp2_with (go_at_call 127;refine hk.mono ?_;rintro e w' ⟨rfl,hA2⟩)
    go_ret;exact⟨qab (by rw[hr]),2,⟨λh=>by omega,λ_=>hA2⟩,λh=>by omega⟩
  ·by_cases hlt:3<lim
   ·have hk:=qtd (hA.2 Zo)
    rw[hK.out.a4 Zo,decide_eq_true hlt] at hk;go_wp2_with (go_at_call 130;refine hk.mono ?_;rintro e w' ⟨rfl,hA2⟩)
    go_roundw
    case rel=>exact⟨_,4,rfl,Zo,Zo,rfl,λh=>by omega,λ_=>hA2⟩
    case measure=>simp[intOf]
   ·have hk:=qtd (hA.2 Zo)
    rw[hK.out.a4 Zo,decide_eq_false hlt] at hk;have hr:decide (3<lim)=false:=decide_eq_false Zo;go_wp2_with (go_at_call 130;refine hk.mono ?_;rintro e w' ⟨rfl,hA2⟩)
    go_ret;exact⟨qab (by rw[hr]),2,⟨λh=>by omega,λ_=>hA2⟩,λh=>by omega⟩
  ·have hr:decide (3<lim)=true:=decide_eq_true Zo
   go_wp2_with fail;go_ret;exact⟨qab (by rw[hr]),4,hA,λ_=>by omega⟩
end
theorem q6p(w:World)(A:Option Addr)(c:Nat)(ws:List Nat)(hr:Rd w A ws.length (u64V ws)):
  Asks ((w.alloc (.cells #[.slice A ws.length c] 40)).alloc (.cells #[.int .i64 0,.int .i64 0,.int .i64 0] 23)) ((((w.alloc (.cells #[.slice A ws.length c] 40)).alloc (.cells #[.int .i64 0,.int .i64 0,.int .i64 0] 23)).alloc (.cells #[.int .i64 0,.int .i64 0,.int .i64 0] 23)).alloc (.cells (askC w.heap.size (w.heap.size+1+1)) 31)) (w.heap.size+1+1+1) w.heap.size (w.heap.size+1+1) A c ws 0 0 0:=by
 have e0:((w.alloc (.cells #[.slice A ws.length c] 40)).alloc (.cells #[.int .i64 0,.int .i64 0,.int .i64 0] 23)).heap.size=w.heap.size+1+1:=by simp
 have hbx:=((Boxed.new w 40 (.slice A ws.length c)).alloc (.cells #[.int .i64 0,.int .i64 0,.int .i64 0] 23))
 have hrd:=qd0 (qd0 hr (.cells #[.slice A ws.length c] 40)) (.cells #[.int .i64 0,.int .i64 0,.int .i64 0] 23);generalize ((w.alloc (.cells #[.slice A ws.length c] 40)).alloc (.cells #[.int .i64 0,.int .i64 0,.int .i64 0] 23))=w0 at e0 hbx hrd ⊢;have hg:=Geo.new w0 0 0 0;rw[e0] at hg;refine⟨(hbx.alloc _).alloc _,?_,((wac _ w0).alloc (wab _) _).alloc Zs _,wc3 e0,hrd,Zo,?_,Zo⟩
 ·exact hg.below ((wac _ _).alloc (wab _) _) hg.lt
 ·have:=World.alloc_heap_new (w0.alloc (.cells #[.int .i64 0,.int .i64 0,.int .i64 0] 23)) (.cells (askC w.heap.size (w.heap.size+1+1)) 31)
  rwa [show(w0.alloc (.cells #[.int .i64 0,.int .i64 0,.int .i64 0] 23)).heap.size=w.heap.size+1+1+1 by simp[e0]] at this
theorem qt4(A:Option Addr)(c:Nat)(ws:List Nat)(w:World)(hr:Rd w A ws.length (u64V ws))(hcap:ws.length<=c)(hl:ws.length<=9223372036854775807)(hw:∀x∈ws,x<18446744073709551616):
  Calls Tryz.prog 88 #[.slice A ws.length c] w λe w'=>SupE ws e/\Below w.heap.size w w':=by
 obtain⟨lim,hL⟩:=qab0 ws;have hall:=λ(V w0:World) (bl bw bg:Nat) (h:Asks w0 V bl bw bg A c ws 0 0 0)=>q7e lim hL h hcap hl hw
 have hask:=q6p w A c ws hr;have hB0:Below w.heap.size w ((w.alloc (.cells #[.slice A ws.length c] 40)).alloc (.cells #[.int .i64 0,.int .i64 0,.int .i64 0] 23)):=((wac _ w).alloc (wab _) _).alloc Zs _;have hg0:=Geo.new (w.alloc (.cells #[.slice A ws.length c] 40)) 0 0 0;rw[show(w.alloc (.cells #[.slice A ws.length c] 40)).heap.size=w.heap.size+1 by simp] at hg0;have hs0:w.heap.size+1<((w.alloc (.cells #[.slice A ws.length c] 40)).alloc (.cells #[.int .i64 0,.int .i64 0,.int .i64 0] 23)).heap.size:=hg0.lt;have hhit:Keep (3<lim->Hit ws (cntS (ws.getD 2 0)) (cntL (ws.getD 2 0)) (cntR (ws.getD 2 0))):=keep λh=>by
  obtain rfl:lim=4:=by have:=hL.le;omega
  exact hL.hit
 have hno:Keep (¬3<lim->∀s l r,¬Hit ws s l r):=keep λh=>hL.no Zo
 have hallK:=waa hall;clear hw hL hr hcap hall;go_enter Tryz.func88,Tryz.ntmps88;go_wp2_with fail;generalize ((w.alloc (.cells #[.slice A ws.length c] 40)).alloc (.cells #[.int .i64 0,.int .i64 0,.int .i64 0] 23))=w0 at hask hB0 hg0 hs0 ⊢;refine(hallK.out _ _ _ _ _ hask).mono ?_;rintro e w1 ⟨rfl,j,hA,hj⟩;by_cases hlt:3<lim
 ·have h1:=hA.2 (hj hlt)
  have hh:=keep (hhit.out hlt);obtain⟨c0,c1,c2,f⟩:=h1.2.1.cells;have hg1:=hg0.below h1.2.2.1 hs0;obtain⟨d0,d1,d2,g⟩:=hg1.cells;have hB1:=hB0.trans (h1.2.2.1.mono hB0.size);have hgs:=(hg1.set (s':=cntS (ws.getD 2 0)) (l':=cntL (ws.getD 2 0)) (r':=cntR (ws.getD 2 0))).cells;rw[decide_eq_true hlt];clear hA hj h1 hlt hallK hask hg0 hg1 hhit hno;obtain⟨e0,e1,e2,_⟩:=hgs;go_wp2_with fail;exact bodyPost_ret (v:= .tuple #[.agg #[.int .i64 (cntS (ws.getD 2 0)),.int .i64 (cntL (ws.getD 2 0)),.int .i64 (cntR (ws.getD 2 0))],.int .i64 0]) (by simp[results,Tryz.results88,go_sem,d0,d1,d2]) rfl ⟨.inl ⟨_,_,_,hh.out,rfl⟩,by(iterate 3 refine wa7 ?_ Zs _);exact hB1⟩
 ·have hB1:Below w.heap.size w w1/\Geo w1 (w.heap.size+1) 0 0 0:=by
   by_cases hj2:j<2
   ·have h1:=hA.1 hj2
    exact⟨hB0.trans (h1.2.2.1.mono hB0.size),hg0.below h1.2.2.1 hs0⟩
   ·have h1:=hA.2 Zo
    exact⟨hB0.trans (h1.2.2.1.mono hB0.size),hg0.below h1.2.2.1 hs0⟩
  have hh:=keep (hno.out hlt);obtain⟨hB1,hg1⟩:=hB1;obtain⟨d0,d1,d2,g⟩:=hg1.cells;rw[decide_eq_false hlt];clear hA hj hlt hallK hask hg0 hg1 hhit hno;go_wp2_with fail;exact bodyPost_ret (v:= .tuple #[.agg #[.int .i64 0,.int .i64 0,.int .i64 0],.int .i64 11]) (by simp[results,Tryz.results88,go_sem,d0,d1,d2]) rfl ⟨.inr ⟨hh.out,rfl⟩,by(iterate 3 refine wa7 ?_ Zs _);exact hB1⟩
theorem qact(s l r:Int){k:Nat}(hk:k<5):0<=gP s l r k*gE s l r k/\gP s l r k*gE s l r k<=2000/\(0<gP s l r k*gE s l r k->0<gE s l r k/\gE s l r k<=64)/\0<=gE s l r k:=by
 unfold gP gE;by_cases hm:mayB s l r=true
 ·obtain⟨⟨s0,s1⟩,⟨l0,l1⟩,r0,r1⟩:=mayB_iff.1 hm
  rw[if_pos hm,if_pos hm];match k,hk with
  |0,_=>simp only[arP,arE];omega
  |1,_=>simp only[arP,arE];omega
  |2,_=>simp only[arP,arE];omega
  |3,_=>simp only[arP,arE];omega
  |4,_=>simp only[arP,arE];omega
 ·rw[if_neg hm,if_neg hm]
  omega
theorem qaay{s l r a:Int}(h:a<0):plc s l r a=(5,-1,0):=if_pos Zo
theorem q81{s l r a:Int}(h:sumW (gW s l r) 5<=a):plc s l r a=(5,-1,0):=by
 rw[q1p] at h;unfold totN at h;refine if_pos λ⟨hm,h0,h1⟩=>?_
 rw[if_pos hm] at h;omega
theorem qaby{s l r a:Int}{k:Nat}(hk:k<5)(h0:sumW (gW s l r) k<=a)(h1:a - sumW (gW s l r) k<gW s l r k):
  plc s l r a=if gP s l r k*gE s l r k<=a - sumW (gW s l r) k then((k:Int),-1,a - sumW (gW s l r) k) else((k:Int),(a - sumW (gW s l r) k)/gE s l r k,(a - sumW (gW s l r) k)%gE s l r k):=by
 by_cases hm:mayB s l r=true
 ·obtain⟨⟨s0,s1⟩,⟨l0,l1⟩,r0,r1⟩:=mayB_iff.1 hm
  have e1:gE s l r k=arE s l r k:=if_pos hm;have e2:gP s l r k=arP s l r k:=if_pos hm;rw[qug hm] at h0 h1 ⊢;rw[e1,e2];unfold plc;match k,hk with
  |0,_=>simp only[sumW,arW,arP,arE] at*;rw[if_neg (by simp only[hm,true_and];omega),if_pos Zo,if_neg Zo];refine wch rfl (wch ?_ ?_)<;>simp<;>omega
  |1,_=>
   simp only[sumW,arW,arP,arE] at*;rw[if_neg (by simp only[hm,true_and];omega),if_neg Zo];by_cases c:a<8+r
   ·rw[if_pos c,if_neg Zo];refine wch rfl (wch ?_ ?_)<;>simp<;>omega
   ·rw[if_neg c,if_pos Zo,if_pos Zo];refine wch rfl (wch ?_ ?_)<;>simp<;>omega
  |2,_=>simp only[sumW,arW,arP,arE] at*;rw[if_neg (by simp only[hm,true_and];omega),if_neg Zo,if_neg Zo,if_neg Zo,if_pos Zo,if_neg Zo];refine wch rfl (wch ?_ ?_)<;>simp<;>omega
  |3,_=>simp only[sumW,arW,arP,arE] at*;rw[if_neg (by simp only[hm,true_and];omega),if_neg Zo,if_neg Zo,if_neg Zo,if_neg Zo,if_pos Zo,if_neg Zo];refine wch rfl (wch ?_ ?_)<;>simp<;>omega
  |4,_=>simp only[sumW,arW,arP,arE] at*;rw[if_neg (by simp only[hm,true_and];omega),if_neg Zo,if_neg Zo,if_neg Zo,if_neg Zo,if_neg Zo,if_neg Zo];refine wch rfl (wch ?_ ?_)<;>simp<;>omega
 ·rw[q9p hm] at h0 h1
  simp only[qtp] at h0 h1;omega
theorem q3p(s l r a:Int)(w:World)(a0:-9223372036854775808<=a)(a1:a<=9223372036854775807):Calls Tryz.prog 279 #[.agg #[.int .i64 s,.int .i64 l,.int .i64 r],.int .i64 a] w λe w'=>e= .returned (plV (plc s l r a))/\Below w.heap.size w w':=by
 have hgl:=qgc s l r;have hga:=qhj s l r;have hsb:=λm (hm:m<=5)=>qoj (f:=gW s l r) (n:=5) (λj hj=>(qhj s l r j hj).2.2.2) hm
 have hgl':=waa hgl;have hga':=waa hga;clear hgl hga;go_enter Tryz.func279,Tryz.ntmps279;go_wp2_with fail;go_step3
 go_wp2_with fail;go_step3
 go_wp2_with fail;refine(qfo s l r _).mono ?_;rintro e w1 ⟨rfl,hB⟩;have hB1:=((((wac _ w).alloc (wab _) (.cells #[.int .i64 s,.int .i64 l,.int .i64 r] 23)).alloc Zs (.cells #[.int .i64 0,.int .i64 0,.int .i64 0] 193)).alloc Zx (.cells #[.int .i64 5,.int .i64 (-1),.int .i64 0] 193)).trans (hB.mono Zx);have hz:w.heap.size+1+1<w1.heap.size:=by have:=hB.size;simp at this;omega
 have p0:w1.cell? ⟨w.heap.size+1+1,0,none⟩=some (.int .i64 5):=(hB.cell (p:=⟨w.heap.size+1+1,0,none⟩) Zs).trans (by simp[go_sem]);have p1:w1.cell? ⟨w.heap.size+1+1,1,none⟩=some (.int .i64 (-1)):=(hB.cell (p:=⟨w.heap.size+1+1,1,none⟩) Zs).trans (by simp[go_sem]);have p2:w1.cell? ⟨w.heap.size+1+1,2,none⟩=some (.int .i64 0):=(hB.cell (p:=⟨w.heap.size+1+1,2,none⟩) Zs).trans (by simp[go_sem]);have r0:w1.cell? ⟨w.heap.size+1,0,none⟩=some (.int .i64 0):=(hB.cell (p:=⟨w.heap.size+1,0,none⟩) Zs).trans (by simp[go_sem]);have r1:w1.cell? ⟨w.heap.size+1,1,none⟩=some (.int .i64 0):=(hB.cell (p:=⟨w.heap.size+1,1,none⟩) Zs).trans (by simp[go_sem]);have r2:w1.cell? ⟨w.heap.size+1,2,none⟩=some (.int .i64 0):=(hB.cell (p:=⟨w.heap.size+1,2,none⟩) Zs).trans (by simp[go_sem]);have f0:∀o,w1.frozen? ⟨w.heap.size+1,o,none⟩=false:=λo=>(hB.frozen (p:=⟨w.heap.size+1,o,none⟩) Zs).trans (by simp[go_sem])
 have f1:∀o,w1.frozen? ⟨w.heap.size+1+1,o,none⟩=false:=λo=>(hB.frozen (p:=⟨w.heap.size+1+1,o,none⟩) Zs).trans (by simp[go_sem])
 clear hB;go_wp2_with fail;go_loopw [6,13] (λt q wr=>∃(W:World) (j:Nat) (A:Int),W=wr/\t= .int .i64 A/\q= .int .i64 (j:Int)/\j<=5/\Hid (A=sumW (gW s l r) j)/\(j=0/\A=0\/A<=a)/\0<=A/\A<=10000/\Below w1.heap.size w1 W) (λ_ q _=>5 - (intOf q).toNat)
 case atStart=>exact⟨_,0,0,rfl,rfl,rfl,Zo,waa rfl,.inl ⟨rfl,rfl⟩,Zo,Zo,wac _ _⟩
 case round=>
  obtain⟨W,j,A,rfl,rfl,rfl,hj,hA,hor,hA0,hA1,hBW⟩:=hrel;have P0:=qbr hBW Zo p0;have P1:=qbr hBW Zo p1;have P2:=qbr hBW Zo p2;have R0:=qbr hBW Zo r0;have R1:=qbr hBW Zo r1;have R2:=qbr hBW Zo r2;have F0:∀o,W.frozen? ⟨w.heap.size+1,o,none⟩=false:=λo=>(hBW.frozen (p:=⟨w.heap.size+1,o,none⟩) (by show w.heap.size+1<_;omega)).trans (f0 o)
  have F1:∀o,W.frozen? ⟨w.heap.size+1+1,o,none⟩=false:=λo=>(hBW.frozen (p:=⟨w.heap.size+1+1,o,none⟩) (by show w.heap.size+1+1<_;omega)).trans (f1 o)
  have hzW:w.heap.size+1+1<W.heap.size:=waw hz hBW.size;have hzW1:w.heap.size+1<W.heap.size:=Zo
  have hzn:W.heap.size≠w.heap.size+1+1:=Zo
  have hzm:W.heap.size≠w.heap.size+1:=Zo
  have hBx:=hB1.trans (hBW.mono hB1.size);clear p0 p1 p2 r0 r1 r2 f0 f1;by_cases hlt:j<5
  ·obtain⟨g0,g1,g2,g3,g4⟩:=hga'.out j hlt
   obtain⟨q0,q1,q2,q3⟩:=qact s l r hlt;have hb0:-9223372036854775808<=a - A/\a - A<=9223372036854775807:=Zo
   obtain⟨hb1,hb2⟩:=hb0;have hin:=λ(x:sumW (gW s l r) j<=a) (y:a - sumW (gW s l r) j<gW s l r j)=>qaby hlt x y
   have hA2:A+gW s l r j<=10000:=by
    have h:=(hsb (j+1) Zo).2;have e:sumW (gW s l r) (j+1)=A+gW s l r j:=by rw[hA.out];rfl
    omega
   have z0:(0:Int)<=(j:Int):=Zo
   have z1:(j:Int)<5:=Zo
   by_cases c0:a - A<0
   ·have hp:=waa (qaay (s:=s) (l:=l) (r:=r) (a:=a) Zo)
    clear hin;go_wp2_with (first|(refine qd2 rfl _ _ rfl rfl rfl hgl'.out hlt g0 g1 g2 ?_))
    try rw[wa0]
    refine bodyPost_ret (v:= .agg #[.int .i64 5,.int .i64 (-1),.int .i64 0]) (by simp[results,Tryz.results279,go_sem,R0,R1,R2,hzW1]) rfl ⟨by rw[hp.out];rfl,?_⟩;repeat (first|with_reducible refine wa7 ?_ (by simp<;>omega) _|with_reducible refine wfu ?_ (by simp<;>omega) _)
    with_reducible exact hBx
   ·by_cases c1:gW s l r j<=a - A
    ·go_wp2_with (first|(refine qd2 rfl _ _ rfl rfl rfl hgl'.out hlt g0 g1 g2 ?_))
     go_roundw
     case rel=>exact⟨_,j+1,A+gW s l r j,rfl,rfl,by go_num,Zo,waa (by rw[hA.out];rfl),.inr Zo,Zo,hA2,hBW.alloc hBW.size _⟩
     case measure=>simp[intOf];omega
    ·by_cases c2:gP s l r j*gE s l r j<=a - A
     ·have hp:=waa (hin (by rw[<-hA.out];omega) (by rw[<-hA.out];omega))
      clear hin;go_wp2_with (first|(refine qd2 rfl _ _ rfl rfl rfl hgl'.out hlt g0 g1 g2 ?_))
      try rw[wa0]
      refine bodyPost_ret (v:= .agg #[.int .i64 (j:Int),.int .i64 (-1),.int .i64 (a - A)]) (by simp[results,Tryz.results279,go_sem,R0,R1,R2,hzW1]) rfl ⟨by rw[hp.out,<-hA.out,if_pos c2];rfl,?_⟩;repeat (first|with_reducible refine wa7 ?_ (by simp<;>omega) _|with_reducible refine wfu ?_ (by simp<;>omega) _)
      with_reducible exact hBx
     ·have hp:=waa (hin (by rw[<-hA.out];omega) (by rw[<-hA.out];omega))
      clear hin;have e0:0<gE s l r j:=(q2 Zo).1;have e1:gE s l r j≠0:=Zo
      go_wp2_with (first|(refine qd2 rfl _ _ rfl rfl rfl hgl'.out hlt g0 g1 g2 ?_))
      have hBV:=hBx.alloc Zo (.cells #[.int .i64 (gP s l r j),.int .i64 (gE s l r j),.int .i64 (gW s l r j)] 235);have hAl:=(wac W.heap.size W).alloc (wab _) (.cells #[.int .i64 (gP s l r j),.int .i64 (gE s l r j),.int .i64 (gW s l r j)] 235);have V1:(W.alloc (.cells #[.int .i64 (gP s l r j),.int .i64 (gE s l r j),.int .i64 (gW s l r j)] 235)).cell? ⟨W.heap.size,1,none⟩=some (.int .i64 (gE s l r j)):=by simp
      have S0:=qbr hAl Zo P0;have S1:=qbr hAl Zo P1;have S2:=qbr hAl Zo P2;have T0:=qbr hAl Zo R0;have T1:=qbr hAl Zo R1;have T2:=qbr hAl Zo R2;have G0:∀o,(W.alloc (.cells #[.int .i64 (gP s l r j),.int .i64 (gE s l r j),.int .i64 (gW s l r j)] 235)).frozen? ⟨w.heap.size+1,o,none⟩=false:=λo=>by simp[go_sem,F0,hzW1]
      have G1:∀o,(W.alloc (.cells #[.int .i64 (gP s l r j),.int .i64 (gE s l r j),.int .i64 (gW s l r j)] 235)).frozen? ⟨w.heap.size+1+1,o,none⟩=false:=λo=>by simp[go_sem,F1,hzW]
      generalize (W.alloc (.cells #[.int .i64 (gP s l r j),.int .i64 (gE s l r j),.int .i64 (gW s l r j)] 235))=V at hBV hAl V1 S0 S1 S2 T0 T1 T2 G0 G1 ⊢;clear P0 P1 P2 R0 R1 R2 F0 F1 hBx hBW;go_still_tail 10,Zk
      change wpList _ _ _ _ _ (World.drew _);go_wp2_with fail;try rw[wa0]
      refine bodyPost_ret (v:= .agg #[.int .i64 (j:Int),.int .i64 ((a - A)/gE s l r j),.int .i64 ((a - A)%gE s l r j)]) (by simp[results,Tryz.results279,go_sem,T0,T1,T2]) rfl ⟨by rw[hp.out,<-hA.out,if_neg Zo];rfl,?_⟩;with_reducible refine Below.drew ?_
      repeat (first|with_reducible refine wa7 ?_ (by simp<;>omega) _|with_reducible refine wfu ?_ (by simp<;>omega) _)
      with_reducible exact hBV
  ·obtain rfl:j=5:=Zo
   have hp:=waa (q81 (s:=s) (l:=l) (r:=r) (a:=a) (by rw[<-hA.out];omega));go_wp2_with fail;try rw[wa0]
   refine bodyPost_ret (v:= .agg #[.int .i64 5,.int .i64 (-1),.int .i64 0]) (by simp[results,Tryz.results279,go_sem,R0,R1,R2]) rfl ⟨by rw[hp.out];rfl,?_⟩;repeat (first|with_reducible refine wa7 ?_ (by simp<;>omega) _|with_reducible refine wfu ?_ (by simp<;>omega) _)
   with_reducible exact hBx
end Go.Proofs.YtocncmbeinmiaaaGreat
