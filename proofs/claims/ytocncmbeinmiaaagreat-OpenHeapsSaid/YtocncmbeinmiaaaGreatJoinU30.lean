/- Parts. No condition. -/
import Derived.Test.YtocncmbeinmiaaaGreatJoinU29
import Derived.Test.YtocncmbeinmiaaaGreatJoinU13
set_option linter.unusedVariables false
set_option maxRecDepth 100000
set_option maxHeartbeats 8000000
namespace Go.Proofs.YtocncmbeinmiaaaGreat
open Go Go.RowKit
theorem q2d(b:Int)(n:Nat)(w:World)(hn:n<=2000)(hb:-100000<=b/\b<=100000):
  Calls Tryz.prog 290 #[.int .i64 b,.int .i64 (n:Int)] w λe w'=>∃g,e= .returned (.slice (some ⟨g,0,none⟩) n n)/\w'.ownsRow w.heap.size 3 1 (.slice (some ⟨g,0,none⟩) n n) n (i64V (qbm b n))/\Below w.heap.size w w':=by
 have hmk:=qoy n hn;have hB0:=(wac w.heap.size w).alloc (wab _) (.cells (i64V (List.replicate n 0)).toArray 3);have hr0:(w.alloc (.cells (i64V (List.replicate n 0)).toArray 3)).ownsRow w.heap.size 3 1 (.slice (some ⟨w.heap.size,0,none⟩) n n) n (i64V (qeu b n 0)):=
  ⟨by simp[i64V,qeu],.inr ⟨w.heap.size,n,_,rfl,wab _,World.alloc_heap_new w _,wab _,by unfold maxLen;omega,by simp[i64V],by rw[qyt];simp[i64V]⟩⟩
 replace hB0:=waa hB0;replace hr0:=waa hr0;go_enter Tryz.func290,Tryz.ntmps290;go_wp2_with fail;go_loopg [11] n (λk s11 wr=>∃j:Nat,s11= .int .i64 (j:Int)/\n - j<=k/\j<=n/\Hid (wr.ownsRow w.heap.size 3 1 (.slice (some ⟨w.heap.size,0,none⟩) n n) n (i64V (qeu b n j)))/\Hid (Below w.heap.size w wr))
 case atStart=>exact⟨0,rfl,Zo,Zo,hr0,hB0⟩
 case round=>
  obtain⟨j,rfl,hkj,hj,hrow,hB⟩:=hrel;by_cases hlt:j<n
  ·obtain⟨A',c',he,hR⟩:=Rd.of_own hrow.out
   obtain⟨p,u,hp,hu,hcu⟩:=hR.at_ hlt;subst hp;injection he with e1 e2 e3;injection e1 with e1;subst e1 e3;have hf:=hrow.out.frozenAt j;have e0:(⟨w.heap.size,0,none⟩:Addr).add j=⟨w.heap.size,j,none⟩:=by cases j<;>simp[Addr.add]
   rw[e0] at hcu;have hst:=waa (show(wr.setCell ⟨w.heap.size,j,none⟩ (.int .i64 (b+(j:Int)))).ownsRow w.heap.size 3 1 (.slice (some ⟨w.heap.size,0,none⟩) n n) n (i64V (qeu b n (j+1))) from by
    have:=(hrow.out.stored j (.int .i64 (b+(j:Int)))).1
    rwa [show(i64V (qeu b n j)).set j (.int .i64 (b+(j:Int)))=i64V ((qeu b n j).set j (b+(j:Int))) by simp[i64V,List.map_set],q2r b hlt] at this)
   have hB1:=waa (hB.out.setCell (p:=⟨w.heap.size,j,none⟩) (wab _) (.int .i64 (b+(j:Int))));have hw:IntKind.i64.wrap (b+(j:Int))=b+(j:Int):=wao _ Zo;have z0:(0:Int)<=(j:Int):=Zo
   have z1:(j:Int)<(n:Int):=Zo
   clear hu e0;go_wp2_with fail;go_roundg (n - (j+1))
   case measure=>omega
   case rel=>exact⟨j+1,by go_num,Zo,Zo,hst,hB1⟩
  ·obtain rfl:j=n:=Zo
   rw[q2x] at hrow;go_wp2_with fail;go_ret;exact⟨_,rfl,hrow.out,hB.out⟩
theorem q0n{A:Option Addr}{cap N:Nat}{l:List (Int×Nat)}{w:World}(h:EsRd w A N l)(hm:N<=60000):
  Calls Tryz.prog 166 #[.slice A N cap] w λe w'=>∃v L,e= .returned v/\(L.Pairwise (·< ·)/\(∀x,x∈L↔∃a∈l.map (·.1),qfm a=x)/\L.length<=N)/\w'.ownsRow w.heap.size 3 1 v L.length (i64V L)/\Below w.heap.size w w':=by
 have hof:=waa (qwv A cap N l w h hm);clear h;go_enter Tryz.func166,Tryz.ntmps166;go_wp2_with fail;refine hof.out.mono ?_;rintro e w1 ⟨v,rfl,hrow,hB⟩;obtain⟨AV,cV,rfl,hR⟩:=Rd.of_own hrow;have hli:=waa (qm6 (cap:=cV) hR hm);replace hB:=waa hB;clear hrow hR hof;go_wp2_with fail;refine hli.out.mono ?_;rintro e w2 ⟨v',L,rfl,hL,hrow,hB2⟩;have hB3:=waa (hB.out.trans (hB2.mono hB.out.size));replace hrow:=waa (qax hrow hB.out.size);replace hL:=waa hL;obtain⟨AW,cW,rfl,-⟩:=Rd.of_own hrow.out;generalize hLn:L.length=NL at hrow ⊢;replace hLn:=waa hLn;clear hli hB2 hB;go_wp2_with fail;go_ret;exact⟨_,L,rfl,by have:=hL.out;rwa [hLn.out] at this,by rw[hLn.out];exact hrow.out,hB3.out⟩
theorem q52{l:List (Int×Nat)}:(logB l=true↔0<(logW l).length):=by
 unfold logW;cases h:logB l with
 |true=>
  have h1:1<=l.length:=by unfold logB at h;simp at h;exact h.1.1
  obtain⟨e,r,rfl⟩:∃e r,l=e::r:=by cases l with
   |nil=>simp at h1
   |cons e r=>exact⟨e,r,rfl⟩
  simp[qbe]
 |false=>simp
theorem q0q{A:Option Addr}{cap N:Nat}{l:List (Int×Nat)}{w:World}(h:EsRd w A N l)(hm:N<=9223372036854775807)(hx:∀e∈l,e.2<18446744073709551616):
  Calls Tryz.prog 292 #[.slice A N cap] w λe w'=>e= .returned (.bool (logB l))/\Below w.heap.size w w':=by
 obtain rfl:=h.1;have hw:=waa (qm7 A cap l w h hm hx);have hlw:=waa (q52 (l:=l));clear h;generalize l.length=N at hw ⊢;go_enter Tryz.func292,Tryz.ntmps292;go_wp2_with fail;refine hw.out.mono ?_;rintro e w1 ⟨v,rfl,hrow,hB⟩;obtain⟨AV,cV,rfl,-⟩:=Rd.of_own hrow;replace hB:=waa hB;generalize (logW l).length=K at hlw ⊢;clear hrow hw;go_wp2_with fail;go_ret;exact⟨qab (by
  have:=hlw.out
  cases hb:logB l with
  |true=>simp[this.1 hb]
  |false=>
   have:¬0<K:=λe=>by rw[this.2 e] at hb;cases hb
   simp;omega),hB.out⟩
def qgx(s l r:Int)(es:List (Int×Nat)):Bool:=logB es&&es.all (λe=>qbj s l r e.1)
theorem q7t{A:Option Addr}{cap N:Nat}{es:List (Int×Nat)}{w:World}(s l r:Int)(h:EsRd w A N es)(hm:N<=9223372036854775807)(hx:∀e∈es,e.2<18446744073709551616)(ha:∀e∈es,-9223372036854775808<=e.1/\e.1<=9223372036854775807):
  Calls Tryz.prog 218 #[.agg #[.int .i64 s,.int .i64 l,.int .i64 r],.slice A N cap] w λe w'=>e= .returned (.bool (qgx s l r es))/\Below w.heap.size w w':=by
 have hN:=waa h.1;have hg0:=Gi.new w s l r;have hB0:=(wac w.heap.size w).alloc (wab _) (.cells #[.int .i64 s,.int .i64 l,.int .i64 r] 23);have hisl:=waa (q0q (cap:=cap) (h.below hB0) hm hx);replace h:=waa h;replace hg0:=waa hg0;replace hB0:=waa hB0;replace ha:=waa ha;clear hx;unfold qgx;cases hb:logB es with
 |false=>
  rw[hb] at hisl;go_enter Tryz.func218,Tryz.ntmps218;go_wp2_with fail;refine hisl.out.mono ?_;rintro e w1 ⟨rfl,hB⟩;have hB2:=waa (hB0.out.trans (hB.mono hB0.out.size));go_wp2_with fail;go_ret;exact⟨rfl,hB2.out⟩
 |true=>
  rw[hb] at hisl;rw[wcv];go_enter Tryz.func218,Tryz.ntmps218;go_wp2_with fail;refine hisl.out.mono ?_;rintro e w1 ⟨rfl,hB⟩;have hB2:=waa (hB0.out.trans (hB.mono hB0.out.size));have hg1:=waa (hg0.out.below hB hg0.out.lt);clear hB hisl;go_wp2_with fail;go_loopg [12] N (λk s12 wr=>∃j:Nat,s12= .int .i64 (j:Int)/\N - j<=k/\j<=N/\Hid (Gi wr w.heap.size s l r)/\Hid (Below w.heap.size w wr)/\Hid ((es.drop j).all (λe=>qbj s l r e.1)=es.all (λe=>qbj s l r e.1)))
  case atStart=>exact⟨0,rfl,Zo,Zo,hg1,hB2,waa rfl⟩
  case round=>
   obtain⟨j,rfl,hkj,hj,hg,hB,hall⟩:=hrel;by_cases hlt:j<N
   ·obtain⟨p,a,x,rfl,hd,hmem,c0,c1⟩:=(h.out.below hB.out).at_ hlt
    have hBa:=(wac wr.heap.size wr).alloc (wab _) (.cells #[.int .i64 a,.int .u64 (x:Int)] 152);obtain⟨d0,d1,d2⟩:=(En.new wr a x).cells;have hg3:=hg.out.below hBa hg.out.lt;obtain⟨g0,g1,g2,gf⟩:=hg3.cells;have hmy:=waa (qty s l r a (wr.alloc (.cells #[.int .i64 a,.int .u64 (x:Int)] 152)) (ha.out _ hmem).1 (ha.out _ hmem).2);have hB3:=waa (hB.out.trans (hBa.mono hB.out.size));replace hg3:=waa hg3;have hcs:=hall.out;rw[hd,wdc] at hcs;simp only at hcs;have z0:(0:Int)<=(j:Int):=Zo
    have z1:(j:Int)<(N:Int):=Zo
    have hgs:=hg.out.lt;clear hd hmem hBa;cases hq:qbj s l r a with
    |true=>
     rw[hq] at hmy;rw[hq,wcv] at hcs;replace hcs:=waa hcs;clear hq;go_wp2_with fail;refine hmy.out.mono ?_;rintro e w2 ⟨rfl,hB4⟩;have hB5:=waa (hB3.out.trans (hB4.mono hB3.out.size));have hg4:=waa (hg3.out.below hB4 hg3.out.lt);clear hB4 hmy;go_wp2_with fail;go_roundg (N - (j+1))
     case measure=>omega
     case rel=>exact⟨j+1,by go_num,Zo,Zo,hg4,hB5,hcs⟩
    |false=>
     rw[hq] at hmy;rw[hq,wdg] at hcs;replace hcs:=waa hcs;clear hq;go_wp2_with fail;refine hmy.out.mono ?_;rintro e w2 ⟨rfl,hB4⟩;have hB5:=waa (hB3.out.trans (hB4.mono hB3.out.size));clear hB4 hmy;go_wp2_with fail;go_ret;exact⟨by rw[<-hcs.out];rfl,hB5.out⟩
   ·obtain rfl:j=N:=Zo
    have hcs:=hall.out;rw[wbn (by rw[hN.out];exact wab _),List.all_nil] at hcs;replace hcs:=waa hcs;go_wp2_with fail;go_ret;exact⟨by rw[<-hcs.out];rfl,hB.out⟩
theorem qaa5{W:World}{H base:Nat}(hH:W.heap.size=H)(hb:base<=H)(a:Int)(x:Nat):(W.alloc (.cells #[.int .i64 a,.int .u64 (x:Int)] 152)).ownsRow base 152 2 (.slice (some ⟨H,0,none⟩) 1 1) 1 (eV [(a,x)]):=by
 subst hH;exact⟨rfl,.inr ⟨_,1,_,rfl,hb,World.alloc_heap_new W _,wab _,by unfold maxLen;omega,rfl,rfl⟩⟩
theorem qpd(s l r t:Int)(x:Nat)(w:World):
  Calls Tryz.prog 220 #[.agg #[.int .i64 s,.int .i64 l,.int .i64 r],.int .i64 t,.int .u64 (x:Int)] w λe w'=>∃g,e= .returned (.slice (some ⟨g,0,none⟩) 1 1)/\w'.ownsRow w.heap.size 152 2 (.slice (some ⟨g,0,none⟩) 1 1) 1 (eV [(qbl s l r t,x)])/\Below w.heap.size w w':=by
 obtain⟨g0,g1,g2,gf⟩:=(Gi.new w s l r).cells;have hB0:=(wac w.heap.size w).alloc (wab _) (.cells #[.int .i64 s,.int .i64 l,.int .i64 r] 23);have hln:=waa (qfx s l r t (w.alloc (.cells #[.int .i64 s,.int .i64 l,.int .i64 r] 23)));replace hB0:=waa hB0;go_enter Tryz.func220,Tryz.ntmps220;go_wp2_with fail;refine hln.out.mono ?_;rintro e w1 ⟨rfl,hB⟩;have hB1:=waa (hB0.out.trans (hB.mono hB0.out.size));have hB2:=waa (hB1.out.alloc hB1.out.size (.cells #[.int .i64 (qbl s l r t),.int .u64 (x:Int)] 152));have hrow:=waa (qaa5 (W:=w1) rfl hB1.out.size (qbl s l r t) x);clear hB hln;go_wp2_with fail;go_ret;exact⟨_,rfl,hrow.out,hB2.out⟩
theorem AP.each_append{σ β:Type}(f:β->AP σ Unit)(a b:List β):AP.each f (a++b)=(AP.each f a).bind λ_=>AP.each f b:=by
 induction a with
 |nil=>rfl
 |cons x r ih=>
  show(f x).bind (λ_=>AP.each f (r++b))=((f x).bind λ_=>AP.each f r).bind λ_=>AP.each f b
  rw[AP.bind_bind,ih]
theorem AP.each_one{σ β:Type}(f:β->AP σ Unit)(b:β):AP.each f [b]=f b:=by
 show(f b).bind (λ_=>AP.ret ())=f b
 exact AP.bind_ret (f b)
theorem AP.each_split{σ β:Type}(f:β->AP σ Unit){bs:List β}{j:Nat}{b:β}(h:bs[j]? =some b):AP.each f bs=((AP.each f (bs.take j)).bind λ_=>f b).bind λ_=>AP.each f (bs.drop (j+1)):=by
 have hj:j<bs.length:=(wan.1 h).1;have hd:bs.drop j=b::bs.drop (j+1):=by
  rw[wbc hj];rw[waj hj] at h;injection h with h;rw[h]
 conv=>lhs;rw[<-whb j bs,hd]
 rw[AP.each_append];show(AP.each f (bs.take j)).bind (λ_=>(f b).bind λ_=>AP.each f (bs.drop (j+1)))=_
 rw[AP.bind_bind]
theorem AP.each_next{σ β:Type}(f:β->AP σ Unit){bs:List β}{j:Nat}{b:β}(h:bs[j]? =some b):AP.each f (bs.take (j+1))=(AP.each f (bs.take j)).bind λ_=>f b:=by
 rw[wb4,h,we9,AP.each_append,AP.each_one]
section
variable {τ:Type} {E:DP τ} {i:Nat} {l:List Nat} {s:DM×τ} {F:Nat->Prop} {w w':World}
theorem DP.Post.more{α:Type}{o:Out (DM×τ) α}{R:α->Value->World->Prop}{w0:World}{e:Ending}(h:E.Post o R F w e w')(hu:Upd (λ_=>False) w0 w):E.Post o R F w0 e w':=
 h.after (hu.mono (λ_ e=>e.elim)) (Grows.refl _ _)
theorem qno{β:Type}{A:Option Addr}{cap n Fn:Nat}{caps:Array Value}{zs:List Int}(bs:List β)(f:β->AP (DM×τ) Unit)(hen:∀(args:Array Value) (w:World),(callFunc Fn args).run Tryz.prog w= .ok (.enter Fn args) w)(hl:zs.length=n)(hbl:bs.length=n)(hn:n<=60000)(h:E.In i l s F w)(hrow:Rd w A n (i64V zs))(hA:∀p,A=some p->0<n->p.block<w.heap.size/\¬F p.block)(hw:AP.each f bs E.sp i l s≠ .wild)(hstep:∀(j:Nat) (b:β) (a:Int) V i' l' s' F',bs[j]? =some b->zs[j]? =some a->E.In i' l' s' F' V->Upd F w V->Grows F F' w->f b E.sp i' l' s'≠ .wild->Calls Tryz.prog Fn (#[.int .i64 (j:Int),.int .i64 a]++caps) V λe V'=>E.Post (f b E.sp i' l' s') qdr F' V e V'):
  Calls Tryz.prog 289 #[.slice A n cap,.func (.func Fn) #[] caps] w λe w'=>E.Post (AP.each f bs E.sp i l s) qdr F w e w':=by
 refine(qpu (cap:=cap) (zs:=zs) hen hl hn
  (λj V=>∃i' l' s' F',AP.each f (bs.take j) E.sp i l s= .done () i' l' s'/\E.In i' l' s' F' V/\Grows F F' w/\Upd F w V)
  (λe V=>∃bl l' s' F',AP.each f bs E.sp i l s= .stop bl l' s'/\e= .panicked (qc8 E.eb)/\E.Off bl l' s' F' V/\Grows F F' w/\Upd F w V)
  ⟨i,l,s,F,rfl,h,Grows.refl _ _,Upd.refl _ _⟩ ?_ ?_).mono ?_
 ·rintro j V ⟨i',l',s',F',-,-,-,hu⟩
  refine⟨hrow.1,λhn0=>?_⟩;obtain⟨p,rfl,hc⟩:=hrow.2 hn0;refine⟨p,rfl,λk u hk=>?_⟩;have hpb:(p.add k).block=p.block:=by cases k<;>rfl
  rw[hu.cell (by rw[hpb];exact(hA p rfl hn0).1) (by rw[hpb];exact(hA p rfl hn0).2)];exact hc k u hk
 ·rintro j a V hj ha ⟨i',l',s',F',he,hI,hg,hu⟩
  obtain⟨b,hb⟩:∃b,bs[j]? =some b:=⟨_,waj (show j<bs.length by omega)⟩
  have hwf:f b E.sp i' l' s'≠ .wild:=by
   rw[AP.each_split f hb] at hw;exact AP.tame_next (f:=λ_=>f b) (AP.tame hw) he
  refine(hstep j b a V i' l' s' F' hb ha hI hu hg hwf).mono ?_;intro e V' hpost;rcases hpost.done hwf with ⟨u,i2,l2,s2,v,F2,ho,rfl,hv,hI2,hg2,hu2⟩|⟨bl,l2,s2,F2,ho,rfl,hO,hg2,hu2⟩
  ·refine .inl ⟨by rw[hv],i2,l2,s2,F2,?_,hI2,hg.trans hg2 hu.size,hu.after hu2 hg⟩
   rw[AP.each_next f hb,AP.bind_done he];exact ho
  ·refine .inr ⟨_,rfl,bl,l2,s2,F2,?_,rfl,hO,hg.trans hg2 hu.size,hu.after hu2 hg⟩
   rw[AP.each_split f hb];exact AP.bind_stop (by rw[AP.bind_done he];exact ho)
 ·rintro e w' (⟨rfl,i',l',s',F',he,hI,hg,hu⟩|⟨ch,he',bl,l',s',F',ho,he,hO,hg,hu⟩)
  ·rw[wa2 Zo] at he
   exact DP.Post.ended (t:=AP.each f bs) he rfl rfl hI hg hu
  ·exact DP.Post.stopped (t:=AP.each f bs) ho he hO hg hu
end
def qb4(zs:List Int):List Int:=((List.range 2048).map λ(i:Nat)=>((8*i:Nat):Int)).filter λa=>zs.any λz=>decide (z/8*8=a)
theorem qim{zs:List Int}(h:∀z∈zs,0<=z/\z<16384)(x:Int):x∈qb4 zs↔∃z∈zs,z/8*8=x:=by
 unfold qb4;rw[List.mem_filter,wf5];constructor
 ·rintro⟨-,z,hz,e⟩
  exact⟨z,hz,of_decide_eq_true e⟩
 ·rintro⟨z,hz,rfl⟩
  have:=h z hz
  refine⟨wav.2 ⟨(z/8).toNat,wcc.2 Zo,Zo⟩,z,hz,decide_eq_true rfl⟩
theorem qlg(zs:List Int):(qb4 zs).Pairwise (·< ·):=by
 unfold qb4;refine List.Pairwise.filter _ ?_;rw[wfx];exact List.pairwise_lt_range.imp (λh=>by omega)
theorem qrz:∀{a b:List Int},a.Pairwise (·< ·)->b.Pairwise (·< ·)->(∀x,x∈a↔x∈b)->a=b
 |[],[],_,_,_=>rfl
 |[],y::b,_,_,h=>absurd ((h y).2 Zs) Zs
 |x::a,[],_,_,h=>absurd ((h x).1 Zs) Zs
 |x::a,y::b,ha,hb,h=>by
  obtain⟨h1,h2⟩:=wgd.1 ha;obtain⟨h3,h4⟩:=wgd.1 hb;have hxy:x=y:=by
   have e1:=(h x).1 Zs;have e2:=(h y).2 Zs;rcases wbg.1 e1 with e|e
   ·exact e
   ·rcases wbg.1 e2 with e'|e'
    ·exact e'.symm
    ·have:=h1 y e';have:=h3 x e;omega
  subst hxy;rw[qrz h2 h4 (λz=>?_)];constructor
  ·intro hz
   rcases wbg.1 ((h z).1 (by simp[hz])) with e|e
   ·have:=h1 z hz;omega
   ·exact e
  ·intro hz
   rcases wbg.1 ((h z).2 (by simp[hz])) with e|e
   ·have:=h3 z hz;omega
   ·exact e
theorem qr6{zs L:List Int}(h:∀z∈zs,0<=z/\z<16384)(hL:L.Pairwise (·< ·))(hm:∀x,x∈L↔∃a∈zs,qfm a=x):L=qb4 zs:=
 qrz hL (qlg zs) (λx=>by
  rw[hm,qim h];constructor
  ·rintro⟨a,ha,rfl⟩
   exact⟨a,ha,(qtk (h a ha).1 (by have:=(h a ha).2;omega)).symm⟩
  ·rintro⟨a,ha,rfl⟩
   exact⟨a,ha,qtk (h a ha).1 (by have:=(h a ha).2;omega)⟩)
theorem qt6{U:World}{B n c:Nat}{A:Option Addr}{e:TypeId}{xs:List Value}(h:U.ownsRow B e 1 (.slice A n c) n xs):Rd U A n xs:=by
 obtain⟨A',c',e,hR⟩:=Rd.of_own h;injection e with e1 e2 e3;subst e1;exact hR
section
variable {τ:Type} {E:DP τ} {i:Nat} {l:List Nat} {s:DM×τ} {F:Nat->Prop} {w w':World}
def qc7(n nl:Nat)(who:Int)(e:Int×Nat):AP (DM×τ) Unit:=AP.ask (onM (doF n nl who 0 e.1 e.2)) (λ_=>())
def qca(n nl:Nat)(who:Int)(a:Int):AP (DM×τ) Unit:=AP.ask (onM (doF n nl who 2 a 0)) (λ_=>())
def qcr(n nl:Nat)(who:Int):AP (DM×τ) Unit:=AP.ask (onM (doF n nl who 3 0 0)) (λ_=>())
def qc9(n nl:Nat)(who:Int)(es:List (Int×Nat)):AP (DM×τ) Unit:=
 (AP.each (qc7 n nl who) es).bind λ_=>(AP.each (qca n nl who) (qb4 (es.map (·.1)))).bind λ_=>qcr n nl who
theorem EsRd.upd{G:Nat->Prop}{A:Option Addr}{n:Nat}{es:List (Int×Nat)}(h:EsRd w A n es)(hu:Upd G w w')(hG:∀p,A=some p->0<n->¬G p.block):EsRd w' A n es:=
 ⟨h.1,λhn=>by
  obtain⟨p,e,hp⟩:=h.2 hn;have hg:=hG p e hn;have hb:∀k,(p.add k).block=p.block:=λk=>by cases k<;>rfl
  refine⟨p,e,λj x hx=>?_⟩;obtain⟨h0,h1⟩:=hp j x hx;exact⟨(hu.cell (wak w _ h0) (by rw[hb];exact hg)).trans h0,(hu.cell (wak w _ h1) (by show ¬G (p.add (j*2)).block;rw[hb];exact hg)).trans h1⟩⟩
theorem q1a{V:World}(h:E.In i l s F V){be bs N cap j x:Nat}{A:Option Addr}{es:List (Int×Nat)}{a:Int}(hbe:Boxed V be 136 (.pointer (some ⟨E.eb,0,none⟩)))(hbs:Boxed V bs 138 (.slice A N cap))(hes:EsRd V A N es)(hj:es[j]? =some (a,x))(hx:x<18446744073709551616)(hw:qc7 E.n E.nl E.who (a,x) E.sp i l s≠ .wild):
  Calls Tryz.prog 293 #[.int .i64 (j:Int),.int .i64 a,.pointer (some ⟨be,0,none⟩),.pointer (some ⟨bs,0,none⟩)] V λe V'=>E.Post (qc7 E.n E.nl E.who (a,x) E.sp i l s) qdr F V e V':=by
 have hjN:j<N:=by rw[<-hes.1];exact(wan.1 hj).1
 obtain⟨p,rfl,hp⟩:=hes.2 Zo;obtain⟨c0,c1⟩:=hp j _ hj;simp only at c0 c1;have hst:=waa (qrf (h.new (w':=V.drew) ((Upd.refl _ V).drew)) a hx hw);replace hw:=waa hw;have b0:=hbe.cell;have b1:=hbs.cell;have z0:(0:Int)<=(j:Int):=Zo
 have z1:(j:Int)<(N:Int):=Zo
 clear h hbe hbs hes hp;go_enter Tryz.func293,Tryz.ntmps293;go_wp2_with fail;go_still_tail 7,Zk
 change wpList _ _ _ _ _ V.drew;go_wp2_with fail;refine hst.out.mono ?_;intro e V1 hpost;have hpost:=hpost.more (w0:=V) ((Upd.refl _ V).drew);rcases hpost.done hw.out with ⟨u,i2,l2,s2,v,F2,ho,rfl,rfl,hI,hg,hu⟩|⟨bl,l2,s2,F2,ho,rfl,hO,hg,hu⟩
 ·have hfin:=waa (DP.Post.ended (t:=qc7 E.n E.nl E.who (a,x)) (R:=qdr) (v:= .tuple #[]) ho rfl rfl hI hg hu)
  clear hpost ho hI hg hu;go_wp2_with fail;go_end0
  exact hfin.out
 ·exact⟨rfl,DP.Post.stopped (t:=qc7 E.n E.nl E.who (a,x)) ho rfl hO hg hu⟩
theorem q1y{V:World}(h:E.In i l s F V){be j:Nat}{a:Int}(hbe:Boxed V be 136 (.pointer (some ⟨E.eb,0,none⟩)))(hw:qca E.n E.nl E.who a E.sp i l s≠ .wild):
  Calls Tryz.prog 294 #[.int .i64 (j:Int),.int .i64 a,.pointer (some ⟨be,0,none⟩)] V λe V'=>E.Post (qca E.n E.nl E.who a E.sp i l s) qdr F V e V':=by
 have hst:=waa (qtc h a hw);replace hw:=waa hw;have b0:=hbe.cell;clear h hbe;go_enter Tryz.func294,Tryz.ntmps294;go_wp2_with fail;refine hst.out.mono ?_;intro e V1 hpost;rcases hpost.done hw.out with ⟨u,i2,l2,s2,v,F2,ho,rfl,rfl,hI,hg,hu⟩|⟨bl,l2,s2,F2,ho,rfl,hO,hg,hu⟩
 ·have hfin:=waa (DP.Post.ended (t:=qca E.n E.nl E.who a) (R:=qdr) (v:= .tuple #[]) ho rfl rfl hI hg hu)
  clear hpost ho hI hg hu;go_wp2_with fail;go_end0
  exact hfin.out
 ·exact⟨rfl,DP.Post.stopped (t:=qca E.n E.nl E.who a) ho rfl hO hg hu⟩
theorem qkp(h:E.In i l s F w){A:Option Addr}{cap N:Nat}{es:List (Int×Nat)}(hes:EsRd w A N es)(hA:∀p,A=some p->0<N->¬F p.block)(hr:∀e∈es,0<=e.1/\e.1<16384)(hx:∀e∈es,e.2<18446744073709551616)(hN:N<=60000)(hw:qc9 E.n E.nl E.who es E.sp i l s≠ .wild):
  Calls Tryz.prog 219 #[.pointer (some ⟨E.eb,0,none⟩),.slice A N cap] w λe w'=>E.Post (qc9 E.n E.nl E.who es E.sp i l s) qdr F w e w':=by
 have hmf:∀(fn:Fn) (first cap:Array Value) (w:World),(Instr.makeFunc fn first cap).run Tryz.prog w= .ok (.func fn first cap) w:=λ_ _ _ _=>rfl
 have hu0:Upd (λ_=>False) w ((w.alloc (.cells #[.pointer (some ⟨E.eb,0,none⟩)] 136)).alloc (.cells #[.slice A N cap] 138)):=((Upd.refl _ w).alloc _).alloc _;have hbe:Boxed ((w.alloc (.cells #[.pointer (some ⟨E.eb,0,none⟩)] 136)).alloc (.cells #[.slice A N cap] 138)) w.heap.size 136 (.pointer (some ⟨E.eb,0,none⟩)):=qag (qan rfl _ _) _;have hbs:Boxed ((w.alloc (.cells #[.pointer (some ⟨E.eb,0,none⟩)] 136)).alloc (.cells #[.slice A N cap] 138)) (w.heap.size+1) 138 (.slice A N cap):=qan Zs _ _;have hI0:=h.new hu0;have hFl:=waa (λk (hk:F k)=>h.lt hk);have hes0:=hes.upd hu0 (λ_ _ _ e=>e);have hesl:=waa hes.1;generalize hW:(w.alloc (.cells #[.pointer (some ⟨E.eb,0,none⟩)] 136)).alloc (.cells #[.slice A N cap] 138)=W at hu0 hbe hbs hI0 hes0;have hof:=waa (qwv A cap N es W hes0 hN);have b1:=hbs.cell;replace hu0:=waa hu0;replace hbe:=waa hbe;replace hbs:=waa hbs;replace hI0:=waa hI0;replace hes0:=waa hes0;replace hw:=waa hw;replace hr:=waa hr;replace hx:=waa hx;replace hA:=waa hA;clear h hes;go_enter Tryz.func219,Tryz.ntmps219;go_wp2_with fail;replace hW:=waa hW;refine hof.out.mono ?_;rintro e W1 ⟨v,rfl,hrow,hB1⟩;obtain⟨AV,cV,rfl,hRd⟩:=Rd.of_own hrow;have hwW:w.heap.size+2<=W.heap.size:=by rw[<-hW.out];simp
 have hu1:Upd (λ_=>False) W W1:=Upd.of_below hB1 (wab _);have hI1:=hI0.out.new hu1;have hbe1:=qal hbe.out hu1 (λe=>e);have hbs1:=qal hbs.out hu1 (λe=>e);have hes1:=hes0.out.upd hu1 (λ_ _ _ e=>e);have hnF:∀k,w.heap.size<=k->¬F k:=λk hk e=>by have:=hFl.out k e;omega
 have hrb:∀k,(Value.slice AV N cV).ownBlock=some k->¬F k:=λk hk=>hnF k (by have:=(hrow.lt k hk).1;omega)
 have hal:=waa (qno (cap:=cV) es (qc7 E.n E.nl E.who) (Fn:=293) (caps:=#[.pointer (some ⟨w.heap.size,0,none⟩),.pointer (some ⟨w.heap.size+1,0,none⟩)]) (λargs w=>by simp[go_sem]) (by rw[wbr];exact hesl.out) hesl.out hN hI1 hRd
  (λp e h0=>by subst e;exact⟨(hrow.lt p.block rfl).2,hrb p.block rfl⟩) (AP.tame hw.out) (λj b a V i' l' s' F' hb ha hI hu hg hwf=>by
   obtain⟨ba,bx⟩:=b;obtain rfl:ba=a:=by
    rw[wa1,hb] at ha;injection ha with ha
   exact q1a hI (qal hbe1 hu (hnF _ (wab _))) (qal hbs1 hu (hnF _ Zo)) (hes1.upd hu hA.out) hb (hx.out _ (waq hb)) hwf))
 have huW1:=waa ((hu0.out.trans hu1).mono (G:=F) (λ_ e=>e.elim));have hbe1:=waa hbe1;replace hrow:=waa hrow;replace hrb:=waa hrb;replace hnF:=waa hnF;replace hwW:=waa hwW;clear hu1 hI1 hbs1 hes1 hB1 hRd hof;have b1':=b1;clear b1;go_wp2_with fail;refine hal.out.mono ?_;intro e V1 hpost;rcases hpost.done (AP.tame hw.out) with ⟨u1,i1,l1,s1,v1,F1,ho1,rfl,rfl,hI2,hg1,hu2⟩|⟨bl,l1,s1,F1,ho1,rfl,hO,hg1,hu2⟩
 rotate_left
 ·exact⟨rfl,DP.Post.stopped (t:=qc9 E.n E.nl E.who es) (AP.bind_stop ho1) rfl hO (λk hk=>(hg1 k hk).imp id (λe=>wap huW1.out.size e)) (huW1.out.trans hu2)⟩
 have hrow1:=qde hrow.out hu2 hrb.out;have hRd1:Rd V1 AV N (i64V (es.map (·.1))):=qt6 hrow1;have hli:=waa (qm6 (cap:=cV) hRd1 hN);have hgT:Grows F F1 w:=λk hk=>(hg1 k hk).imp id (λe=>wap huW1.out.size e)
 have huT:=huW1.out.trans hu2;have hbe2:=waa (qal hbe1.out hu2 (hnF.out _ (wab _)));have hF1l:=waa (λk (hk:F1 k)=>hI2.lt hk);have hbF1:=waa (show ¬F1 w.heap.size from λe=>by
  rcases hg1 _ e with e'|e'
  ·exact hnF.out _ (wab _) e'
  ·have:=hwW.out;have:=hu0.out.size;have:=huW1.out.size;have hb:=hbe1.out.lt;omega)
 replace hI2:=waa hI2;replace ho1:=waa ho1;replace hgT:=waa hgT;replace huT:=waa huT;clear hpost hg1 hu2 hal hrow1 hRd1;go_wp2_with fail;refine hli.out.mono ?_;rintro e V2 ⟨v,L,rfl,⟨hL1,hL2,hL3⟩,hrowL,hB2⟩;have hLc:L=qb4 (es.map (·.1)):=qr6 (λz hz=>by
  obtain⟨e,he,rfl⟩:=wav.1 hz;exact hr.out e he) hL1 hL2
 obtain⟨AL,cL,rfl,hRdL⟩:=Rd.of_own hrowL;have hu3:Upd (λ_=>False) V1 V2:=Upd.of_below hB2 (wab _);have hI3:=hI2.out.new hu3;have hbe3:=qal hbe2.out hu3 (λe=>e);have hw2:((AP.each (qca E.n E.nl E.who) L).bind λ_=>qcr E.n E.nl E.who) E.sp i1 l1 s1≠ .wild:=by
  rw[hLc];have h:=hw.out;unfold qc9 at h;rw[AP.bind_done ho1.out] at h;exact h
 have hal:=waa (qno (cap:=cL) L (qca E.n E.nl E.who) (Fn:=294) (caps:=#[.pointer (some ⟨w.heap.size,0,none⟩)]) (λargs w=>by simp[go_sem]) rfl rfl Zo hI3 hRdL
  (λp e h0=>by subst e;exact⟨(hrowL.lt p.block rfl).2,λe=>by have:=hF1l.out _ e;have:=(hrowL.lt p.block rfl).1;omega⟩) (AP.tame hw2) (λj b a V i' l' s' F' hb ha hI hu hg hwf=>by
   obtain rfl:b=a:=by
    rw[hb] at ha;injection ha
   exact q1y hI (qal hbe3 hu hbF1.out) hwf))
 have hkeep:Hid (qc9 E.n E.nl E.who es E.sp i l s=((AP.each (qca E.n E.nl E.who) L).bind λ_=>qcr E.n E.nl E.who) E.sp i1 l1 s1):=waa (by
  rw[hLc];exact AP.bind_done ho1.out)
 replace hw2:=waa hw2;have huT2:=waa (huT.out.trans (hu3.mono (G:=F) (λ_ e=>e.elim)));replace hbe3:=waa hbe3;generalize L.length=M at hal ⊢;clear hLc hL1 hL2 hL3 hrowL hB2 hRdL hu3 hI3 hli;go_wp2_with fail;refine hal.out.mono ?_;intro e V3 hpost;rcases hpost.done (AP.tame hw2.out) with ⟨u2,i2,l2,s2,v2,F2,ho2,rfl,rfl,hI4,hg2,hu4⟩|⟨bl,l2,s2,F2,ho2,rfl,hO,hg2,hu4⟩
 rotate_left
 ·exact⟨rfl,DP.Post.stopped (t:=qc9 E.n E.nl E.who es) (hkeep.out.trans (AP.bind_stop ho2)) rfl hO (hgT.out.trans hg2 huT2.out.size) (huT2.out.after hu4 hgT.out)⟩
 have hw3:qcr E.n E.nl E.who E.sp i2 l2 s2≠ .wild:=AP.tame_next (f:=λ_=>qcr E.n E.nl E.who) hw2.out ho2;have hfe:=waa (qri hI4 hw3);have hkeep2:Hid (qc9 E.n E.nl E.who es E.sp i l s=qcr E.n E.nl E.who E.sp i2 l2 s2):=waa (hkeep.out.trans (AP.bind_done ho2));have huT3:=waa (huT2.out.after hu4 hgT.out);have hgT2:=waa (hgT.out.trans hg2 huT2.out.size);have y0:=(qal hbe3.out hu4 hbF1.out).cell;replace hw3:=waa hw3;clear hpost hI4 ho2 hg2 hu4 hal hkeep;go_wp2_with fail;refine hfe.out.mono ?_;intro e V4 hpost;have hpost:=hpost.after huT3.out hgT2.out;rcases hpost.done hw3.out with ⟨u3,i3,l3,s3,v3,F3,ho3,rfl,rfl,hI5,hg3,hu5⟩|⟨bl,l3,s3,F3,ho3,rfl,hO,hg3,hu5⟩
 rotate_left
 ·exact⟨rfl,DP.Post.stopped (t:=qc9 E.n E.nl E.who es) (hkeep2.out.trans ho3) rfl hO hg3 hu5⟩
 have hfin:=waa (DP.Post.ended (t:=qc9 E.n E.nl E.who es) (R:=qdr) (v:= .tuple #[]) (hkeep2.out.trans ho3) rfl rfl hI5 hg3 hu5);clear hpost hI5 ho3 hg3 hu5 hfe;go_wp2_with fail;go_end0
 exact hfin.out
end
theorem qxe{V w4:World}{O:Obj}{bs:Nat}{t e:TypeId}{size k k':Nat}{v v':Value}{xs ys:List Value}(hb:Boxed V bs t v)(hrow:V.ownsRow (bs+1) e size v k xs)(hown:w4.ownsRow (bs+1) e size v' k' ys)(hg:(V.alloc O).grownBy w4 v.ownBlock):
  w4.heap[bs]? =some (.cells #[v] t (0,0))/\Boxed (w4.setCell ⟨bs,0,none⟩ v') bs t v'/\(w4.setCell ⟨bs,0,none⟩ v').ownsRow (bs+1) e size v' k' ys/\Upd (λq=>q=bs\/v.ownBlock=some q) V (w4.setCell ⟨bs,0,none⟩ v'):=by
 have h1:w4.heap[bs]? =some (.cells #[v] t (0,0)):=
  ((hg.block bs (by have:=hb.lt;simp;omega) (λe=>by have:=(hrow.lt bs e.symm).1;omega)).trans (wbv _ _ _ hb.lt)).trans hb
 have hu:Upd (λq=>q=bs\/v.ownBlock=some q) V w4:=((Upd.refl _ V).alloc O).grown hg (λk hk=> .inl (.inr hk));exact⟨h1,(show Boxed w4 bs t v from h1).set v',qde hown (qiw (G:=λq=>q=bs) (p:=⟨bs,0,none⟩) rfl v') (λk hk e=>by have:=(hown.lt k hk).1;omega),hu.setCell (p:=⟨bs,0,none⟩) (.inl (.inl rfl)) v'⟩
structure WrSt (V:World) (bg bw bs:Nat) (s l r:Int) (AW:Option Addr) (K cW B:Nat) (ws:List Nat):Prop where
 geo:Gi V bg s l r
 box:Boxed V bw 40 (.slice AW K cW)
 row:V.ownsRow B 27 1 (.slice AW K cW) K (u64V ws)
 store:Boxed V bs 138 (.slice none 0 0)
theorem q0j(s l r t:Int):-100000<=entN s l r t 0/\entN s l r t 0<=100000:=by
 unfold entN;split
 ·rename_i h
  have h4:=h.1;simp[mayB,cntB] at h4
  omega
 ·omega
theorem qabj{s l r t:Int}(h:0<=qbl s l r t):mayB s l r=true/\0<=t/\t<l/\l<=4/\qbl s l r t=16+40*t/\entN s l r t 0=24+40*t:=by
 unfold qbl at h ⊢;split at h
 ·rename_i h1
  have h4:=h1.1;simp[mayB,cntB] at h4
  refine⟨h1.1,h1.2.1,h1.2.2,Zo,by rw[if_pos h1],?_⟩;unfold entN;rw[if_pos ⟨h1.1,⟨h1.2.1,h1.2.2⟩,Zo,Zo⟩];omega
 ·omega
theorem q9z{es:List (Int×Nat)}(h:logB es=true):1<=es.length/\es.length<=16/\∀e∈es,0<=e.1/\e.1<16384:=by
 unfold logB at h;simp only[wce,decide_eq_true_eq] at h;refine⟨h.1.1,h.1.2,λe he=>?_⟩;have:=wcp.1 h.2 e he
 rw[entB_iff] at this;exact⟨this.1,Zo⟩
section
variable {τ:Type} {E:DP τ} {i:Nat} {l:List Nat} {s:DM×τ} {F:Nat->Prop} {w w':World}
theorem q7c{W:World}{H:Nat}(hH:W.heap.size=H)(x:Nat):(W.alloc (.cells #[.int .u64 (x:Int)] 27)).ownsRow 0 27 1 (.slice (some ⟨H,0,none⟩) 1 1) 1 (u64V [x]):=by
 subst hH;exact⟨rfl,.inr ⟨_,1,_,rfl,wau _,World.alloc_heap_new W _,wab _,by unfold maxLen;omega,rfl,rfl⟩⟩
end
section
variable {τ:Type} {E:DP τ} {i:Nat} {l:List Nat} {s:DM×τ} {F:Nat->Prop} {w w':World}
def qdl(n nl:Nat)(who:Int)(a:Int):AP (DM×τ) Nat:=AP.ask (onM (doF n nl who 1 a 0)) id
def qbg(n nl:Nat)(who:Int):List Int->List Nat->AP (DM×τ) (List Nat)
 |[],ws=>AP.ret ws
 |a::r,ws=>(qdl n nl who a).bind λx=>qbg n nl who r (ws++[x])
theorem qjn(n nl:Nat)(who:Int)(a b:List Int)(ws:List Nat):(qbg (τ:=τ) n nl who (a++b) ws)=(qbg n nl who a ws).bind λx=>qbg n nl who b x:=by
 induction a generalizing ws with
 |nil=>rfl
 |cons x r ih=>
  show(qdl n nl who x).bind (λy=>qbg n nl who (r++b) (ws++[y]))=((qdl n nl who x).bind λy=>qbg n nl who r (ws++[y])).bind λx=>qbg n nl who b x
  rw[AP.bind_bind];congr 1
  funext y
  rw[ih]
theorem qll(n nl:Nat)(who:Int){zs:List Int}{j:Nat}{a:Int}(h:zs[j]? =some a)(ws:List Nat):qbg (τ:=τ) n nl who (zs.take (j+1)) ws=(qbg n nl who (zs.take j) ws).bind λx=>(qdl n nl who a).bind λy=>AP.ret (x++[y]):=by
 rw[wb4,h,we9,qjn];rfl
theorem qfp(n nl:Nat)(who:Int){zs:List Int}{j:Nat}{a:Int}(h:zs[j]? =some a)(ws:List Nat):qbg (τ:=τ) n nl who zs ws=(qbg n nl who (zs.take j) ws).bind λx=>(qdl n nl who a).bind λy=>qbg n nl who (zs.drop (j+1)) (x++[y]):=by
 have hj:j<zs.length:=(wan.1 h).1;have hd:zs.drop j=a::zs.drop (j+1):=by
  rw[wbc hj];rw[waj hj] at h;injection h with h;rw[h]
 conv=>lhs;rw[<-whb j zs,hd]
 rw[qjn];rfl
theorem DP.In.cap{V V':World}{bs k:Nat}{v:Value}{xs:List Value}(hI:E.In i l s F V)(hb:Boxed V bs 40 v)(hrow:V.ownsRow (bs+1) 27 1 v k xs)(hu:Upd (λq=>q=bs\/v.ownBlock=some q) V V')(hF:∀q,F q->¬(q=bs\/v.ownBlock=some q)):E.In i l s F V':=by
 have hI':=hI;obtain⟨lv,G,-,hfs,-⟩:=hI';have hn:∀{b:Nat} {t:TypeId} {x:Value},Boxed V b t x->t≠40->t≠27->¬(b=bs\/v.ownBlock=some b):=λh1 h2 h3 e=>e.elim (λe=>qbn h1 hb h2 e) (λe=>qaz h1 h3 hrow e.symm)
 exact hI.upd hu hF (hn hfs.2.1 Zd Zd) (hn hfs.2.2.1 Zd Zd) (hn hfs.2.2.2 Zd Zd)
def qnx(E:DP τ)(o:Out (DM×τ) Nat)(F:Nat->Prop)(bs k:Nat)(v:Value)(ws:List Nat)(V:World)(e:Ending)(V':World):Prop:=
 (∃y i' l' s' F' v',o= .done y i' l' s'/\e= .returned (.tuple #[])/\E.In i' l' s' F' V'/\Grows F F' V/\Boxed V' bs 40 v'/\V'.ownsRow (bs+1) 27 1 v' (k+1) (u64V (ws++[y]))/\(∀q,F' q->¬(q=bs\/v'.ownBlock=some q))/\Upd (λq=>F q\/q=bs\/v.ownBlock=some q) V V')\/
  (∃bl l' s' F',o= .stop bl l' s'/\e= .panicked (qc8 E.eb)/\E.Off bl l' s' F' V'/\Grows F F' V/\Upd F V V')
theorem qze{V:World}(h:E.In i l s F V){bs be k j:Nat}{v:Value}{a:Int}{ws:List Nat}(hbS:Boxed V bs 40 v)(hrow:V.ownsRow (bs+1) 27 1 v k (u64V ws))(hbe:Boxed V be 136 (.pointer (some ⟨E.eb,0,none⟩)))(hk:k<=1000)(hF:∀q,F q->¬(q=bs\/v.ownBlock=some q))(hFe:¬F be)(hw:qdl E.n E.nl E.who a E.sp i l s≠ .wild):
  Calls Tryz.prog 291 #[.int .i64 (j:Int),.int .i64 a,.pointer (some ⟨bs,0,none⟩),.pointer (some ⟨be,0,none⟩)] V λe V'=>qnx E (qdl E.n E.nl E.who a E.sp i l s) F bs k v ws V e V':=by
 obtain⟨i0,ii,iz0,iz1,iz2⟩:=info_parts qcg;have hst:=waa (qos (h.new (w':=V.drew) ((Upd.refl _ V).drew)) a hw);have b0:=hbS.cell;have w0:=hbe.cell;have hbl:=hbS.lt;have hwl:=hbe.lt;obtain⟨AO,cO,rfl,-⟩:=Rd.of_own hrow;have hFb:¬F bs:=λe=>hF _ e (.inl rfl)
 have hbS':=waa hbS;have hFK:=waa hF;replace hFe:=waa hFe;replace hFb:=waa hFb;replace hrow:=waa hrow;have hFl:=waa (λq (hq:F q)=>h.lt hq);replace hw:=waa hw;have hbe':=waa hbe;clear h hbS hbe hF;go_enter Tryz.func291,Tryz.ntmps291;go_wp2_with fail;go_region_law ((first
  |((refine step_append_lies _ Zr _ _ 40 Zr (bs+1) 27 i0 (.int .u64 0) 1 8 wbi ii iz0 iz1 iz2 Zr Zd _ _ _ Zr (hrow1.out.alloc _) ⟨V1.heap.size,0,none⟩ 1 1 [.int .u64 (y:Int)] Zr Zr (qb3 Zr _ Zr _) (by simp[Value.oneCell']) Zd (by simp only[maxLen];omega) Zo Zx _ Zr ?_;intro g c w4 hown hgrow hat hlg;obtain⟨y1,y2,y3,y4⟩:=qxe (w4:=w4) (O:= .cells #[.int .u64 (y:Int)] 27) hbs1.out hrow1.out hown ⟨hgrow.os,hgrow.tape,hgrow.output,hgrow.size,hgrow.block⟩;have z4:w4.cell? ⟨bs,0,none⟩=some _:=(qaa y1 0).trans rfl;have zf:=qaj y1 0;replace hat:=waa hat;replace y2:=waa y2;replace y3:=waa y3;replace y4:=waa y4;clear hown hgrow y1))
  |((rw[if_pos Zr];unfold Oper.wp;go_simp;refine hst.out.mono ?_;intro e V1 hpost;rcases hpost.done hw.out with ⟨y,i2,l2,s2,v2,F2,ho,rfl,rfl,hI,hg,hu⟩|⟨bl,l2,s2,F2,ho,rfl,hO,hg,hu⟩;rotate_left;(·exact⟨rfl,.inr ⟨bl,l2,s2,F2,ho,rfl,hO,hg,((Upd.refl _ V).drew).trans hu⟩⟩);have x0:V1.cell? ⟨bs,0,none⟩=some (.slice AO k cO):=(hu.cell (p:=⟨bs,0,none⟩) hbl hFb.out).trans b0;have x1:V1.cell? ⟨be,0,none⟩=some (.pointer (some ⟨E.eb,0,none⟩)):=(hu.cell (p:=⟨be,0,none⟩) hwl hFe.out).trans w0;have hbl1:bs<V1.heap.size:=waw hbl hu.size;have hwl1:be<V1.heap.size:=waw hwl hu.size;have hbs1:=waa (qal (w:=V.drew) hbS'.out hu hFb.out);have hrow1:=waa (qde (w:=V.drew) hrow.out hu (λq hq e=>hFK.out q e (.inr hq)));replace ho:=waa ho;replace hI:=waa hI;replace hg:=waa hg;replace hu:=waa hu))))
 all_goals
  have hF2:∀q,F2 q->¬(q=bs\/(Value.slice AO k cO).ownBlock=some q):=λq hq e=>by
   rcases hg.out q hq with h1|h1
   ·exact hFK.out q h1 e
   ·have h1:V.heap.size<=q:=h1
    rcases e with e|e
    ·omega
    ·have:=(hrow.out.lt q e).2;omega
  have hfin:=waa (show qnx E (qdl E.n E.nl E.who a E.sp i l s) F bs k (.slice AO k cO) ws V (.returned (.tuple #[])) (w4.setCell ⟨bs,0,none⟩ (.slice (some ⟨g,0,none⟩) (k+1) c)) from
   .inl ⟨y,i2,l2,s2,F2,_,ho.out,rfl,hI.out.cap hbs1.out hrow1.out y4.out hF2,hg.out,y2.out,by rw[qd8];exact y3.out,(λq hq e=>by
    rcases e with e|e
    ·exact hF2 q hq (.inl e)
    ·rcases hat.out with h1|h1
     ·exact hF2 q hq (.inr (h1.trans e))
     ·injection e with e
      have h2:=hI.out.lt hq;have h3:g=(V1.alloc (.cells #[.int .u64 (y:Int)] 27)).heap.size:=h1;simp at h3 e
      omega),((((Upd.refl _ V).drew).trans hu.out).mono (λq e=> .inl e)).trans (y4.out.mono (λq e=> .inr e))⟩)
  clear hF2 y2 y3 y4 hat
  go_wp2_with fail;go_end0
  exact hfin.out
theorem qot{q:(DM×τ)->Option (Nat×DM×τ)}{sp:Nat->Bool}{y i':Nat}{l':List Nat}{s':DM×τ}(h:AP.ask q id sp i l s= .done y i' l' s'):y∈l':=by
 unfold AP.ask at h;cases hi:l[i]? with
 |some z=>
  rw[hi] at h;simp only[id_eq,Out.done.injEq] at h;obtain⟨rfl,-,rfl,-⟩:=h;exact waq hi
 |none=>
  rw[hi] at h;simp only at h;split at h
  ·cases h
  ·split at h
   ·cases h
   ·split at h
    ·cases h
    ·simp only[id_eq,Out.done.injEq] at h
     obtain⟨rfl,-,rfl,-⟩:=h;simp
theorem DP.In.words(h:E.In i l s F w):∀y∈l,y<18446744073709551616:=by
 obtain⟨lv,G,k1,k2,k3,k4,k5,k6,k7,k8,k9⟩:=h;exact k9.2.2
def qab4(E:DP τ)(o:Out (DM×τ) (List Nat))(F:Nat->Prop)(bs n:Nat)(V:World)(e:Ending)(V':World):Prop:=
 (∃ws i' l' s' F' v,o= .done ws i' l' s'/\e= .returned (.tuple #[])/\E.In i' l' s' F' V'/\Grows F F' V/\Boxed V' bs 40 v/\V'.ownsRow (bs+1) 27 1 v n (u64V ws)/\ws.length=n/\(∀y∈ws,y<18446744073709551616)/\(∀q,F' q->¬(q=bs\/v.ownBlock=some q))/\Upd (λq=>F q\/bs<=q) V V')\/
  (∃bl l' s' F',o= .stop bl l' s'/\e= .panicked (qc8 E.eb)/\E.Off bl l' s' F' V'/\Grows F F' V/\Upd (λq=>F q\/bs<=q) V V')
theorem q1v{V:World}(h:E.In i l s F V){bs be ga n B:Nat}{zs:List Int}(hbS:Boxed V bs 40 (.slice none 0 0))(hbe:Boxed V be 136 (.pointer (some ⟨E.eb,0,none⟩)))(hrow:V.ownsRow B 3 1 (.slice (some ⟨ga,0,none⟩) n n) n (i64V zs))(hn:n<=1000)(hFb:¬F bs)(hFe:¬F be)(hFg:¬F ga)(hbb:be<bs)(hw:qbg E.n E.nl E.who zs [] E.sp i l s≠ .wild):
  Calls Tryz.prog 289 #[.slice (some ⟨ga,0,none⟩) n n,.func (.func 291) #[] #[.pointer (some ⟨bs,0,none⟩),.pointer (some ⟨be,0,none⟩)]] V λe V'=>qab4 E (qbg E.n E.nl E.who zs [] E.sp i l s) F bs n V e V':=by
 have hzl:zs.length=n:=by have:=hrow.1;rwa [qcn,wb7] at this
 have hbl:=hbS.lt;have hbel:=hbe.lt;have hgal:ga<V.heap.size:=(hrow.lt ga rfl).2;refine(qpu (A:=some ⟨ga,0,none⟩) (cap:=n) (n:=n) (Fn:=291) (caps:=#[.pointer (some ⟨bs,0,none⟩),.pointer (some ⟨be,0,none⟩)]) (zs:=zs) (w:=V) (λargs w=>by simp[go_sem]) hzl Zo
  (λj U=>∃ws i' l' s' F' v,qbg E.n E.nl E.who (zs.take j) [] E.sp i l s= .done ws i' l' s'/\E.In i' l' s' F' U/\Grows F F' V/\Boxed U bs 40 v/\U.ownsRow (bs+1) 27 1 v j (u64V ws)/\ws.length=j/\(∀y∈ws,y<18446744073709551616)/\(∀q,F' q->¬(q=bs\/v.ownBlock=some q))/\Upd (λq=>F q\/bs<=q) V U/\U.ownsRow B 3 1 (.slice (some ⟨ga,0,none⟩) n n) n (i64V zs))
  (λe U=>∃bl l' s' F',qbg E.n E.nl E.who zs [] E.sp i l s= .stop bl l' s'/\e= .panicked (qc8 E.eb)/\E.Off bl l' s' F' U/\Grows F F' V/\Upd (λq=>F q\/bs<=q) V U)
  ⟨[],i,l,s,F,_,rfl,h,Grows.refl _ _,hbS,wa9 _ _ _ _,rfl,by simp,λq hq e=>(by rcases e with rfl|e;exact hFb hq;cases e),Upd.refl _ _,hrow⟩ ?_ ?_).mono ?_
 ·rintro j U ⟨ws,i',l',s',F',v,-,-,-,-,-,-,-,-,-,k⟩
  exact qt6 k
 ·rintro j a U hj ha ⟨ws,i',l',s',F',v,k0,k1,k2,k3,k4,k5,k5',k6,k7,k8⟩
  have hwa:qdl E.n E.nl E.who a E.sp i' l' s'≠ .wild:=by
   rw[qfp _ _ _ ha] at hw;exact AP.tame (AP.tame_next (f:=λx=>(qdl E.n E.nl E.who a).bind λy=>qbg E.n E.nl E.who (zs.drop (j+1)) (x++[y])) hw k0)
  have hnF':∀q,q<V.heap.size->¬F q->¬F' q:=λq h1 h2 h3=>by
   rcases k2 q h3 with h4|h4
   ·exact h2 h4
   ·omega
  have hbeU:Boxed U be 136 (.pointer (some ⟨E.eb,0,none⟩)):=qal hbe k7 (λe=>e.elim hFe (λe=>by omega));refine(qze k1 k3 k4 hbeU Zo k6 (hnF' _ hbel hFe) hwa).mono ?_;have hsU:=k7.size;rintro e U' (⟨y,i2,l2,s2,F2,v2,ho,rfl,hI,hg,hb,hr,hF2,hu⟩|⟨bl,l2,s2,F2,ho,rfl,hO,hg,hu⟩)
  ·have hy:y<18446744073709551616:=hI.words y (qot ho)
   refine .inl ⟨rfl,ws++[y],i2,l2,s2,F2,v2,?_,hI,k2.trans hg hsU,hb,hr,by simp[k5],λz hz=>?_,hF2,k7.after hu ?_,?_⟩
   ·rw[qll _ _ _ ha,AP.bind_done k0,AP.bind_done ho]
    rfl
   ·rcases wa6.1 hz with hz|hz
    ·exact k5' z hz
    ·obtain rfl:z=y:=by simpa using hz
     exact hy
   ·rintro q (hq|hq|hq)
    ·exact(k2 q hq).imp .inl id
    ·exact .inl (.inr Zo)
    ·exact .inl (.inr (by have:=(k4.lt q hq).1;omega))
   ·refine qde k8 hu (λq hq=>?_)
    injection hq with hq;subst hq;rintro(e|e|e)
    ·exact hnF' _ hgal hFg e
    ·exact qaz k3 Zd k8 (by rw[<-e];rfl)
    ·rcases qhm k8 k4 Zd with h3|h3
     ·cases h3
     ·exact h3 (by rw[e];rfl)
  ·refine .inr ⟨_,rfl,bl,l2,s2,F2,?_,rfl,hO,k2.trans hg hsU,k7.after hu (λq hq=>(k2 q hq).imp .inl id)⟩
   rw[qfp _ _ _ ha,AP.bind_done k0];exact AP.bind_stop ho
 ·rintro e U (⟨rfl,ws,i',l',s',F',v,k0,k1,k2,k3,k4,k5,k5',k6,k7,k8⟩|⟨ch,he,bl,l',s',F',ho,he',hO,hg,hu⟩)
  ·rw[wa2 Zo] at k0
   exact .inl ⟨ws,i',l',s',F',v,k0,rfl,k1,k2,k3,k4,k5,k5',k6,k7⟩
  ·exact .inr ⟨bl,l',s',F',ho,he',hO,hg,hu⟩
end
end Go.Proofs.YtocncmbeinmiaaaGreat
