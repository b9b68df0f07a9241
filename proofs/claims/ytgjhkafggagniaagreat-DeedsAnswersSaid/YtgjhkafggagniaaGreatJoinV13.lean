/- Parts. No condition. -/
import Derived.Maps.OwnOps
import Derived.Maps.Views
import Derived.Deep.CutRange
import Derived.Deep.RegionWith
import Derived.Test.YtgjhkafggagniaaGreatJoinV12
set_option linter.unusedVariables false
set_option maxRecDepth 100000
set_option maxHeartbeats 8000000
namespace Go.Proofs.YtgjhkafggagniaaGreat
open Go Go.RowKit Go.Maps
theorem qug:Keyed Tryz.prog 3:=int_keyed wbn
theorem qzi(w:World):(zeroValue 3).run Tryz.prog w= .ok (.int .i64 0) w:=by kernel_rfl
theorem qwa(n:Int)(w:World):(Instr.makeMap 109 (some (.int .i64 n))).run Tryz.prog w= .ok (.map (some w.heap.size)) (w.alloc (.map #[] 0)):=by rfl
def MapIs(w:World)(B n:Nat)(f:Int->Int):Prop:=∃D:DataW Unit,w.ownsMap Tryz.prog 3 (plainElem Tryz.prog 3) B n D/\∀a,D.atKey (.int .i64 a) (.lit (.int .i64 0))= .lit (.int .i64 (f a))
theorem MapIs.made(w:World):MapIs (w.alloc (.map #[] 0)) w.heap.size 0 (λ_=>0):=⟨_,World.ownsMap_made _ _ _ _,λa=>rfl⟩
theorem MapIs.kept{w w':World}{B n:Nat}{f:Int->Int}{row:Option Nat}(h:MapIs w B n f)(hg:w.grownBy w' row)(hne:some B≠row):MapIs w' B n f:=by
 obtain⟨D,h1,h2⟩:=h;exact⟨D,h1.kept hg hne,h2⟩
theorem MapIs.below{w w':World}{B n:Nat}{f:Int->Int}(h:MapIs w B n f)(hb:Below w.heap.size w w'):MapIs w' B n f:=
 h.kept (row:=none) ⟨hb.os,hb.tape,hb.output,hb.size,λk hk _=>hb.block k hk⟩ Zs
theorem MapIs.look{w:World}{B n:Nat}{f:Int->Int}(h:MapIs w B n f){a:Int}(ha:(Lit.int .i64 a).wf=true):(Instr.lookup 109 (.map (some B)) (.int .i64 a) false).run Tryz.prog w= .ok (.int .i64 (f a)) w:=by
 obtain⟨D,h1,h2⟩:=h;obtain⟨c,hrun,hat,_⟩:=h1.lookup_int qug Tryz.underlying109 wbn (qzi _) (keyOf_int_mk wbn ha);rw[h2 a] at hat
 have:f a=c:=by injection hat with e;injection e
 rw[this];exact hrun
theorem MapIs.put{f:Int->Int}{a v:Int}:∀(D:DataW Unit),(∀b,D.atKey (.int .i64 b) (.lit (.int .i64 0))= .lit (.int .i64 (f b)))->IsMap D->∀b,(D.put (.int .i64 a) (.lit (.int .i64 v))).atKey (.int .i64 b) (.lit (.int .i64 0))= .lit (.int .i64 (if b=a then v else f b)):=by
 intro D h1 h2 b;by_cases hb:b=a
 ·subst hb
  rw[if_pos rfl,atKey_put_same h2 (show WideAt.IsKeyLit (.int .i64 b) from trivial)]
 ·rw[if_neg hb,atKey_put_other (by intro e;injection e;exact hb ‹_›),h1 b]
def Cl(V:World)(b:Nat)(t:TypeId)(v:Value):Prop:=V.heap[b]? =some (.cells #[v] t (0,0))
theorem Cl.cell{V:World}{b:Nat}{t:TypeId}{v:Value}(h:Cl V b t v):V.cell? ⟨b,0,none⟩=some v:=by rw[qab h];rfl
theorem Cl.lt{V:World}{b:Nat}{t:TypeId}{v:Value}(h:Cl V b t v):b<V.heap.size:=(waj.1 h).1
theorem Cl.kept{V V':World}{b:Nat}{t:TypeId}{v:Value}{row:Option Nat}(h:Cl V b t v)(hg:V.grownBy V' row)(hne:some b≠row):Cl V' b t v:=(hg.block b h.lt hne).trans h
theorem Cl.below{V V':World}{b:Nat}{t:TypeId}{v:Value}(h:Cl V b t v)(hb:Below V.heap.size V V'):Cl V' b t v:=(hb.block b h.lt).trans h
theorem Cl.more{V:World}{b:Nat}{t:TypeId}{v:Value}(h:Cl V b t v)(o:Obj):Cl (V.alloc o) b t v:=h.below ((wai _ V).alloc (wah _) o)
def Tells(l:List (Int×Nat))(j:Nat)(f:Int->Int):Prop:=∀i e,i<j->l[i]? =some e->(f e.1=(i:Int)↔∀k g,i<k->k<j->l[k]? =some g->g.1≠e.1)
theorem Tells.zero(l:List (Int×Nat))(f:Int->Int):Tells l 0 f:=λi e h=>by omega
theorem Tells.step{l:List (Int×Nat)}{j:Nat}{f:Int->Int}{e:Int×Nat}(h:Tells l j f)(he:l[j]? =some e):Tells l (j+1) (λb=>if b=e.1 then(j:Int) else f b):=by
 intro i g hi hg;by_cases hij:i=j
 ·subst hij
  obtain rfl:e=g:=by rw[he] at hg;exact wev hg
  simp only[if_true,true_iff];intro k q h1 h2;omega
 ·have hlt:i<j:=Zo
  have h0:=h i g hlt hg;by_cases hb:g.1=e.1
  ·simp only[if_pos hb]
   constructor
   ·intro h1;omega
   ·intro h1;exact absurd hb.symm (h1 j e hlt Zo he)
  ·simp only[if_neg hb]
   rw[h0];constructor
   ·intro h1 k q h2 h3 h4
    by_cases hk:k=j
    ·subst hk
     obtain rfl:e=q:=by rw[he] at h4;exact wev h4
     exact λh5=>hb h5.symm
    ·exact h1 k q h2 Zo h4
   ·intro h1 k q h2 h3 h4
    exact h1 k q h2 Zo h4
theorem Tells.any{l:List (Int×Nat)}{f:Int->Int}{i:Nat}{e:Int×Nat}(h:Tells l l.length f)(he:l[i]? =some e):(f e.1==(i:Int))=!((l.drop (i+1)).any (λg=>decide (g.1=e.1))):=by
 have hi:i<l.length:=(was.1 he).1;have h0:=h i e hi he;rw[wch,beq_iff_eq,h0,Bool.not_eq_true',List.any_eq_false];constructor
 ·intro h1 g hg h2
  obtain⟨k,hk⟩:=List.getElem?_of_mem hg;rw[wa3] at hk;have hk2:=(was.1 hk).1;exact h1 (i+1+k) g Zo hk2 hk (of_decide_eq_true h2)
 ·intro h1 k g h2 h3 h4 h5
  refine h1 g ?_ (decide_eq_true h5);refine wb9 (i:=k - (i+1)) ?_;rw[wa3,show i+1+(k - (i+1))=k by omega];exact h4
def LastSt(w:World)(N:Nat)(A:Option Addr)(cap:Nat)(l:List (Int×Nat)):Prop:=∃f,MapIs w (N+1) l.length f/\Tells l l.length f/\w.cell? ⟨N,0,none⟩=some (.slice A l.length cap)/\w.cell? ⟨N+2,0,none⟩=some (.map (some (N+1)))
theorem LastSt.below{w w':World}{N:Nat}{A:Option Addr}{cap:Nat}{l:List (Int×Nat)}(h:LastSt w N A cap l)(hb:Below w.heap.size w w'):LastSt w' N A cap l:=by
 obtain⟨f,h1,h2,h3,h4⟩:=h;exact⟨f,h1.below hb,h2,(hb.cell (wal w _ h3)).trans h3,(hb.cell (wal w _ h4)).trans h4⟩
theorem qus(A:Option Addr)(cap:Nat)(l:List (Int×Nat))(w:World)(h:EsRd w A l.length l)(hm:l.length<=300)(hwf:∀e∈l,(Lit.int .i64 e.1).wf=true):
  Calls Tryz.prog 336 #[.slice A l.length cap] w λe w'=>e= .returned (.func (.func 375) #[] #[.pointer (some ⟨w.heap.size+2,0,none⟩),.pointer (some ⟨w.heap.size,0,none⟩)])/\LastSt w' w.heap.size A cap l/\Below w.heap.size w w':=by
 have hwf':=waa hwf;clear hwf;have hmm:=qwa;go_enter Tryz.func336,Tryz.ntmps336;go_wp2_with fail;have hb0:Cl (w.alloc (.cells #[.slice A l.length cap] 155)) w.heap.size 155 (.slice A l.length cap):=World.alloc_heap_new w _;have hM0:=MapIs.made (w.alloc (.cells #[.slice A l.length cap] 155));have hB0:Below w.heap.size w (w.alloc (.cells #[.slice A l.length cap] 155)):=(wai _ w).alloc (wah _) _;have hc0:Cl (((w.alloc (.cells #[.slice A l.length cap] 155)).alloc (.map #[] 0)).alloc (.cells #[.map (some (w.heap.size+1))] 109)) (w.heap.size+1+1) 109 (.map (some (w.heap.size+1))):=by
  have:=World.alloc_heap_new ((w.alloc (.cells #[.slice A l.length cap] 155)).alloc (.map #[] 0)) (.cells #[.map (some (w.heap.size+1))] 109)
  simpa[Cl] using this
 have e0:(w.alloc (.cells #[.slice A l.length cap] 155)).heap.size=w.heap.size+1:=by simp
 rw[e0] at hM0;have hM1:MapIs (((w.alloc (.cells #[.slice A l.length cap] 155)).alloc (.map #[] 0)).alloc (.cells #[.map (some (w.heap.size+1))] 109)) (w.heap.size+1) 0 (λ_=>0):=hM0.below ((wai _ _).alloc (wah _) _);have hb1:=(hb0.more (.map #[] 0)).more (.cells #[.map (some (w.heap.size+1))] 109);have hB1:=(hB0.alloc (wam (wcf _) Zs) (.map #[] 0)).alloc (wam (wcf _) Zs) (.cells #[.map (some (w.heap.size+1))] 109);clear hM0 hb0 hB0 e0 hmm;go_loopw [11] (λk wr=>∃(W:World) (j:Nat) (f:Int->Int),W=wr/\k= .int .i64 (j:Int)/\j<=l.length/\Hid (Tells l j f)/\Hid (MapIs W (w.heap.size+1) j f)/\Hid (Cl W w.heap.size 155 (.slice A l.length cap))/\Hid (Cl W (w.heap.size+1+1) 109 (.map (some (w.heap.size+1))))/\Below w.heap.size w W) (λk _=>l.length - (intOf k).toNat)
 case atStart=>exact⟨_,0,_,rfl,rfl,wat _,waa (Tells.zero l _),waa hM1,waa hb1,waa hc0,hB1⟩
 case round=>
  clear hM1 hb1 hc0 hB1;obtain⟨W,j,f,rfl,rfl,hj,hT,hM,hb,hc,hB⟩:=hrel;by_cases hlt:j<l.length
  ·obtain⟨p,a,x,rfl,hd,hmem,c0,c1⟩:=(h.below hB).at_ hlt
   have hge:l[j]? =some (a,x):=by
    have:=congrArg (λz=>z[0]?) hd
    simpa[List.getElem?_drop] using this
   have hT2:=waa (hT.out.step hge);have hwa:=waa (hwf'.out _ hmem);have hwj:(Lit.int .i64 (j:Int)).wf=true:=wek Zo;have hB1:=hB.alloc hB.size (.cells #[.int .i64 a,.int .u64 (x:Int)] 169);obtain⟨D,hD1,hD2⟩:=hM.out;have hD3:=hD1.alloc (.cells #[.int .i64 a,.int .u64 (x:Int)] 169);have hD2':=waa hD2;have hb1:=waa (hb.out.more (.cells #[.int .i64 a,.int .u64 (x:Int)] 169));have hc1:=waa (hc.out.more (.cells #[.int .i64 a,.int .u64 (x:Int)] 169));have z0:=hc1.out.cell;clear hd hge hT hmem hM hD1 hD2 hb hc;go_wp2_with (at_mapUpdate;refine wpList_mapUpdate_own _ rfl _ _ _ 109 rfl 3 3 qug Tryz.underlying109 _ (w.heap.size+1) j _ rfl hD3 (by unfold maxLen;omega) _ _ _ rfl rfl (keyOf_int_mk wbn hwa.out) _ [] (plainElem_int wbn hwj) ?_;intro w1 hown1 hgrow1)
   go_roundw
   case rel=>exact⟨w1,j+1,_,rfl,by go_num,Zo,hT2,waa ⟨_,hown1,MapIs.put _ hD2'.out hD3.isMap⟩,waa (hb1.out.kept hgrow1 Zs),waa (hc1.out.kept hgrow1 Zs),hB1.grown hgrow1 hB1.size (λg hg=>by cases hg;omega)⟩
   case measure=>simp[intOf];omega
  ·obtain rfl:j=l.length:=Zo
   go_wp2_with fail;go_ret;exact⟨rfl,⟨f,hM.out,hT.out,hb.out.cell,hc.out.cell⟩,hB⟩
theorem qp3(N:Nat)(A:Option Addr)(cap:Nat)(l:List (Int×Nat))(i:Nat)(a:Int)(x:Nat)(V:World)(hS:LastSt V N A cap l)(hE:EsRd V A l.length l)(hm:l.length<=300)(he:l[i]? =some (a,x))(hwf:(Lit.int .i64 a).wf=true):
  Calls Tryz.prog 375 #[.int .i64 (i:Int),.pointer (some ⟨N+2,0,none⟩),.pointer (some ⟨N,0,none⟩)] V λe w'=>e= .returned (.bool (!((l.drop (i+1)).any (λg=>decide (g.1=a)))))/\∃t,V.drewN t=w':=by
 obtain⟨f,hM,hT,h0,h1⟩:=hS;have hans:=hT.any he;rw[show((a,x):Int×Nat).1=a from rfl] at hans;rw[<-hans];have hi:i<l.length:=(was.1 he).1;obtain⟨p,b,y,rfl,hd,-,c0,c1⟩:=hE.at_ hi;have hba:b=a:=by
  have:=congrArg (λz=>z[0]?) hd
  rw[wa3,wd2,he] at this;exact(show b=a/\y=x by simpa using this.symm).1
 subst hba;have hz:(0:Int)<=(i:Int):=Zo
 have hz2:(i:Int)<(l.length:Int):=Zo
 have hlk:∀t,(Instr.lookup 109 (.map (some (N+1))) (.int .i64 b) false).run Tryz.prog (V.drewN t)= .ok (.int .i64 (f b)) (V.drewN t):=λt=>MapIs.look (w:=V.drewN t) (hM.below (qaz (wai _ V) t)) hwf
 clear hans hM hT hd he hwf;generalize f b=q at hlk ⊢;go_enter Tryz.func375,Tryz.ntmps375;go_wp2_with fail;go_quiet (fail)
 go_wp2_with fail;go_ret;exact⟨rfl,_,rfl⟩
theorem qvu{l r:List (Int×Nat)}{e:Int×Nat}{out:List (Int×Nat)}(h:out++qbf (e::r)=qbf l)(hb:r.any (λg=>decide (g.1=e.1))=false):(out++[e])++qbf r=qbf l:=by
 rw[<-h,qbf,if_neg (by rw[hb];decide)];simp
theorem qxj{l r:List (Int×Nat)}{e:Int×Nat}{out:List (Int×Nat)}(h:out++qbf (e::r)=qbf l)(hb:r.any (λg=>decide (g.1=e.1))=true):out++qbf r=qbf l:=by
 rw[<-h,qbf,if_pos hb]
theorem qwk(A:Option Addr)(cap:Nat)(l:List (Int×Nat))(w:World)(h:EsRd w A l.length l)(hm:l.length<=300)(hwf:∀e∈l,(Lit.int .i64 e.1).wf=true):
  Calls Tryz.prog 287 #[.slice A l.length cap] w λe w'=>∃v,e= .returned v/\w'.ownsRow w.heap.size 169 2 v (qbf l).length (eV (qbf l))/\Below w.heap.size w w':=by
 have hwf':=waa hwf;have hla:=waa (qus A cap l w h hm hwf);clear hwf;obtain⟨i0,ii,iz0,iz1,iz2⟩:=info_parts qc6;go_enter Tryz.func287,Tryz.ntmps287;go_wp2_with fail;refine hla.out.mono ?_;rintro e V0 ⟨rfl,hS,hB0⟩;have hE:=h.below hB0;have hS':=waa hS;have hE':=waa hE;clear hla hS hE;go_wp2_with fail;go_loopw [3,11] (λv k wr=>∃(W:World) (j:Nat) (out:List (Int×Nat)),W=wr/\k= .int .i64 (j:Int)/\j<=l.length/\out.length<=j/\Hid (out++qbf (l.drop j)=qbf l)/\W.ownsRow V0.heap.size 169 2 v out.length (eV out)/\Below V0.heap.size V0 W) (λ_ k _=>l.length - (intOf k).toNat)
 case atStart=>exact⟨_,0,[],rfl,rfl,wat _,wat _,waa rfl,wbx _ _ _ _,wai _ _⟩
 case round=>
  obtain⟨W,j,out,rfl,rfl,hj,hol,ho,hrow,hB⟩:=hrel;by_cases hlt:j<l.length
  ·obtain⟨p,a,x,rfl,hd,hmem,c0,c1⟩:=(hE'.out.below hB).at_ hlt
   have hge:l[j]? =some (a,x):=by
    have:=congrArg (λz=>z[0]?) hd
    simpa[List.getElem?_drop] using this
   have hB1:=hB.alloc hB.size (.cells #[.int .i64 a,.int .u64 (x:Int)] 169);have hg:=En.new W a x;have ho1:=hrow.alloc (.cells #[.int .i64 a,.int .u64 (x:Int)] 169);have hask:=waa (λ(V:World) (hV:Below V0.heap.size V0 V)=>qp3 w.heap.size (some p) cap l j a x V (hS'.out.below hV) (hE'.out.below hV) hm hge (hwf'.out _ hmem));rw[hd] at ho;cases hb:(l.drop (j+1)).any (λg=>decide (g.1=a)) with
   |true=>
    rw[hb] at hask;have ho2:=waa (qxj ho.out hb);clear ho hd hge hmem hb;go_wp2_with fail;generalize (W.alloc (.cells #[.int .i64 a,.int .u64 (x:Int)] 169))=W1 at hB1 hg ho1 ⊢;refine(hask.out W1 hB1).mono ?_;rintro e w2 ⟨rfl,t,rfl⟩;go_wp2_with fail;go_roundw
    case rel=>exact⟨_,j+1,out,rfl,by go_num,Zo,Zo,ho2,qc1 ho1 t,qaz hB1 t⟩
    case measure=>simp[intOf];omega
   |false=>
    rw[hb] at hask;have ho2:=waa (qvu ho.out hb);clear ho hd hge hmem hb;go_wp2_with fail;generalize (W.alloc (.cells #[.int .i64 a,.int .u64 (x:Int)] 169))=W1 at hB1 hg ho1 ⊢;refine(hask.out W1 hB1).mono ?_;rintro e w2 ⟨rfl,t,rfl⟩;obtain⟨d0,d1,d2⟩:(W1.drewN t).cell? ⟨W.heap.size,0,none⟩=some (.int .i64 a)/\(W1.drewN t).cell? ⟨W.heap.size,1,none⟩=some (.int .u64 (x:Int))/\True:=⟨hg.cells.1,hg.cells.2.1,trivial⟩
    have hB2:=qaz hB1 t;have ho3:=qc1 ho1 t;have hs2:=hB2.size;clear hB1 ho1 hask hg;generalize W1.drewN t=W2 at d0 d1 hB2 ho3 hs2 ⊢;go_wp2_with (at_builtin;go_loud (refine wpList_append_own _ rfl _ _ 155 rfl V0.heap.size 169 i0 (.agg #[.int .i64 0,.int .u64 0]) 2 16 wcj ii iz0 iz1 iz2 rfl Zd _ _ _ rfl (ho3.alloc _) ⟨W2.heap.size,0,none⟩ 1 1 [.int .i64 a,.int .u64 (x:Int)] rfl rfl (qdj rfl _ rfl _) (by simp[Value.oneCell']) (by simp only[maxLen];omega) Zo Zx ?_);intro v' w4 hown' hgrow _;have hB4:=((hB2.alloc hs2 (.cells #[.int .i64 a,.int .u64 (x:Int)] 169)).grown hgrow Zx (qbv ho3)))
    go_roundw
    case rel=>exact⟨_,j+1,out++[(a,x)],rfl,by go_num,Zo,by simp;omega,ho2,by rw[qpb,wbh];exact hown',hB4⟩
    case measure=>simp[intOf];omega
  ·obtain rfl:j=l.length:=Zo
   have ho2:Hid (out=qbf l):=waa (by have:=ho.out;rw[List.drop_length,qbf,wba] at this;exact this);clear ho;go_wp2_with fail;go_ret;exact⟨_,rfl,by rw[<-ho2.out];exact qbb hrow hB0.size,hB0.trans (hB.mono hB0.size)⟩
end Go.Proofs.YtgjhkafggagniaaGreat
namespace Go.Proofs.YtgjhkafggagniaaGreat
open Go Go.RowKit
def szN(c:Int):Int:=if c=0 then 2 else if c=1 then 4 else if c=2 then 8 else if c=3 then 16 else 0
def clN(n:Int):Int:=if 1<=n/\n<=255 then(if n<=1 then 0 else if n<=3 then 1 else if n<=7 then 2 else if n<=15 then 3 else 4) else -1
theorem qls(c:Int):0<=szN c/\szN c<=16:=by
 unfold szN
 (repeat' split)<;>omega
theorem q1v{c:Int}(h:¬(0<=c/\c<4)):szN c=0:=by
 unfold szN;rw[if_neg Zo,if_neg Zo,if_neg Zo,if_neg Zo]
theorem q18{n:Int}(h:¬(1<=n/\n<=255)):clN n= -1:=if_neg h
theorem q11{n c:Int}(h0:1<=n/\n<=255)(c0:0<=c)(c1:c<4)(hl:c=0\/szN (c - 1)<1+n)(hs:1+n<=szN c):clN n=c:=by
 unfold clN;rw[if_pos h0];have:c=0\/c=1\/c=2\/c=3:=Zo
 rcases this with rfl|rfl|rfl|rfl<;>simp[szN] at hl hs<;>(repeat' split)<;>omega
theorem qzs{n:Int}(h0:1<=n/\n<=255)(hl:szN 3<1+n):clN n=4:=by
 unfold clN;simp[szN] at hl
 rw[if_pos h0];repeat' split
 all_goals omega
theorem qlq(n:Int)(w:World):Calls Tryz.prog 235 #[.int .i64 n] w λe w'=>e= .returned (.bool (decide (1<=n/\n<=255)))/\w=w':=by
 by_cases h1:1<=n<;>by_cases h2:n<=255
 all_goals
  go_enter Tryz.func235,Tryz.ntmps235;go_wp2
  go_ret;exact⟨qae (by symm;first|(apply decide_eq_true;omega)|(apply decide_eq_false;omega)|(simp;omega)),rfl⟩
theorem qer(n:Int)(w:World):Calls Tryz.prog 165 #[.int .i64 n] w λe w'=>e= .returned (.bool (decide (0<=n/\n<4)))/\w=w':=by
 by_cases h1:0<=n<;>by_cases h2:n<4
 all_goals
  go_enter Tryz.func165,Tryz.ntmps165;go_wp2
  go_ret;exact⟨qae (by symm;first|(apply decide_eq_true;omega)|(apply decide_eq_false;omega)|(simp;omega)),rfl⟩
theorem qir(n:Int)(w:World)(h0:1<=n)(h1:n<=255):Calls Tryz.prog 187 #[.int .i64 n] w λe w'=>e= .returned (.int .i64 (1+n))/\w=w':=by
 go_enter Tryz.func187,Tryz.ntmps187;go_wp2
 go_ret;exact⟨rfl,rfl⟩
theorem qdq(c:Int)(w:World):Calls Tryz.prog 123 #[.int .i64 c] w λe w'=>e= .returned (.int .i64 (szN c))/\w=w':=by
 by_cases h:0<=c/\c<4
 ·have hs:∀w,Calls Tryz.prog 165 #[.int .i64 c] w λe w'=>e= .returned (.bool true)/\w=w':=λw=>by
   have:=qer c w
   rwa [decide_eq_true h] at this
  have h4:c=0\/c=1\/c=2\/c=3:=Zo
  rcases h4 with rfl|rfl|rfl|rfl;all_goals
   clear h;go_enter Tryz.func123,Tryz.ntmps123;go_wp2_with (go_at_call 165;refine(hs _).mono ?_;rintro e w' ⟨rfl,rfl⟩)
   go_ret;exact⟨rfl,rfl⟩
 ·have hs:∀w,Calls Tryz.prog 165 #[.int .i64 c] w λe w'=>e= .returned (.bool false)/\w=w':=λw=>by
   have:=qer c w
   rwa [decide_eq_false h] at this
  rw[q1v h];clear h;go_enter Tryz.func123,Tryz.ntmps123;go_wp2_with (go_at_call 165;refine(hs _).mono ?_;rintro e w' ⟨rfl,rfl⟩)
  go_ret;exact⟨rfl,rfl⟩
def bkN(c:Int):Int:=if c=0 then 32 else if c=1 then 16 else if c=2 then 8 else if c=3 then 4 else 0
theorem qsv{c:Int}(h:¬(0<=c/\c<4)):bkN c=0:=by
 unfold bkN;rw[if_neg Zo,if_neg Zo,if_neg Zo,if_neg Zo]
theorem qff(c:Int)(w:World):Calls Tryz.prog 121 #[.int .i64 c] w λe w'=>e= .returned (.int .i64 (bkN c))/\w=w':=by
 by_cases h:0<=c/\c<4
 ·have hs:∀w,Calls Tryz.prog 165 #[.int .i64 c] w λe w'=>e= .returned (.bool true)/\w=w':=λw=>by
   have:=qer c w
   rwa [decide_eq_true h] at this
  have h4:c=0\/c=1\/c=2\/c=3:=Zo
  rcases h4 with rfl|rfl|rfl|rfl;all_goals
   clear h;go_enter Tryz.func121,Tryz.ntmps121;go_wp2_with (first|(go_at_call 165;refine(hs _).mono ?_;rintro e w' ⟨rfl,rfl⟩)|(go_at_call 123;refine(qdq _ _).mono ?_;rintro e w' ⟨rfl,rfl⟩))
   go_ret;exact⟨qb2 (by first|decide+kernel|kernel_rfl),rfl⟩
 ·have hs:∀w,Calls Tryz.prog 165 #[.int .i64 c] w λe w'=>e= .returned (.bool false)/\w=w':=λw=>by
   have:=qer c w
   rwa [decide_eq_false h] at this
  rw[qsv h];clear h;go_enter Tryz.func121,Tryz.ntmps121;go_wp2_with (go_at_call 165;refine(hs _).mono ?_;rintro e w' ⟨rfl,rfl⟩)
  go_ret;exact⟨rfl,rfl⟩
theorem qg9(n:Int)(w:World):Calls Tryz.prog 186 #[.int .i64 n] w λe w'=>e= .returned (.int .i64 (clN n))/\w=w':=by
 by_cases h:1<=n/\n<=255
 ·have hs:∀w,Calls Tryz.prog 235 #[.int .i64 n] w λe w'=>e= .returned (.bool true)/\w=w':=λw=>by
   have:=qlq n w
   rwa [decide_eq_true h] at this
  have hat:=λc=>q11 (n:=n) (c:=c) h
  have hbig:=qzs h;generalize hc:clN n=a at hat hbig;obtain⟨n0,n1⟩:=h;clear hc;go_enter Tryz.func186,Tryz.ntmps186;go_wp2_with (go_at_call 235;refine(hs _).mono ?_;rintro e w' ⟨rfl,rfl⟩)
  go_loop [7] (λk=>∃j:Nat,j<=4/\k= .int .i64 (j:Int)/\(j=0\/szN ((j:Int) - 1)<1+n)) (λk=>4 - (intOf k).toNat)
  case atStart=>exact⟨0,Zo,rfl,.inl rfl⟩
  case round=>
   obtain⟨j,hj,rfl,hl⟩:=hrel;obtain⟨z0,z1⟩:=qls (j:Int);by_cases hlt:j<4
   ·have j0:(0:Int)<=(j:Int):=Zo
    have j1:(j:Int)<4:=Zo
    by_cases hr:1+n<=szN (j:Int)
    ·have ha:=waa (hat (j:Int) j0 j1 (hl.imp (λh=>by omega) id) hr)
     clear hat hbig;go_wp2_with (first|(go_at_call 187;refine(qir _ _ n0 n1).mono ?_;rintro e w' ⟨rfl,rfl⟩)|(go_at_call 123;refine(qdq _ _).mono ?_;rintro e w' ⟨rfl,rfl⟩))
     go_ret;exact⟨qb2 ha.out.symm,rfl⟩
    ·clear hat hbig
     go_wp2_with (first|(go_at_call 187;refine(qir _ _ n0 n1).mono ?_;rintro e w' ⟨rfl,rfl⟩)|(go_at_call 123;refine(qdq _ _).mono ?_;rintro e w' ⟨rfl,rfl⟩))
     go_round
     case rel=>exact⟨j+1,Zo,by go_num,.inr (by rw[show(((j+1:Nat):Int) - 1)=(j:Int) by omega];omega)⟩
     case measure=>simp[intOf];omega
   ·obtain rfl:j=4:=Zo
    have ha:=waa (hbig (by rcases hl with h|h;exact absurd h Zo;exact h));clear hat hbig;go_wp2
    go_ret;exact⟨qb2 ha.out.symm,rfl⟩
 ·have hs:∀w,Calls Tryz.prog 235 #[.int .i64 n] w λe w'=>e= .returned (.bool false)/\w=w':=λw=>by
   have:=qlq n w
   rwa [decide_eq_false h] at this
  rw[q18 h];clear h;go_enter Tryz.func186,Tryz.ntmps186;go_wp2_with (go_at_call 235;refine(hs _).mono ?_;rintro e w' ⟨rfl,rfl⟩)
  go_ret;exact⟨rfl,rfl⟩
theorem qak{fn:Func}{a:Act}{W:World}{R:Ending->World->Prop}{p g:Nat}{t:TypeId}{cs:Array Value}(h:fn.results=#[.cell p t])(hp:a.tmps.getD p undef= .pointer (some ⟨g,0,none⟩))(hd:a.defers=[])(hl:(loadVar t ⟨g,0,none⟩).run Tryz.prog W= .ok (.agg cs) W)(hR:R (.returned (.agg cs)) W):bodyPost Tryz.prog fn R .ret a W:=by
 refine⟨hd,_,?_,hR⟩;have hp':a.tmps[p]?.getD undef= .pointer (some ⟨g,0,none⟩):=by simpa using hp
 simp[results,h,hp',asAddr,hl]
theorem qbt{fn:Func}{a:Act}{W:World}{R:Ending->World->Prop}{p u g:Nat}{t:TypeId}{cs:Array Value}{b:Value}(h:fn.results=#[.cell p t,.tmp u])(hp:a.tmps.getD p undef= .pointer (some ⟨g,0,none⟩))(hb:a.tmps.getD u undef=b)(hd:a.defers=[])(hl:(loadVar t ⟨g,0,none⟩).run Tryz.prog W= .ok (.agg cs) W)(hR:R (.returned (.tuple #[.agg cs,b])) W):bodyPost Tryz.prog fn R .ret a W:=by
 refine⟨hd,_,?_,hR⟩;have hp':a.tmps[p]?.getD undef= .pointer (some ⟨g,0,none⟩):=by simpa using hp
 have hb':a.tmps[u]?.getD undef=b:=by simpa using hb
 rw[results_cell_tmp h];simp[asAddr,hp',hb',hl,Result.andThen]
theorem qai{W:World}{g:Nat}{a b c:Value}(h:W.heap[g]? =some (.cells #[a,b,c] 60 (0,0))):(loadVar 60 ⟨g,0,none⟩).run Tryz.prog W= .ok (.agg #[a,b,c]) W:=run_loadVar_row W g 60 60 _ _ _ h Tryz.underlying60 rfl Zk
theorem qzv{W:World}{g:Nat}{a b c:Value}(h:W.heap[g]? =some (.cells #[a,b,c] 77 (0,0))):(loadVar 77 ⟨g,0,none⟩).run Tryz.prog W= .ok (.agg #[a,b,c]) W:=run_loadVar_row W g 77 77 _ _ _ h Tryz.underlying77 rfl Zk
theorem qb1{W:World}{g:Nat}{a b c d e f k:Value}(h:W.heap[g]? =some (.cells #[a,b,c,d,e,f,k] 79 (0,0))):(loadVar 79 ⟨g,0,none⟩).run Tryz.prog W= .ok (.agg #[a,b,c,d,e,f,k]) W:=run_loadVar_row W g 79 79 _ _ _ h Tryz.underlying79 rfl Zk
def anV(c a:Int)(x:Nat):Value:= .agg #[.int .i64 c,.int .i64 a,.int .u64 (x:Int)]
theorem qax(c:Int)(w:World):Calls Tryz.prog 128 #[.int .i64 c] w λe w'=>e= .returned (anV c 0 0)/\Below w.heap.size w w':=by
 have hB:=(wai w.heap.size w).alloc (wah _) (.cells #[.int .i64 c,.int .i64 0,.int .u64 0] 60);replace hB:=waa hB;go_enter Tryz.func128,Tryz.ntmps128;go_wp2_with fail;exact qak rfl rfl rfl (qai (heap_alloc_new w _)) ⟨rfl,hB.out⟩
theorem qe3(s l r i:Int):-1<=headN s l r i/\headN s l r i<=1000:=by
 unfold headN;split
 ·rename_i h
  have:=mayB_iff.1 h.1
  omega
 ·omega
theorem qg2(s l r a:Int):(-1<=(plc s l r a).2.1/\(plc s l r a).2.1<=100)/\0<=(plc s l r a).2.2/\(plc s l r a).2.2<=100:=by
 unfold plc;split
 ·simp
 ·rename_i h
  have h2:mayB s l r=true/\0<=a/\a<16+40*l+72*s:=by simpa using h
  have:=mayB_iff.1 h2.1
  (repeat' split)<;>(dsimp only;omega)
section
variable {A:AC} {v:Value} {ws:List (Int×Nat)} {w:World}
theorem qgp(h:AcR A v ws w)(i:Int):Calls Tryz.prog 262 #[.pointer (some ⟨A.ab,0,none⟩),.int .i64 i] w λe w'=>e= .returned (.int .i64 (headN A.s A.l A.r i+1))/\Below w.heap.size w w':=by
 obtain⟨⟨-,c1,c2,c3⟩,-⟩:=h.cells;have hh:=waa (qm2 A.s A.l A.r i w);have hb:=qe3 A.s A.l A.r i;generalize headN A.s A.l A.r i=z at hh hb ⊢;have hw:IntKind.i64.wrap (z+1)=z+1:=wap _ Zo;clear h;go_enter Tryz.func262,Tryz.ntmps262;go_wp2_with fail;refine hh.out.mono ?_;rintro e w1 ⟨rfl,hB⟩;have hfin:=waa hB;clear hB hh;go_wp2_with fail;go_ret;exact⟨rfl,hfin.out⟩
def sptN(A:AC)(a n:Int):Int×Int×Int:=((plc A.s A.l A.r a).2.1,(plc A.s A.l A.r a).2.2/n,n)
def sptV(x:Int×Int×Int):Value:= .agg #[.int .i64 x.1,.int .i64 x.2.1,.int .i64 x.2.2]
theorem qj8(h:AcR A v ws w)(a n:Int)(a0:-9223372036854775808<=a)(a1:a<=9223372036854775807)(hn:0<n)(hn2:n<=9223372036854775807):Calls Tryz.prog 297 #[.pointer (some ⟨A.ab,0,none⟩),.int .i64 a,.int .i64 n] w λe w'=>e= .returned (sptV (sptN A a n))/\Below w.heap.size w w':=by
 have hB0:=(wai w.heap.size w).alloc (wah _) (.cells #[.int .i64 0,.int .i64 0,.int .i64 0] 77);have hx0:(w.alloc (.cells #[.int .i64 0,.int .i64 0,.int .i64 0] 77)).heap[w.heap.size]? =some (.cells #[.int .i64 0,.int .i64 0,.int .i64 0] 77 (0,0)):=heap_alloc_new w _;obtain⟨⟨-,c1,c2,c3⟩,-⟩:=(h.upd (Upd.of_below hB0 (wah _):Upd (λ_=>False) w _) (λe=>e) (λ_ _ e=>e)).cells;have hwh:=waa (qj3 A.s A.l A.r a (w.alloc (.cells #[.int .i64 0,.int .i64 0,.int .i64 0] 77)) a0 a1);unfold sptN sptV;have hbd:=qg2 A.s A.l A.r a;generalize plc A.s A.l A.r a=q at hwh hbd ⊢;obtain⟨q0,q1,q2⟩:=q;unfold plV at hwh;dsimp only at hwh hbd ⊢;have hlt:=h.lt;have hq:q2.tdiv n=q2/n:=wew Zo;have hdv:0<=q2/n/\q2/n<=100:=⟨Int.ediv_nonneg Zo Zo,Int.le_trans (Int.ediv_le_self _ Zo) Zo⟩
 have hwr:IntKind.i64.wrap (q2/n)=q2/n:=wap _ Zo;generalize q2/n=d at hq hwr hdv ⊢;have hn0:n≠0:=Zo
 have hn1:(n==0)=false:=by simp[hn0]
 replace hB0:=waa hB0;replace hx0:=waa hx0;clear h a0 a1;go_enter Tryz.func297,Tryz.ntmps297;go_wp2_with fail;refine hwh.out.mono ?_;rintro e w1 ⟨rfl,hB⟩;have hx1:=(hB.block _ (waj.1 hx0.out).1).trans hx0.out;have hB1:=(hB0.out.trans (hB.mono hB0.out.size))
 have hBa:=(wai w1.heap.size w1).alloc (wah _) (.cells #[.int .i64 q0,.int .i64 q1,.int .i64 q2] 227);have hx2:=(hBa.block _ (waj.1 hx1).1).trans hx1;have k0:=qab hx2 0;have k1:=qab hx2 1;have k2:=qab hx2 2;have kf:=λj=>qah hx2 j
 have hB2:=hB1.trans (hBa.mono hB1.size);have hp:(w1.alloc (.cells #[.int .i64 q0,.int .i64 q1,.int .i64 q2] 227)).heap[w1.heap.size]? =some (.cells #[.int .i64 q0,.int .i64 q1,.int .i64 q2] 227 (0,0)):=heap_alloc_new _ _;have p1:=qab hp 1;have p2:=qab hp 2;simp at k0 k1 k2 p1 p2
 replace hx2:=waa hx2;replace hB2:=waa hB2;have hwl:w.heap.size<=w1.heap.size:=hB1.size;clear hx1 hB1 hBa hB c1 c2 c3 hp hwh;go_wp2_with fail;go_region
 all_goals go_wp2_with fail
 have e:=qaj (qaj (qaj hx2.out 0 (.int .i64 q1)) 1 (.int .i64 d)) 2 (.int .i64 n);exact qak rfl rfl rfl (qzv (W:=World.drew _) e) ⟨rfl,(((hB2.out.setCell (p:=⟨w.heap.size,0,none⟩) (wah _) _).setCell (p:=⟨w.heap.size,1,none⟩) (wah _) _).setCell (p:=⟨w.heap.size,2,none⟩) (wah _) _).drew⟩
theorem qnq(n:Int)(w:World)(h0:0<=n/\n<=4611686018427387904):Calls Tryz.prog 312 #[.int .i64 n] w λe w'=>e= .returned (.int .i64 (clN (n - 1)))/\w=w':=by
 have hw:IntKind.i64.wrap (n - 1)=n - 1:=wap _ Zo;have hc:=waa (qg9 (n - 1) w);go_enter Tryz.func312,Tryz.ntmps312;go_wp2_with fail;refine hc.out.mono ?_;rintro e w1 ⟨rfl,rfl⟩;go_wp2_with fail;go_ret;exact⟨rfl,rfl⟩
def blkZ(a:Int)(n:Nat):List (Int×Nat):=(List.range n).map λ(i:Nat)=>(a+(i:Int),0)
theorem qld(a:Int)(n:Nat):(blkZ a n).length=n:=by simp[blkZ]
theorem qsn(n:Nat):madeCells #[Value.int .i64 0,Value.int .u64 0] (n*2)=(eV (List.replicate n (0,0))).toArray:=by
 apply Array.ext'
 apply wa2
 intro j;by_cases hj:j<n*2
 ·have h1:=qk8 (l:=List.replicate n ((0:Int),0)) (j:=j/2) (e:=(0,0)) (by rw[wb8,if_pos Zo])
  have h2:j%2=0\/j%2=1:=Zo
  rcases h2 with h|h
  ·have e:j/2*2=j:=Zo
   rw[e] at h1;simp[madeCells,hj,h,h1.1]
  ·have e:j/2*2+1=j:=Zo
   rw[e] at h1;simp[madeCells,hj,h,h1.2]
 ·have hl:(eV (List.replicate n ((0:Int),0))).length=n*2:=by rw[qgs,wa0]
  simp[madeCells,hj,hl]
theorem qs7(t:Nat)(ht:t<=2000)(w:World):(Instr.makeSlice 155 (.int .i64 (t:Int)) (.int .i64 (t:Int))).run Tryz.prog w= .ok (.slice (some ⟨w.heap.size,0,none⟩) t t) (w.alloc (.cells (eV (List.replicate t (0,0))).toArray 169)):=by
 obtain⟨i,hi,hz,hs,hb⟩:=info_parts qc6;have h:=run_makeSlice (P:=Tryz.prog) w 155 169 i _ wcj hi hz .i64 .i64 (t:Int) (t:Int) Zo (wcz _) (by rw[hs,wao];omega) (by rw[hb];omega) Zo;rw[hs,wao] at h;rw[h,<-qsn];rfl
theorem q04(l:List (Int×Nat))(j:Nat)(a:Int)(x:Nat)(hj:l[j]? =some ((0:Int),x)):(eV l).set (j*2) (.int .i64 a)=eV (l.set j (a,x)):=by
 induction l generalizing j with
 |nil=>simp at hj
 |cons h r ih=>
  cases j with
  |zero=>
   obtain rfl:h=(0,x):=by simpa using hj
   rfl
  |succ i=>
   show(Value.int .i64 h.1::Value.int .u64 (h.2:Int)::eV r).set ((i+1)*2) (.int .i64 a)=Value.int .i64 h.1::Value.int .u64 (h.2:Int)::eV (r.set i (a,x))
   rw[<-ih i (by simpa using hj),show(i+1)*2=i*2+1+1 by omega];rfl
def blkP(a:Int)(n j:Nat):List (Int×Nat):=blkZ a j++List.replicate (n - j) (0,0)
theorem qtz{a:Int}{n j:Nat}(h:j<n):(blkP a n j).set j (a+(j:Int),0)=blkP a n (j+1)/\(blkP a n j)[j]? =some (0,0):=by
 have hl:(blkZ a j).length=j:=qld a j;have e1:n - j=(n - (j+1))+1:=Zo
 have e2:blkZ a (j+1)=blkZ a j++[(a+(j:Int),0)]:=by simp[blkZ,List.range_succ]
 unfold blkP;rw[e1,wdc,e2];constructor
 ·rw[wef _ _ Zo,hl,wce]
  simp
 ·rw[wbv Zo,hl,wce]
  rfl
theorem qsw(a:Int)(n:Nat)(w:World)(hn:n<=2000)(ha:-4611686018427387904<=a/\a<=4611686018427387904):Calls Tryz.prog 224 #[.int .i64 a,.int .i64 (n:Int)] w λe w'=>e= .returned (.slice (some ⟨w.heap.size,0,none⟩) n n)/\w'.heap[w.heap.size]? =some (.cells (eV (blkZ a n)).toArray 169 (0,0))/\Below w.heap.size w w':=by
 have hmk:=λV=>qs7 n hn V
 have hb0:(w.alloc (.cells (eV (List.replicate n (0,0))).toArray 169)).heap[w.heap.size]? =some (.cells (eV (blkP a n 0)).toArray 169 (0,0)):=by
  have:blkP a n 0=List.replicate n (0,0):=by simp[blkP,blkZ]
  rw[this];exact heap_alloc_new w _
 have hB0:=(wai w.heap.size w).alloc (wah _) (.cells (eV (List.replicate n (0,0))).toArray 169);replace hb0:=waa hb0;replace hB0:=waa hB0;go_enter Tryz.func224,Tryz.ntmps224;go_wp2_with fail;obtain⟨G,hG⟩:∃G,w.heap.size=G:=⟨_,rfl⟩
 rw[hG] at hb0 hB0 ⊢;generalize w.alloc (.cells (eV (List.replicate n (0,0))).toArray 169)=W at hb0 hB0;go_loopg [11] n (λk s11 wr=>∃j:Nat,s11= .int .i64 (j:Int)/\n - j<=k/\j<=n/\Hid (wr.heap[G]? =some (.cells (eV (blkP a n j)).toArray 169 (0,0)))/\Hid (Below G w wr))
 case atStart=>exact⟨0,rfl,Zo,Zo,hb0,hB0⟩
 case round=>
  clear hb0 hB0;obtain⟨j,rfl,hk,hj,hb,hB⟩:=hrel;by_cases hlt:j<n
  ·have z1:(j:Int)<(n:Int):=Zo
   have z2:(0:Int)<=(j:Int):=Zo
   obtain⟨hnx,hat⟩:=qtz (a:=a) hlt;have c0:wr.cell? ⟨G,j*2,none⟩=some (.int .i64 0):=by rw[qab hb.out,wcd];exact(qk8 hat).1
   have f0:wr.frozen? ⟨G,j*2,none⟩=false:=qah hb.out _;have hw:IntKind.i64.wrap (a+(j:Int))=a+(j:Int):=wap _ Zo;have hb2:=waa (qaj hb.out (j*2) (.int .i64 (a+(j:Int))));have hB2:=waa (hB.out.setCell (p:=⟨G,j*2,none⟩) (wah _) (.int .i64 (a+(j:Int))));have hse:=waa (q04 _ j (a+(j:Int)) 0 hat);replace hnx:=waa hnx;clear hat
   go_wp2_with fail;go_roundg (n - (j+1))
   case measure=>omega
   case rel=>exact⟨j+1,by go_num,wah _,Zo,waa (by rw[<-hnx.out,<-hse.out];simpa using hb2.out),hB2⟩
  ·obtain rfl:j=n:=Zo
   have hz:blkP a j j=blkZ a j:=by simp[blkP]
   rw[hz] at hb;have z1:¬(j:Int)<(j:Int):=Zo
   go_wp2_with fail;go_ret;exact⟨rfl,hb.out,hB.out⟩
end
end Go.Proofs.YtgjhkafggagniaaGreat
