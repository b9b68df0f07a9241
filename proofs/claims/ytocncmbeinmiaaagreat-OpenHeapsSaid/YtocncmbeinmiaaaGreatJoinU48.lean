/- Parts. No condition. -/
import Derived.Deep.CutRange
import Derived.Test.YtocncmbeinmiaaaGreatJoinU47
set_option linter.unusedVariables false
set_option maxRecDepth 100000
set_option maxHeartbeats 8000000
namespace Go.Proofs.YtocncmbeinmiaaaGreat
open Go Go.RowKit
section
variable {w:World} {base p gh gc hcap ccap s L:Nat} {r:Int} {hs:List (Int×Int×Int)} {rv:Nat->Value} {rx:Nat->List Int} {F:Nat->Prop}
theorem HpR.cells(h:HpR w base p gh gc hcap ccap s L r hs rv rx F):w.cell? ⟨p,0,none⟩=some (.int .i64 (s:Int))/\w.cell? ⟨p,1,none⟩=some (.int .i64 (L:Int))/\w.cell? ⟨p,2,none⟩=some (.int .i64 r)/\
  w.cell? ⟨p,3,none⟩=some (.slice (some ⟨gh,0,none⟩) s hcap)/\w.cell? ⟨p,8,none⟩=some (.slice (some ⟨gc,0,none⟩) L ccap)/\∀o,w.frozen? ⟨p,o,none⟩=false:=
 ⟨by rw[qaa h.blk];rfl,by rw[qaa h.blk];rfl,by rw[qaa h.blk];rfl,by rw[qaa h.blk];rfl,by rw[qaa h.blk];rfl,λo=>qaj h.blk o⟩
theorem q5p(h:HpR w base p gh gc hcap ccap s L r hs rv rx F):Calls Tryz.prog 145 #[.pointer (some ⟨p,0,none⟩)] w λe w'=>e= .returned (.int .i64 (s:Int))/\w=w':=by
 obtain⟨c0,c1,c2,c3,c4,cf⟩:=h.cells;clear h;go_enter Tryz.func145,Tryz.ntmps145;go_wp2_with fail;go_ret;exact⟨rfl,rfl⟩
theorem q90{c:Int}:(0<bkN c)↔(0<=c/\c<4):=by
 constructor
 ·intro h
  by_cases hc:0<=c/\c<4
  ·exact hc
  ·rw[q3x hc] at h;omega
 ·intro h
  unfold bkN;split
  ·omega
  ·split
   ·omega
   ·split
    ·omega
    ·split
     ·omega
     ·omega
theorem qy3(c:Int)(w:World):Calls Tryz.prog 59 #[.int .i64 c] w λe w'=>e= .returned (.bool (decide (0<=c/\c<4)))/\w=w':=by
 have hb:=waa (q90 (c:=c));have hcb:=waa (qhx c w);go_enter Tryz.func59,Tryz.ntmps59;go_wp2_with fail;refine hcb.out.mono ?_;rintro e w' ⟨rfl,rfl⟩;go_wp2_with fail;go_ret;exact⟨qab (decide_eq_decide.2 hb.out),rfl⟩
def thP(L:Nat)(t c:Int):Prop:=0<=t/\t<(L:Int)/\0<=c/\c<4
instance thP_dec (L:Nat) (t c:Int):Decidable (thP L t c):=inferInstanceAs (Decidable (_/\_))
def caI(t c:Int):Nat:=4+(t.toNat*4+c.toNat)
def refS(L:Nat)(rx:Nat->List Int)(t c:Int):Nat->List Int:=
 if thP L t c then upV (upV rx c.toNat ((rx c.toNat).take ((rx c.toNat).length - min 4 (rx c.toNat).length))) (caI t c) (rx (caI t c)++qacz (rx c.toNat) (min 4 (rx c.toNat).length)) else rx
def refN(L:Nat)(rx:Nat->List Int)(t c:Int):Nat:=if thP L t c then min 4 (rx c.toNat).length else 0
end
section
variable {w:World} {base p gh gc hcap ccap s L:Nat} {r:Int} {hs:List (Int×Int×Int)} {rv:Nat->Value} {rx:Nat->List Int} {F:Nat->Prop}
theorem HpR.hlen(h:HpR w base p gh gc hcap ccap s L r hs rv rx F):hs.length=s:=by have:=h.heads.1;rw[qfg] at this;omega
theorem HpR.hd(h:HpR w base p gh gc hcap ccap s L r hs rv rx F){i:Nat}(hi:i<s):∃a b c,hs[i]? =some (a,b,c)/\w.cell? ⟨gh,i*3,none⟩=some (.int .i64 a)/\w.cell? ⟨gh,i*3+1,none⟩=some (.int .i64 b)/\w.cell? ⟨gh,i*3+2,none⟩=some (.int .i64 c):=by
 obtain⟨x,hx⟩:∃x,hs[i]? =some x:=⟨_,waj (by rw[h.hlen];exact hi)⟩
 obtain⟨h0,h1,h2⟩:=qzt hx;have hc:=h.heads.cells (g:=gh) rfl;obtain⟨a,b,c⟩:=x;have ad:∀k,(⟨gh,0,none⟩:Addr).add k=⟨gh,k,none⟩:=λk=>by rw[wb5,wa4]
 refine⟨a,b,c,hx,?_,?_,?_⟩
 ·have:=hc _ _ h0;rwa [ad] at this
 ·have:=hc _ _ h1;rwa [ad] at this
 ·have:=hc _ _ h2;rwa [ad] at this
def hdOf(hs:List (Int×Int×Int))(i:Int):Int×Int×Int:=if 0<=i/\i<(hs.length:Int) then hs[i.toNat]?.getD (0,0,0) else(0,0,0)
def hdV(x:Int×Int×Int):Value:= .agg #[.int .i64 x.1,.int .i64 x.2.1,.int .i64 x.2.2]
theorem qx9(h:HpR w base p gh gc hcap ccap s L r hs rv rx F)(i:Int):Calls Tryz.prog 102 #[.pointer (some ⟨p,0,none⟩),.int .i64 i] w λe w'=>e= .returned (hdV (hdOf hs i))/\Below w.heap.size w w':=by
 have hl:=h.hlen;have hBn:=(wac w.heap.size w).alloc (wab _) (.cells #[.int .i64 0,.int .i64 0,.int .i64 0] 82);have h1:=h.new hBn;have hm:=waa (q5p h1);replace hBn:=waa hBn;by_cases hi:0<=i/\i<(s:Int)
 ·obtain⟨I,rfl⟩:=waz hi.1
  have hI:I<s:=Zo
  obtain⟨a,b,c,hx,c0,c1,c2⟩:=h1.hd hI;obtain⟨d0,d1,d2,d3,d4,df⟩:=h1.cells;have hres:hdOf hs (I:Int)=(a,b,c):=by
   unfold hdOf;rw[if_pos Zo,wam,hx];rfl
  rw[hres];have z1:¬(I:Int)<0:=Zo
  have z2:¬(s:Int)<=(I:Int):=Zo
  have z3:(0:Int)<=(I:Int):=Zo
  have z4:(I:Int)<(s:Int):=Zo
  have hgl:gh≠w.heap.size:=λe=>by have:=(h.heads.lt gh rfl).2;omega
  clear h h1 hx hres hl;go_enter Tryz.func102,Tryz.ntmps102;go_wp2_with fail;refine hm.out.mono ?_;rintro e w' ⟨rfl,rfl⟩;go_wp2_with fail;have hBx:=(wac w.heap.size w).alloc (wab _) (.cells #[.int .i64 a,.int .i64 b,.int .i64 c] 82);exact⟨rfl,_,results_cell_row (P:=Tryz.prog) rfl _ _ w.heap.size 82 _ _ _ rfl (heap_alloc_new w _) whh rfl Zk,rfl,hBx⟩
 ·have hres:hdOf hs i=(0,0,0):=by
   unfold hdOf;rw[if_neg (by rw[hl];exact hi)]
  rw[hres];clear h h1 hres hl;go_enter Tryz.func102,Tryz.ntmps102;by_cases h0:i<0
  ·go_wp2_with fail
   exact⟨rfl,_,results_cell_row (P:=Tryz.prog) rfl _ _ w.heap.size 82 _ _ _ rfl (heap_alloc_new w _) whh rfl Zk,rfl,hBn.out⟩
  ·have h2:(s:Int)<=i:=Zo
   go_wp2_with fail;refine hm.out.mono ?_;rintro e w' ⟨rfl,rfl⟩;go_wp2_with fail;exact⟨rfl,_,results_cell_row (P:=Tryz.prog) rfl _ _ w.heap.size 82 _ _ _ rfl (heap_alloc_new w _) whh rfl Zk,rfl,hBn.out⟩
end
def idxN(P:Int×Int×Int->Bool):Nat->List (Int×Int×Int)->Int
 |_,[]=>-1
 |k,h::t=>if P h=true then(k:Int) else idxN P (k+1) t
theorem qwz(P:Int×Int×Int->Bool):∀(k:Nat) (hs:List (Int×Int×Int)),decide (0<=idxN P k hs)=hs.any P
 |_,[]=>rfl
 |k,h::t=>by
  unfold idxN;cases hh:P h with
  |true=>rw[if_pos rfl,List.any_cons,hh,Bool.true_or];exact decide_eq_true Zo
  |false=>rw[if_neg Zd,List.any_cons,hh,Bool.false_or];exact qwz P (k+1) t
theorem q20{FN:Nat}{P:Int×Int×Int->Bool}(hen:∀(args:Array Value) (w:World),(callFunc FN args).run Tryz.prog w= .ok (.enter FN args) w)(hf:∀(a b c:Int) (V:World),Calls Tryz.prog FN #[.agg #[.int .i64 a,.int .i64 b,.int .i64 c]] V λe w'=>e= .returned (.bool (P (a,b,c)))/\Below V.heap.size V w')(A:Option Addr)(cap:Nat)(hs:List (Int×Int×Int))(w:World)(h:HdsRd w A hs.length hs)(hn:hs.length<=9223372036854775806):
  Calls Tryz.prog 144 #[.slice A hs.length cap,.func (.func FN) #[] #[]] w λe w'=>e= .returned (.int .i64 (idxN P 0 hs))/\Below w.heap.size w w':=by
 go_enter Tryz.func144,Tryz.ntmps144;go_wp2_with fail;go_loopw [8] (λq wr=>∃(W:World) (j:Nat),W=wr/\q= .int .i64 (j:Int)/\j<=hs.length/\Hid (idxN P j (hs.drop j)=idxN P 0 hs)/\Below w.heap.size w W) (λq _=>hs.length - (RowKit.intOf q).toNat)
 case atStart=>exact⟨w,0,rfl,rfl,wau _,waa rfl,wac _ _⟩
 case round=>
  obtain⟨W,j,rfl,rfl,hj,hr,hB⟩:=hrel;by_cases hlt:j<hs.length
  ·obtain⟨p,k,c,n,rfl,hd,-,h0,h1,h2⟩:=(h.below hB).at_ hlt
   rw[hd] at hr;clear hd;have hm:=waa (λV=>hf k c n V);cases hh:P (k,c,n) with
   |false=>
    rw[hh] at hm;have hr2:=waa ((if_neg (show ¬P (k,c,n)=true by rw[hh];decide):idxN P j ((k,c,n)::hs.drop (j+1))=idxN P (j+1) (hs.drop (j+1))).symm.trans hr.out);clear hr hh;go_wp2_with fail;refine(hm.out _).mono ?_;rintro e w1 ⟨rfl,hC⟩;have hB1:=hB.trans (hC.mono hB.size);go_wp2_with fail;go_roundw
    case rel=>exact⟨_,j+1,rfl,by go_num,Zo,hr2,hB1⟩
    case measure=>simp[RowKit.intOf];omega
   |true=>
    rw[hh] at hm;have hr2:=waa ((if_pos hh:idxN P j ((k,c,n)::hs.drop (j+1))=(j:Int)).symm.trans hr.out);clear hr hh;go_wp2_with fail;refine(hm.out _).mono ?_;rintro e w1 ⟨rfl,hC⟩;have hB1:=hB.trans (hC.mono hB.size);go_wp2_with fail;try rw[wa0]
    go_ret;exact⟨congrArg (λz:Int=>Ending.returned (Value.int .i64 z)) hr2.out,hB1⟩
  ·have e1:hs.drop j=[]:=wbn Zo
   rw[e1] at hr;have hr2:=waa (hr.out.symm.trans (show idxN P j []= -1 from rfl));clear hr e1;go_wp2_with fail;go_ret;exact⟨congrArg (λz:Int=>Ending.returned (Value.int .i64 z)) hr2.out.symm,hB⟩
theorem q2w{FN:Nat}{P:Int×Int×Int->Bool}(hen:∀(args:Array Value) (w:World),(callFunc FN args).run Tryz.prog w= .ok (.enter FN args) w)(hf:∀(a b c:Int) (V:World),Calls Tryz.prog FN #[.agg #[.int .i64 a,.int .i64 b,.int .i64 c]] V λe w'=>e= .returned (.bool (P (a,b,c)))/\Below V.heap.size V w')(A:Option Addr)(cap:Nat)(hs:List (Int×Int×Int))(w:World)(h:HdsRd w A hs.length hs)(hn:hs.length<=9223372036854775806):
  Calls Tryz.prog 101 #[.slice A hs.length cap,.func (.func FN) #[] #[]] w λe w'=>e= .returned (.bool (hs.any P))/\Below w.heap.size w w':=by
 have hi:=waa (q20 hen hf A cap hs w h hn);have hb:=waa (qwz P 0 hs);clear h hf;generalize idxN P 0 hs=x at hi hb;go_enter Tryz.func101,Tryz.ntmps101;go_wp2_with fail;refine hi.out.mono ?_;rintro e w1 ⟨rfl,hB⟩;go_wp2_with fail;go_ret;exact⟨qab hb.out,hB⟩
def tknB(x:Int×Int×Int):Bool:=decide (x.1≠0)
section
variable {w:World} {base p gh gc hcap ccap s L:Nat} {r:Int} {hs:List (Int×Int×Int)} {rv:Nat->Value} {rx:Nat->List Int} {F:Nat->Prop}
def spn1(gh hcap s:Nat)(i:Int):Value:=if 0<=i/\i<(s:Int) then .slice (some ⟨gh,i.toNat*3,none⟩) 1 (hcap - i.toNat) else .slice none 0 0
def freB(hs:List (Int×Int×Int))(i:Int):Bool:=decide (0<=i/\i<(hs.length:Int))&&!tknB (hdOf hs i)
end
def nhB(x:Int×Int×Int):Bool:=!qav x.1 x.2.1 x.2.2
theorem qvc(a b c:Int)(w:World):Calls Tryz.prog 98 #[.agg #[.int .i64 a,.int .i64 b,.int .i64 c]] w λe w'=>e= .returned (.bool (nhB (a,b,c)))/\Below w.heap.size w w':=by
 have hB:=waa ((wac w.heap.size w).alloc (wab _) (.cells #[.int .i64 a,.int .i64 b,.int .i64 c] 82));unfold nhB;dsimp only
 cases hm:qav a b c with
 |true=>
  have hw:=waa (λW=>qio a b c W hm);clear hm;generalize qce a b c=z at hw;go_enter Tryz.func98,Tryz.ntmps98;go_wp2_with fail;refine(hw.out _).mono ?_;rintro e w1 ⟨rfl,hB1⟩;have hfin:=waa (hB.out.trans (hB1.mono hB.out.size));clear hB1 hw;go_wp2_with fail;go_ret;exact⟨rfl,hfin.out⟩
 |false=>
  have hw:=waa (λW=>qog a b c W hm);clear hm;go_enter Tryz.func98,Tryz.ntmps98;go_wp2_with fail;refine(hw.out _).mono ?_;rintro e w1 ⟨rfl,hB1⟩;have hfin:=waa (hB.out.trans (hB1.mono hB.out.size));clear hB1 hw;go_wp2_with fail;go_ret;exact⟨rfl,hfin.out⟩
theorem qyk{s L:Nat}{r:Int}{hs:List (Int×Int×Int)}(A:Option Addr)(cap:Nat)(w:World)(hm:mayB (s:Int) (L:Int) r=true)(hl:hs.length=s)(hs16:s<=16)(hR:HdsRd w A hs.length hs)(hok:hs.any nhB=false):
  Calls Tryz.prog 64 #[.agg #[.int .i64 (s:Int),.int .i64 (L:Int),.int .i64 r],.slice A s cap] w λe w'=>e= .returned (.bool true)/\Below w.heap.size w w':=by
 have hma:=waa (λW=>qd7 (s:Int) (L:Int) r W);rw[hm] at hma;have hB:=(wac w.heap.size w).alloc (wab _) (.cells #[.int .i64 (s:Int),.int .i64 (L:Int),.int .i64 r] 23);have hcn:=waa (λ(W:World) (hW:Below w.heap.size w W)=>show Calls Tryz.prog 101 #[.slice A s cap,.func (.func 98) #[] #[]] W λe w'=>e= .returned (.bool false)/\Below W.heap.size W w' from by
  have:=q2w (P:=nhB) (λ_ _=>by simp[go_sem]) qvc A cap hs W (hR.below hW) Zo
  rwa [hok,hl] at this)
 have hx:(w.alloc (.cells #[.int .i64 (s:Int),.int .i64 (L:Int),.int .i64 r] 23)).heap[w.heap.size]? =some (.cells #[.int .i64 (s:Int),.int .i64 (L:Int),.int .i64 r] 23 (0,0)):=heap_alloc_new w _;replace hB:=waa hB;replace hx:=waa hx;clear hm hok hR;go_enter Tryz.func64,Tryz.ntmps64;go_wp2_with fail;refine(hma.out _).mono ?_;rintro e w1 ⟨rfl,hB1⟩;have hx1:w1.heap[w.heap.size]? =some (.cells #[.int .i64 (s:Int),.int .i64 (L:Int),.int .i64 r] 23 (0,0)):=(hB1.block _ Zs).trans hx.out;have c0:w1.cell? ⟨w.heap.size,0,none⟩=some (.int .i64 (s:Int)):=by rw[qaa hx1];rfl
 have hB2:=waa (hB.out.trans (hB1.mono hB.out.size));have hcn2:=waa (hcn.out w1 hB2.out);clear hB1 hx1 hcn hma hx hB;go_wp2_with fail;refine hcn2.out.mono ?_;rintro e w3 ⟨rfl,hB3⟩;have hfin:=waa (hB2.out.trans (hB3.mono hB2.out.size));clear hB3 hcn2;go_wp2_with fail;go_ret;exact⟨rfl,hfin.out⟩
theorem qoa(w:World)(a:Addr)(n c:Nat):(binOp .eql 75 (.slice (some a) n c) (.slice none 0 0)).run Tryz.prog w= .ok (.bool false) w:=by
 have h:∀d:Nat,(Op.equalIn (d+1) 75 (.slice (some a) n c) (.slice none 0 0)).run Tryz.prog w= .ok false w:=λd=>by
  simp[Op.equalIn,run_underlying Tryz.underlying75]
 simp only[binOp];simp[Op.equal,Op.maxDepth,h 9999]
theorem qhg{w:World}{g n:Nat}{hs:List (Int×Int×Int)}(h:HdsRd w (some ⟨g,0,none⟩) n hs):∀j u,(hV hs)[j]? =some u->w.cell? ((⟨g,0,none⟩:Addr).add j)=some u:=by
 obtain⟨h1,h2⟩:=h;intro j u hu;have hj:j<hs.length*3:=by have:=(wan.1 hu).1;rwa [qfg] at this
 obtain⟨b,e,hc⟩:=h2 Zo;injection e with e;subst e;obtain⟨x,hx⟩:∃x,hs[j/3]? =some x:=⟨_,waj Zo⟩
 obtain⟨c0,c1,c2⟩:=hc _ _ hx;obtain⟨v0,v1,v2⟩:=qzt hx;rw[wb5] at c0 c1 c2;rw[wb5];simp only[wa4] at c0 c1 c2 ⊢;have h3:j%3=0\/j%3=1\/j%3=2:=Zo
 rcases h3 with e|e|e
 ·have:j/3*3=j:=Zo
  rw[this,hu] at v0;injection v0 with v0;rw[this] at c0;rw[v0];exact c0
 ·have:j/3*3+1=j:=Zo
  rw[this,hu] at v1;injection v1 with v1;rw[this] at c1;rw[v1];exact c1
 ·have:j/3*3+2=j:=Zo
  rw[this,hu] at v2;injection v2 with v2;rw[this] at c2;rw[v2];exact c2
theorem qmq{g cap n:Nat}{hs:List (Int×Int×Int)}(w:World)(h:HdsRd w (some ⟨g,0,none⟩) n hs)(h0:0<n)(hn:n<=16):
  Calls Tryz.prog 61 #[.slice (some ⟨g,0,none⟩) n cap] w λe w'=>∃g' cap',e= .returned (.slice (some ⟨g',0,none⟩) n cap')/\w'.ownsRow w.heap.size 82 3 (.slice (some ⟨g',0,none⟩) n cap') n (hV hs)/\Below w.heap.size w w':=by
 obtain⟨i0,ii,iz0,iz1,iz2⟩:=info_parts qga;have hlen:(hV hs).length=n*3:=by rw[qfg,h.1]
 have hnews:=qhg (h.below ((wac w.heap.size w).alloc (wab _) (.cells #[] 82)));have h1:∀u∈hV hs,u.oneCell'=true:=λv hv=>by
  unfold hV at hv;rw[wdk] at hv;obtain⟨x,-,hx⟩:=hv;simp only[wbg,wgz,or_false] at hx;rcases hx with rfl|rfl|rfl<;>rfl
 have hnil:=λw=>qoa w ⟨g,0,none⟩ n cap
 have hlit:=wcq (base:=w.heap.size) (e:=82) (size:=3) w #[] 0 (wab _) Zd rfl;go_enter Tryz.func61,Tryz.ntmps61;go_wp2_with (at_builtin;go_loud (refine wpList_append_own _ rfl _ _ 75 rfl w.heap.size 82 i0 _ 3 24 wde ii iz0 iz1 iz2 rfl Zd _ 0 [] rfl hlit ⟨g,0,none⟩ n cap (hV hs) rfl hlen hnews h1 (by simp only[maxLen];omega) Zo Zs ?_;intro v' w2 hown2 hgrow _;rw[wa4,wba] at hown2;obtain⟨g',cap',rfl⟩:=(by rcases hown2.2 with ⟨-,e⟩|⟨g,c,cur,e,_⟩;exact absurd e Zo;exact⟨g,c,e⟩:∃g' cap',v'= .slice (some ⟨g',0,none⟩) n cap');have hB:=((wac _ w).alloc (wab _) (.cells #[] 82)).grown hgrow Zs (qa0 hlit)))
 go_ret;exact⟨g',cap',rfl,hown2,hB⟩
theorem qum(w:World):(Instr.makeSlice 118 (.int .i64 1) (.int .i64 1)).run Tryz.prog w= .ok (.slice (some ⟨w.heap.size,0,none⟩) 1 1) (w.alloc (.cells (caC (λ_=> .slice none 0 0) 1) 117)):=by kernel_rfl
theorem qu5(w:World):(Instr.makeSlice 118 (.int .i64 2) (.int .i64 2)).run Tryz.prog w= .ok (.slice (some ⟨w.heap.size,0,none⟩) 2 2) (w.alloc (.cells (caC (λ_=> .slice none 0 0) 2) 117)):=by kernel_rfl
theorem qvk(w:World):(Instr.makeSlice 118 (.int .i64 3) (.int .i64 3)).run Tryz.prog w= .ok (.slice (some ⟨w.heap.size,0,none⟩) 3 3) (w.alloc (.cells (caC (λ_=> .slice none 0 0) 3) 117)):=by kernel_rfl
theorem qvd(w:World):(Instr.makeSlice 118 (.int .i64 4) (.int .i64 4)).run Tryz.prog w= .ok (.slice (some ⟨w.heap.size,0,none⟩) 4 4) (w.alloc (.cells (caC (λ_=> .slice none 0 0) 4) 117)):=by kernel_rfl
theorem qrl{L:Nat}(h:1<=L/\L<=4)(w:World):(Instr.makeSlice 118 (.int .i64 (L:Int)) (.int .i64 (L:Int))).run Tryz.prog w= .ok (.slice (some ⟨w.heap.size,0,none⟩) L L) (w.alloc (.cells (caC (λ_=> .slice none 0 0) L) 117)):=by
 have h4:L=1\/L=2\/L=3\/L=4:=Zo
 rcases h4 with rfl|rfl|rfl|rfl
 ·exact qum w
 ·exact qu5 w
 ·exact qvk w
 ·exact qvd w
def qdm(b z:Int)(n:Nat):List Int:=(List.range n).map λk:Nat=>b+(k:Int)*z
theorem qhf(b z:Int)(n:Nat):(qdm b z n).length=n:=by simp[qdm]
theorem qij{b z:Int}{n k:Nat}(h:k<=n):(qdm b z n).take k=qdm b z k:=by
 unfold qdm;rw[<-List.map_take,List.take_range,wgs h]
theorem q0i(b z:Int)(n:Nat):qdm b z (n+1)=qdm b z n++[b+(n:Int)*z]:=by
 unfold qdm;rw[wcd,wcr];rfl
def blkL(s L:Nat)(r:Int)(hs:List (Int×Int×Int))(i:Int):List Int:=if(hdOf hs i).1=1 then qdm (qby s L r i) (szN (hdOf hs i).2.1) (bkN (hdOf hs i).2.1).toNat else[]
theorem qac{w w':World}(hB:Below w.heap.size w w'){q:Addr}{v:Value}(h:w.cell? q=some v):w'.cell? q=some v:=(hB.cell (wak w _ h)).trans h
theorem qw6(c:Int):0<=bkN c/\bkN c<=32:=by
 unfold bkN;split
 ·omega
 ·split
  ·omega
  ·split
   ·omega
   ·split<;>omega
section
variable {w w':World} {base p gh gc hcap ccap s L:Nat} {r:Int} {hs:List (Int×Int×Int)} {rv:Nat->Value} {rx:Nat->List Int} {F:Nat->Prop}
theorem HpR.span_bd(h:HpR w base p gh gc hcap ccap s L r hs rv rx F)(i:Int):-1<=qby s L r i/\qby s L r i<=2000:=by
 have hd:=h.dims;unfold qby;split<;>omega
theorem qvh(h:HpR w base p gh gc hcap ccap s L r hs rv rx F)(i:Int):
  Calls Tryz.prog 65 #[.pointer (some ⟨p,0,none⟩),.int .i64 i] w λe w'=>∃v,e= .returned v/\RowI w' w.heap.size v (blkL s L r hs i)/\Below w.heap.size w w':=by
 have hho:=waa (qx9 h i);have hsb:=h.span_bd i;unfold blkL;generalize hdOf hs i=hd at hho ⊢;obtain⟨kd,c,nn⟩:=hd;unfold hdV at hho;dsimp only at hho ⊢;obtain⟨q0,q1,q2,-,-,-⟩:=h.cells;have hpl:=h.lts p h.cov.1;have hpb:=waa h.blk;by_cases hk:kd=1
 ·subst hk
  rw[if_pos rfl];have hbd:=qw6 c;have hzd:=qmm c;have hsp:=waa (λW=>qrc (s:Int) (L:Int) r i W);have hsz:=waa (λW=>qge c W);have hcb:=waa (λW=>qhx c W);generalize qby (s:Int) (L:Int) r i=S0 at hsb hsp ⊢;generalize szN c=Z at hzd hsz ⊢;obtain⟨KK,hK⟩:=waz hbd.1;rw[hK] at hcb hbd ⊢;rw[wam];clear h hK;go_enter Tryz.func65,Tryz.ntmps65;go_wp2_with fail;refine hho.out.mono ?_;rintro e w1 ⟨rfl,hB1⟩;have hh0:(w1.alloc (.cells #[.int .i64 1,.int .i64 c,.int .i64 nn] 82)).heap[w1.heap.size]? =some (.cells #[.int .i64 1,.int .i64 c,.int .i64 nn] 82 (0,0)):=heap_alloc_new w1 _;have hB2:=waa (hB1.alloc hB1.size (.cells #[.int .i64 1,.int .i64 c,.int .i64 nn] 82));replace hh0:=waa hh0;clear hB1;go_wp2_with fail;refine(hcb.out _).mono ?_;rintro e w3 ⟨rfl,rfl⟩;generalize w1.heap.size=hb at hh0 ⊢;go_wp2_with fail;go_loopg [6,17] KK (λgk s6 s17 wr=>∃(n:Nat) (RA:Option Addr) (RN RC:Nat),s17= .int .i64 (n:Int)/\s6= .slice RA RN RC/\KK - n<=gk/\n<=KK/\Hid (RowI wr w.heap.size (.slice RA RN RC) ((qdm S0 Z KK).take n))/\Hid (wr.heap[hb]? =some (.cells #[.int .i64 1,.int .i64 c,.int .i64 nn] 82 (0,0)))/\Hid (Below w.heap.size w wr))
  case atStart=>exact⟨0,none,0,0,rfl,rfl,Zo,Zo,waa (RowI.nil _ _),hh0,hB2⟩
  case round=>
  obtain⟨n,RA,RN,RC,rfl,rfl,hkn,hn,hr,hh,hB⟩:=hrel;clear hh0 hB2 hho;by_cases hnK:n<KK
  ·have k0:=qac hB.out q0
   have k1:=qac hB.out q1;have k2:=qac hB.out q2;have k3:wr.cell? ⟨hb,1,none⟩=some (.int .i64 c):=by rw[qaa hh.out];rfl
   have hpb:Hid (wr.heap[p]? =_):=waa ((hB.out.block p hpl).trans hpb.out);have hlen:=waa (show((qdm S0 Z KK).take n).length<=32 from by rw[qij hn,qhf];omega);have hz:(n:Int)<(KK:Int):=Zo
   have hmul:0<=(n:Int)*Z/\(n:Int)*Z<=512:=by
    have h1:(n:Int)*Z<=32*16:=wg6 Zo Zo Zo Zo;exact⟨we3 Zo Zo,Zo⟩
   have hw1:IntKind.i64.wrap ((n:Int)*Z)=(n:Int)*Z:=wao _ Zo;have hw2:IntKind.i64.wrap (S0+(n:Int)*Z)=S0+(n:Int)*Z:=wao _ Zo;have hnext:=waa (show(qdm S0 Z KK).take n++[S0+(n:Int)*Z]=(qdm S0 Z KK).take (n+1) from by rw[qij hn,qij hnK,q0i]);go_wp2_with fail;refine wp_region_held_drew (S:=(λU=>U.cell? ⟨p,0,none⟩=some (.int .i64 (s:Int))/\U.cell? ⟨p,1,none⟩=some (.int .i64 (L:Int))/\U.cell? ⟨p,2,none⟩=some (.int .i64 r)/\U.cell? ⟨hb,1,none⟩=some (.int .i64 c))) Zk (⟨k0,k1,k2,k3⟩) (λhHeld=>?_);refine wpAnyH_take (i:=0) (v:=?_) rfl Zk Zk Zk (λ_ _ _ h=>h) (Or.inl ⟨by rfl,?_⟩) Za ?_;rotate_left;(·intro u h;(try dsimp only at h);(try simp only[wad,wae]);go_simp;try with_reducible rfl);try simp only[Act.put,wag,wah,wai,wad,wae]
   refine wpAnyH_take (i:=1) (v:=?_) rfl Zk Zk Zk (λ_ _ _ h=>h) (Or.inl ⟨by rfl,?_⟩) Za ?_;rotate_left;(·intro u h;(try dsimp only at h);(try simp only[wad,wae,waf]);go_simp;try with_reducible rfl);try simp only[Act.put,wag,wah,wai,wad,wae,waf]
   refine wpAnyH_take (i:=2) (v:=?_) rfl Zk Zk Zk (λ_ _ _ h=>h) (Or.inl ⟨by rfl,?_⟩) Za ?_;rotate_left;(·intro u h;(try dsimp only at h);(try simp only[wad,wae,waf]);go_simp;try with_reducible rfl);try simp only[Act.put,wag,wah,wai,wad,wae,waf]
   refine wpAnyH_take (i:=3) (v:=?_) rfl Zk Zk Zk (λ_ _ _ h=>h) (Or.inl ⟨by rfl,?_⟩) Za ?_;rotate_left;(·intro u h;(try dsimp only at h);(try simp only[wad,wae,waf]);go_simp;try with_reducible rfl);try simp only[Act.put,wag,wah,wai,wad,wae,waf]
   refine wpAnyH_take (i:=4) (v:=?_) rfl Zk Zk Zk (λ_ _ _ h=>h) (Or.inl ⟨by rfl,?_⟩) Za ?_;rotate_left;(·intro u h;(try dsimp only at h);(try simp only[wad,wae,waf]);go_simp;try with_reducible rfl);try simp only[Act.put,wag,wah,wai,wad,wae,waf]
   refine wpAnyH_take (i:=5) (v:=?_) rfl Zk Zk Zk (λ_ _ _ h=>h) (Or.inl ⟨by rfl,?_⟩) Za ?_;rotate_left;(·intro u h;(try dsimp only at h);(try simp only[wad,wae,waf]);go_simp;try with_reducible rfl);try simp only[Act.put,wag,wah,wai,wad,wae,waf]
   refine wpAnyH_take (i:=7) (v:=?_) rfl Zk Zk Zk (λ_ _ _ h=>h) (Or.inl ⟨by rfl,?_⟩) Za ?_;rotate_left;(·intro u h;(try dsimp only at h);(try simp only[wad,wae,waf]);go_simp;try with_reducible rfl);try simp only[Act.put,wag,wah,wai,wad,wae,waf]
   refine wpAnyH_take (i:=8) (v:=?_) rfl Zk Zk Zk (λ_ _ _ h=>h) (Or.inl ⟨by rfl,?_⟩) Za ?_;rotate_left;(·intro u h;(try dsimp only at h);(try simp only[wad,wae,waf]);go_simp;try with_reducible rfl);try simp only[Act.put,wag,wah,wai,wad,wae,waf]
   refine wpAnyH_take (i:=9) (v:=?_) rfl Zk Zk Zk (λ_ _ _ h=>h) (Or.inl ⟨by rfl,?_⟩) Za ?_;rotate_left;(·intro u h;(try dsimp only at h);(try simp only[wad,wae,waf]);go_simp;try with_reducible rfl);try simp only[Act.put,wag,wah,wai,wad,wae,waf]
   refine wpAnyH_ready (rs:=[6]) Zk Zs ?_;refine AllReadyH.cons rfl (λK hK=>?_) AllReadyH.nil
   (try simp only[wad,wae,waf])
   go_simp
   refine(hsp.out _).mono ?_;rintro e w2 ⟨rfl,hC⟩;have hC2:=(wac wr.heap.size wr).drew.trans hC;have e0:=qac hC2 k0;have e1:=qac hC2 k1;have e2:=qac hC2 k2;have e3:=qac hC2 k3;go_wp2_with fail;refine hK.out _ _ (⟨e0,e1,e2,e3⟩) (λhHeld2=>?_);clear hK K hHeld;have hHeld:=hHeld2;clear hHeld2;try simp only[Act.put,wag,wah,wai,wad,wae,waf]
   refine wpAnyH_ready (rs:=[10]) Zk Zs ?_;refine AllReadyH.cons rfl (λK hK=>?_) AllReadyH.nil
   (try simp only[wad,wae,waf])
   go_simp
   refine(hsz.out _).mono ?_;rintro e w3 ⟨rfl,rfl⟩;go_wp2_with fail;refine hK.out _ _ (⟨e0,e1,e2,e3⟩) (λhHeld2=>?_);clear hK K hHeld;have hHeld:=hHeld2;clear hHeld2;try simp only[Act.put,wag,wah,wai,wad,wae,waf]
   refine wpAnyH_take (i:=11) (v:=?_) rfl Zk Zk Zk (λ_ _ _ h=>h) (Or.inl ⟨by rfl,?_⟩) Za ?_;rotate_left;(·intro u h;(try dsimp only at h);(try simp only[wad,wae,waf]);go_simp;try with_reducible rfl);try simp only[Act.put,wag,wah,wai,wad,wae,waf]
   refine wpAnyH_take (i:=12) (v:=?_) rfl Zk Zk Zk (λ_ _ _ h=>h) (Or.inl ⟨by rfl,?_⟩) Za ?_;rotate_left;(·intro u h;(try dsimp only at h);(try simp only[wad,wae,waf]);go_simp;try with_reducible rfl);try simp only[Act.put,wag,wah,wai,wad,wae,waf]
   refine wpAnyH_ready (rs:=[13]) Zk Zs ?_;refine AllReadyH.cons rfl (λK hK=>?_) AllReadyH.nil
   (try simp only[wad,wae,waf])
   go_simp
   obtain⟨x,hx⟩:∃x,x=S0+(n:Int)*Z:=⟨_,rfl⟩
   rw[<-hx];have hBw:Below w2.heap.size w2 (w2.alloc (.cells #[.int .i64 x] 3)):=(wac w2.heap.size w2).alloc (wab _) _;have hal:=waa (And.intro (qac hBw e0) (And.intro (qac hBw e1) (And.intro (qac hBw e2) (qac hBw e3))));have hBx:=hC2.trans (hBw.mono hC2.size);have hrow:=waa (hr.out.below hBx);have hnew:=waa (λ(j:Nat) (z:Int) (hz:[x][j]? =some z)=>show(w2.alloc (.cells #[.int .i64 x] 3)).cell? ((⟨w2.heap.size,0,none⟩:Addr).add j)=some (Value.int .i64 z) from by
    cases j with
    |zero=>
     obtain rfl:x=z:=by simpa using hz
     exact q87 (heap_alloc_new w2 _) rfl
    |succ j=>simp at hz)
   have hbs:=waa (show w.heap.size<=(w2.alloc (.cells #[.int .i64 x] 3)).heap.size from wap hB.out.size hBx.size);have hnp:=waa (λe=>qcm hpb.out Zd hr.out e.symm:some p≠(Value.slice RA RN RC).ownBlock);have hnh:=waa (λe=>qcm hh.out Zd hr.out e.symm:some hb≠(Value.slice RA RN RC).ownBlock);replace hx:=waa hx;replace hBx:=waa hBx;clear hBw;refine hK.out _ _ (hal.out) (λhHeld2=>?_);clear hK K hHeld;have hHeld:=hHeld2;clear hHeld2;try simp only[Act.put,wag,wah,wai,wad,wae,waf]
   refine wpAnyH_ready (rs:=[14]) Zk Zs ?_;refine AllReadyH.cons rfl (λK hK=>?_) AllReadyH.nil;refine qed Zr _ _ Zr w.heap.size (.slice RA RN RC) ((qdm S0 Z KK).take n) Zr hrow.out ⟨w2.heap.size,0,none⟩ 1 1 [x] Zr rfl Zo hnew.out (by have:=hlen.out;omega) hbs.out ?_;intro u2 w4 hr2 hgr2 hob2;obtain⟨TA,TC,rfl,-,-⟩:=hr2.shape;generalize hYl:((qdm S0 Z KK).take n++[x]).length=TN at hr2 hob2 ⊢;have f0:=hgr2.cell (a:=⟨p,0,none⟩) (show(w2.alloc (.cells #[.int .i64 x] 3)).cell? ⟨p,0,none⟩=_ from hal.out.1) hnp.out;have f1:=hgr2.cell (a:=⟨p,1,none⟩) (show(w2.alloc (.cells #[.int .i64 x] 3)).cell? ⟨p,1,none⟩=_ from hal.out.2.1) hnp.out;have f2:=hgr2.cell (a:=⟨p,2,none⟩) (show(w2.alloc (.cells #[.int .i64 x] 3)).cell? ⟨p,2,none⟩=_ from hal.out.2.2.1) hnp.out;have f3:=hgr2.cell (a:=⟨hb,1,none⟩) (show(w2.alloc (.cells #[.int .i64 x] 3)).cell? ⟨hb,1,none⟩=_ from hal.out.2.2.2) hnh.out;refine hK.out _ _ (⟨f0,f1,f2,f3⟩) (λhHeld2=>?_);clear hK K hHeld;have hHeld:=hHeld2;clear hHeld2;try simp only[Act.put,wag,wah,wai,wad,wae,waf]
   refine wpAnyH_take (i:=15) (v:=?_) rfl Zk Zk Zk (λ_ _ _ h=>h) (Or.inl ⟨by rfl,?_⟩) Za ?_;rotate_left;(·intro u h;(try dsimp only at h);(try simp only[wad,wae,waf]);go_simp;try with_reducible rfl);try simp only[Act.put,wag,wah,wai,wad,wae,waf]
   refine wpAnyH_done Zk ?_ _;have hB3:Below w.heap.size w w4:=(hB.out.trans (hBx.out.mono hB.out.size)).grown hgr2 hbs.out (λj e=>(hr.out.lt j e).1);go_wp2_with fail;go_roundg (KK - (n+1))
   case measure=>omega
   case rel=>exact⟨n+1,_,_,_,by go_num,rfl,wab _,Zo,waa (by rw[<-hnext.out,<-hx.out];exact hr2),waa ((hgr2.block hb (wak _ _ hal.out.2.2.2) hnh.out).trans ((hBx.out.block hb (wak _ _ k3)).trans hh.out)),waa hB3⟩
  ·obtain rfl:n=KK:=Zo
   have hz:¬(n:Int)<(n:Int):=Zo
   go_wp2_with fail;go_ret;exact⟨_,rfl,by
    have:=hr.out
    rwa [wa2 (wc3 (qhf _ _ _))] at this,hB.out⟩
 ·rw[if_neg hk]
  clear h;have hk2:(kd !=1)=true:=by simp[hk]
  replace hk:=waa hk;go_enter Tryz.func65,Tryz.ntmps65;go_wp2_with fail;refine hho.out.mono ?_;rintro e w1 ⟨rfl,hB1⟩;have hB2:=waa (hB1.alloc hB1.size (.cells #[.int .i64 kd,.int .i64 c,.int .i64 nn] 82));clear hB1;go_wp2_with fail;go_ret;exact⟨_,rfl,RowI.nil _ _,hB2.out⟩
end
theorem Hp.made{W:World}{base p gh gc hcap s L:Nat}{r:Int}{hs:List (Int×Int×Int)}(hb:W.heap[p]? =some (.cells (hpC (λ_=> .slice none 0 0) (s:Int) (L:Int) r (.slice (some ⟨gh,0,none⟩) s hcap) (.slice (some ⟨gc,0,none⟩) L L)) 120 (0,0)))(hh:W.ownsRow base 82 3 (.slice (some ⟨gh,0,none⟩) s hcap) s (hV hs))(hc:W.heap[gc]? =some (.cells (caC (λ_=> .slice none 0 0) L) 117 (0,0)))(h1:base<=p)(h2:base<=gc)(hd:(1<=s/\s<=16)/\1<=L/\L<=4):
  ∃F:Nat->Prop,Hp W base p s L r hs (λ_=>[]) F/\∀k,F k->base<=k:=by
 have hp:=(wal.1 hb).1;refine⟨λk=>k=p\/k=gh\/k=gc,?_,λk hk=>by
  rcases hk with rfl|rfl|rfl
  ·exact h1
  ·exact(hh.lt k rfl).1
  ·exact h2⟩
 refine⟨gh,gc,hcap,L,λ_=> .slice none 0 0,hb,hh,hc,λj _=>RowI.nil _ _,λi j _ _ _ g e=>(by cases e),⟨h1,h2,Zo⟩,hd,⟨.inl rfl,.inr (.inl rfl),.inr (.inr rfl),λj _ g e=>(by cases e)⟩,λk hk=>?_⟩;rcases hk with rfl|rfl|rfl
 ·exact hp
 ·exact(hh.lt k rfl).2
 ·exact(wal.1 hc).1
def frH(s:Nat):List (Int×Int×Int):=List.replicate s (0,0,0)
end Go.Proofs.YtocncmbeinmiaaaGreat
