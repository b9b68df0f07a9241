/- Parts. No condition. -/
import Derived.Test.YtgjhkafggagniaaGreatJoinV25
import Derived.Test.YtgjhkafggagniaaGreatJoinV13
set_option linter.unusedVariables false
set_option maxRecDepth 100000
set_option maxHeartbeats 8000000
namespace Go.Proofs.YtgjhkafggagniaaGreat
open Go Go.RowKit
section
variable {w:World} {base p gh gc hcap ccap s L:Nat} {r:Int} {hs:List (Int×Int×Int)} {rv:Nat->Value} {rx:Nat->List Int} {F:Nat->Prop}
theorem HpR.cells(h:HpR w base p gh gc hcap ccap s L r hs rv rx F):w.cell? ⟨p,0,none⟩=some (.int .i64 (s:Int))/\w.cell? ⟨p,1,none⟩=some (.int .i64 (L:Int))/\w.cell? ⟨p,2,none⟩=some (.int .i64 r)/\
  w.cell? ⟨p,3,none⟩=some (.slice (some ⟨gh,0,none⟩) s hcap)/\w.cell? ⟨p,8,none⟩=some (.slice (some ⟨gc,0,none⟩) L ccap)/\∀o,w.frozen? ⟨p,o,none⟩=false:=
 ⟨by rw[qab h.blk];rfl,by rw[qab h.blk];rfl,by rw[qab h.blk];rfl,by rw[qab h.blk];rfl,by rw[qab h.blk];rfl,λo=>qah h.blk o⟩
theorem qg0(h:HpR w base p gh gc hcap ccap s L r hs rv rx F):Calls Tryz.prog 164 #[.pointer (some ⟨p,0,none⟩)] w λe w'=>e= .returned (.int .i64 (s:Int))/\w=w':=by
 obtain⟨c0,c1,c2,c3,c4,cf⟩:=h.cells;clear h;go_enter Tryz.func164,Tryz.ntmps164;go_wp2_with fail;go_ret;exact⟨rfl,rfl⟩
theorem qzm{c:Int}:(0<bkN c)↔(0<=c/\c<4):=by
 constructor
 ·intro h
  by_cases hc:0<=c/\c<4
  ·exact hc
  ·rw[qsv hc] at h;omega
 ·intro h
  unfold bkN;split
  ·omega
  ·split
   ·omega
   ·split
    ·omega
    ·split
     ·omega
     ·omega
theorem qel(c:Int)(w:World):Calls Tryz.prog 353 #[.int .i64 c] w λe w'=>e= .returned (.bool (decide (0<=c/\c<4)))/\w=w':=by
 have hb:=waa (qzm (c:=c));have hcb:=waa (qff c w);go_enter Tryz.func353,Tryz.ntmps353;go_wp2_with fail;refine hcb.out.mono ?_;rintro e w' ⟨rfl,rfl⟩;go_wp2_with fail;go_ret;exact⟨qae (decide_eq_decide.2 hb.out),rfl⟩
theorem qeq(h:HpR w base p gh gc hcap ccap s L r hs rv rx F){t c:Nat}(ht:t<L)(hc:c<4):
  Calls Tryz.prog 314 #[.pointer (some ⟨p,0,none⟩),.int .i64 (t:Int),.int .i64 (c:Int)] w λe w'=>e= .returned (.tuple #[.pointer (some ⟨p,4+c,none⟩),.pointer (some ⟨gc,t*4+c,none⟩)])/\Below w.heap.size w w':=by
 obtain⟨c0,c1,c2,c3,c4,cf⟩:=h.cells;have hsm:=waa (show Calls Tryz.prog 353 #[.int .i64 (c:Int)] w λe w'=>e= .returned (.bool true)/\w=w' from by
  have:=qel (c:Int) w
  rwa [decide_eq_true Zo] at this)
 have hd:=h.dims;have z1:¬(t:Int)<0:=Zo
 have z2:¬(L:Int)<=(t:Int):=Zo
 have z3:(0:Int)<=(t:Int):=Zo
 have z4:(t:Int)<(L:Int):=Zo
 have z5:(0:Int)<=(c:Int):=Zo
 have z6:(c:Int)<4:=Zo
 have hBd:=waa (wai w.heap.size w).drew;clear h;go_enter Tryz.func314,Tryz.ntmps314;go_wp2_with fail;refine hsm.out.mono ?_;rintro e w' ⟨rfl,rfl⟩;go_wp2_with fail;go_region
 go_wp2_with fail;go_ret2;exact⟨rfl,hBd.out⟩
theorem qfb(h:HpR w base p gh gc hcap ccap s L r hs rv rx F){t c:Int}(hno:¬(0<=t/\t<(L:Int)/\0<=c/\c<4)):
  Calls Tryz.prog 314 #[.pointer (some ⟨p,0,none⟩),.int .i64 t,.int .i64 c] w λe w'=>∃b1 b2,e= .returned (.tuple #[.pointer (some ⟨b1,0,none⟩),.pointer (some ⟨b2,0,none⟩)])/\(w.heap.size<=b1/\w.heap.size<=b2/\b1≠b2)/\
   Boxed w' b1 24 (.slice none 0 0)/\Boxed w' b2 24 (.slice none 0 0)/\Below w.heap.size w w':=by
 obtain⟨c0,c1,c2,c3,c4,cf⟩:=h.cells;have hsm:=waa (qel c w);have hq1:Boxed ((w.alloc (.cells #[.slice none 0 0] 24)).alloc (.cells #[.slice none 0 0] 24)) w.heap.size 24 (.slice none 0 0):=qag (qad rfl _ _) _;have hq2:Boxed ((w.alloc (.cells #[.slice none 0 0] 24)).alloc (.cells #[.slice none 0 0] 24)) (w.heap.size+1) 24 (.slice none 0 0):=qad Zs _ _;have hBd:=waa (((wai w.heap.size w).alloc (wah _) (.cells #[.slice none 0 0] 24)).alloc Zs (.cells #[.slice none 0 0] 24));replace hq1:=waa hq1;replace hq2:=waa hq2;clear h;go_enter Tryz.func314,Tryz.ntmps314;by_cases h1:t<0
 ·go_wp2_with fail
  go_ret2;exact⟨_,_,rfl,⟨wah _,Zo,Zo⟩,hq1.out,hq2.out,hBd.out⟩
 ·by_cases h2:(L:Int)<=t
  ·go_wp2_with fail
   go_ret2;exact⟨_,_,rfl,⟨wah _,Zo,Zo⟩,hq1.out,hq2.out,hBd.out⟩
  ·have h3:¬(0<=c/\c<4):=λe=>hno ⟨Zo,Zo,e.1,e.2⟩
   have hsm2:=waa (show Calls Tryz.prog 353 #[.int .i64 c] w λe w'=>e= .returned (.bool false)/\w=w' from by
    have:=hsm.out
    rwa [decide_eq_false h3] at this)
   clear h3 hno hsm;go_wp2_with fail;refine hsm2.out.mono ?_;rintro e w' ⟨rfl,rfl⟩;go_wp2_with fail;go_ret2;exact⟨_,_,rfl,⟨wah _,Zo,Zo⟩,hq1.out,hq2.out,hBd.out⟩
theorem qgy{b:Nat}(hb:Boxed w b 24 (.slice none 0 0)):At2 w base b 0 #[.slice none 0 0] 24 (.slice none 0 0) []:=⟨hb,rfl,RowI.nil w base,by decide⟩
theorem qfy{t c:Nat}(ht:t<L)(hc:c<4):t*4+c<4*L:=Zo
def thP(L:Nat)(t c:Int):Prop:=0<=t/\t<(L:Int)/\0<=c/\c<4
instance thP_dec (L:Nat) (t c:Int):Decidable (thP L t c):=inferInstanceAs (Decidable (_/\_))
def caI(t c:Int):Nat:=4+(t.toNat*4+c.toNat)
def refS(L:Nat)(rx:Nat->List Int)(t c:Int):Nat->List Int:=
 if thP L t c then upV (upV rx c.toNat ((rx c.toNat).take ((rx c.toNat).length - min 4 (rx c.toNat).length))) (caI t c) (rx (caI t c)++qb0 (rx c.toNat) (min 4 (rx c.toNat).length)) else rx
def refN(L:Nat)(rx:Nat->List Int)(t c:Int):Nat:=if thP L t c then min 4 (rx c.toNat).length else 0
theorem qq9(h:Hp w base p s L r hs rx F)(t c:Int)(hx:∀j,(rx j).length<=300000):
  Calls Tryz.prog 344 #[.pointer (some ⟨p,0,none⟩),.int .i64 t,.int .i64 c] w λe w'=>e= .returned (.int .i64 (refN L rx t c:Int))/\Upd F w w'/\∃F',GrowH F F' w/\Hp w' base p s L r hs (refS L rx t c) F':=by
 obtain⟨gh,gc,hcap,ccap,rv,h⟩:=h;have hd:=h.dims;unfold refS refN caI;by_cases ht:thP L t c
 ·rw[if_pos ht,if_pos ht]
  unfold thP at ht;obtain⟨T,rfl⟩:=waq ht.1;obtain⟨C,rfl⟩:=waq ht.2.2.1;simp only[wao];have hT:T<L:=Zo
  have hC:C<4:=Zo
  have hpl:=waa (qeq h hT hC);have hj:=qfy hT hC;generalize T*4+C=J at hpl hj ⊢;replace h:=waa h;go_enter Tryz.func344,Tryz.ntmps344;go_wp2_with fail;refine hpl.out.mono ?_;rintro e w1 ⟨rfl,hB⟩;have h1:=h.out.new hB;have hls:=waa (qe6 (most:=4) (h1.list hC) (h1.cache hj) h1.ne (h1.apart C (4+J) Zo Zo Zo) Zo (by have:=hx C;omega) (by have:=hx (4+J);omega) h1.low.2.2);have hB':=waa hB;clear hB hpl;go_wp2_with fail;refine hls.out.mono ?_;rintro e w2 ⟨rfl,u1,u2,a1,a2,a3,a4,a5,a6⟩;obtain⟨F',hF',hg⟩:=h1.turned hC hj a6 (λk hk=>by
   rcases hk with e|e|e
   ·exact .inl e
   ·exact .inr (.inl e)
   ·exact .inr (.inr (.inr (.inl e)))) a1.blk a2.blk a1.row a2.row a3 a4 a5
  have hU:Upd F w w2:=(Upd.of_below hB'.out (wah _):Upd (λ_=>False) w w1).mono (λ_ e=>e.elim)|>.trans (a6.mono (λk hk=>by
   rcases hk with e|e|e
   ·exact e▸h.out.cov.1
   ·exact e▸h.out.cov.2.2.1
   ·exact h.out.cov.2.2.2 (4+J) Zo k e))
  have hfin:=waa (And.intro hU (And.intro hF' hg));have hsz:=hB'.out.size;clear hU hF' hg a1 a2 a3 a4 a5 a6 hls;go_wp2_with fail;go_ret;exact⟨rfl,hfin.out.1,F',λk hk=>(hfin.out.2.2 k hk).imp id (λe=>wam hsz e),⟨gh,gc,hcap,ccap,_,hfin.out.2.1⟩⟩
 ·rw[if_neg ht,if_neg ht]
  have hpl:=waa (qfb h ht);replace h:=waa h;go_enter Tryz.func344,Tryz.ntmps344;go_wp2_with fail;refine hpl.out.mono ?_;rintro e w1 ⟨b1,b2,rfl,⟨hn1,hn2,hne⟩,hb1,hb2,hB⟩;have hls:=waa (qe6 (most:=4) (base:=0) (qgy hb1) (qgy hb2) hne (λg e=>by cases e) Zo Zs Zs (wat _));have h1:=waa (h.out.new hB);have hB':=waa hB;clear hB hpl hb1 hb2;go_wp2_with fail;refine hls.out.mono ?_;rintro e w2 ⟨rfl,u1,u2,-,-,-,-,-,a6⟩;have hU1:Upd (λ_=>False) w w2:=(Upd.of_below hB'.out (wah _):Upd (λ_=>False) w w1).after a6 (λk hk=>by
   rcases hk with e|e|e
   ·exact .inr Zo
   ·exact .inr Zo
   ·cases e)
  have hfin:=waa hU1;clear a6 hU1 hls;go_wp2_with fail;go_ret;exact⟨rfl,hfin.out.mono (λ_ e=>e.elim),F,GrowH.refl _ _,⟨gh,gc,hcap,ccap,_,h.out.upd hfin.out (λ_ _ e=>e)⟩⟩
end
section
variable {w:World} {base p gh gc hcap ccap s L:Nat} {r:Int} {hs:List (Int×Int×Int)} {rv:Nat->Value} {rx:Nat->List Int} {F:Nat->Prop}
theorem HpR.hlen(h:HpR w base p gh gc hcap ccap s L r hs rv rx F):hs.length=s:=by have:=h.heads.1;rw[qgw] at this;omega
theorem HpR.hd(h:HpR w base p gh gc hcap ccap s L r hs rv rx F){i:Nat}(hi:i<s):∃a b c,hs[i]? =some (a,b,c)/\w.cell? ⟨gh,i*3,none⟩=some (.int .i64 a)/\w.cell? ⟨gh,i*3+1,none⟩=some (.int .i64 b)/\w.cell? ⟨gh,i*3+2,none⟩=some (.int .i64 c):=by
 obtain⟨x,hx⟩:∃x,hs[i]? =some x:=⟨_,wan (by rw[h.hlen];exact hi)⟩
 obtain⟨h0,h1,h2⟩:=qla hx;have hc:=h.heads.cells (g:=gh) rfl;obtain⟨a,b,c⟩:=x;have ad:∀k,(⟨gh,0,none⟩:Addr).add k=⟨gh,k,none⟩:=λk=>by rw[wbg,wav]
 refine⟨a,b,c,hx,?_,?_,?_⟩
 ·have:=hc _ _ h0;rwa [ad] at this
 ·have:=hc _ _ h1;rwa [ad] at this
 ·have:=hc _ _ h2;rwa [ad] at this
def hdOf(hs:List (Int×Int×Int))(i:Int):Int×Int×Int:=if 0<=i/\i<(hs.length:Int) then hs[i.toNat]?.getD (0,0,0) else(0,0,0)
def hdV(x:Int×Int×Int):Value:= .agg #[.int .i64 x.1,.int .i64 x.2.1,.int .i64 x.2.2]
theorem qr8(h:HpR w base p gh gc hcap ccap s L r hs rv rx F)(i:Int):Calls Tryz.prog 120 #[.pointer (some ⟨p,0,none⟩),.int .i64 i] w λe w'=>e= .returned (hdV (hdOf hs i))/\Below w.heap.size w w':=by
 have hl:=h.hlen;have hBn:=(wai w.heap.size w).alloc (wah _) (.cells #[.int .i64 0,.int .i64 0,.int .i64 0] 134);have h1:=h.new hBn;have hm:=waa (qg0 h1);replace hBn:=waa hBn;by_cases hi:0<=i/\i<(s:Int)
 ·obtain⟨I,rfl⟩:=waq hi.1
  have hI:I<s:=Zo
  obtain⟨a,b,c,hx,c0,c1,c2⟩:=h1.hd hI;obtain⟨d0,d1,d2,d3,d4,df⟩:=h1.cells;have hres:hdOf hs (I:Int)=(a,b,c):=by
   unfold hdOf;rw[if_pos Zo,wao,hx];rfl
  rw[hres];have z1:¬(I:Int)<0:=Zo
  have z2:¬(s:Int)<=(I:Int):=Zo
  have z3:(0:Int)<=(I:Int):=Zo
  have z4:(I:Int)<(s:Int):=Zo
  have hgl:gh≠w.heap.size:=λe=>by have:=(h.heads.lt gh rfl).2;omega
  clear h h1 hx hres hl;go_enter Tryz.func120,Tryz.ntmps120;go_wp2_with fail;refine hm.out.mono ?_;rintro e w' ⟨rfl,rfl⟩;go_wp2_with fail;have hBx:=(wai w.heap.size w).alloc (wah _) (.cells #[.int .i64 a,.int .i64 b,.int .i64 c] 134);exact⟨rfl,_,results_cell_row (P:=Tryz.prog) rfl _ _ w.heap.size 134 _ _ _ rfl (heap_alloc_new w _) we8 rfl Zk,rfl,hBx⟩
 ·have hres:hdOf hs i=(0,0,0):=by
   unfold hdOf;rw[if_neg (by rw[hl];exact hi)]
  rw[hres];clear h h1 hres hl;go_enter Tryz.func120,Tryz.ntmps120;by_cases h0:i<0
  ·go_wp2_with fail
   exact⟨rfl,_,results_cell_row (P:=Tryz.prog) rfl _ _ w.heap.size 134 _ _ _ rfl (heap_alloc_new w _) we8 rfl Zk,rfl,hBn.out⟩
  ·have h2:(s:Int)<=i:=Zo
   go_wp2_with fail;refine hm.out.mono ?_;rintro e w' ⟨rfl,rfl⟩;go_wp2_with fail;exact⟨rfl,_,results_cell_row (P:=Tryz.prog) rfl _ _ w.heap.size 134 _ _ _ rfl (heap_alloc_new w _) we8 rfl Zk,rfl,hBn.out⟩
end
def idxN(P:Int×Int×Int->Bool):Nat->List (Int×Int×Int)->Int
 |_,[]=>-1
 |k,h::t=>if P h=true then(k:Int) else idxN P (k+1) t
theorem qo5(P:Int×Int×Int->Bool):∀(k:Nat) (hs:List (Int×Int×Int)),decide (0<=idxN P k hs)=hs.any P
 |_,[]=>rfl
 |k,h::t=>by
  unfold idxN;cases hh:P h with
  |true=>rw[if_pos rfl,List.any_cons,hh,Bool.true_or];exact decide_eq_true Zo
  |false=>rw[if_neg Zd,List.any_cons,hh,Bool.false_or];exact qo5 P (k+1) t
theorem qun{FN:Nat}{P:Int×Int×Int->Bool}(hen:∀(args:Array Value) (w:World),(callFunc FN args).run Tryz.prog w= .ok (.enter FN args) w)(hf:∀(a b c:Int) (V:World),Calls Tryz.prog FN #[.agg #[.int .i64 a,.int .i64 b,.int .i64 c]] V λe w'=>e= .returned (.bool (P (a,b,c)))/\Below V.heap.size V w')(A:Option Addr)(cap:Nat)(hs:List (Int×Int×Int))(w:World)(h:HdsRd w A hs.length hs)(hn:hs.length<=9223372036854775806):
  Calls Tryz.prog 163 #[.slice A hs.length cap,.func (.func FN) #[] #[]] w λe w'=>e= .returned (.int .i64 (idxN P 0 hs))/\Below w.heap.size w w':=by
 go_enter Tryz.func163,Tryz.ntmps163;go_wp2_with fail;go_loopw [8] (λq wr=>∃(W:World) (j:Nat),W=wr/\q= .int .i64 (j:Int)/\j<=hs.length/\Hid (idxN P j (hs.drop j)=idxN P 0 hs)/\Below w.heap.size w W) (λq _=>hs.length - (intOf q).toNat)
 case atStart=>exact⟨w,0,rfl,rfl,wat _,waa rfl,wai _ _⟩
 case round=>
  obtain⟨W,j,rfl,rfl,hj,hr,hB⟩:=hrel;by_cases hlt:j<hs.length
  ·obtain⟨p,k,c,n,rfl,hd,-,h0,h1,h2⟩:=(h.below hB).at_ hlt
   rw[hd] at hr;clear hd;have hm:=waa (λV=>hf k c n V);cases hh:P (k,c,n) with
   |false=>
    rw[hh] at hm;have hr2:=waa ((if_neg (show ¬P (k,c,n)=true by rw[hh];decide):idxN P j ((k,c,n)::hs.drop (j+1))=idxN P (j+1) (hs.drop (j+1))).symm.trans hr.out);clear hr hh;go_wp2_with fail;refine(hm.out _).mono ?_;rintro e w1 ⟨rfl,hC⟩;have hB1:=hB.trans (hC.mono hB.size);go_wp2_with fail;go_roundw
    case rel=>exact⟨_,j+1,rfl,by go_num,Zo,hr2,hB1⟩
    case measure=>simp[intOf];omega
   |true=>
    rw[hh] at hm;have hr2:=waa ((if_pos hh:idxN P j ((k,c,n)::hs.drop (j+1))=(j:Int)).symm.trans hr.out);clear hr hh;go_wp2_with fail;refine(hm.out _).mono ?_;rintro e w1 ⟨rfl,hC⟩;have hB1:=hB.trans (hC.mono hB.size);go_wp2_with fail;try rw[wbd]
    go_ret;exact⟨congrArg (λz:Int=>Ending.returned (Value.int .i64 z)) hr2.out,hB1⟩
  ·have e1:hs.drop j=[]:=wa6 Zo
   rw[e1] at hr;have hr2:=waa (hr.out.symm.trans (show idxN P j []= -1 from rfl));clear hr e1;go_wp2_with fail;go_ret;exact⟨congrArg (λz:Int=>Ending.returned (Value.int .i64 z)) hr2.out.symm,hB⟩
theorem qkq{FN:Nat}{P:Int×Int×Int->Bool}(hen:∀(args:Array Value) (w:World),(callFunc FN args).run Tryz.prog w= .ok (.enter FN args) w)(hf:∀(a b c:Int) (V:World),Calls Tryz.prog FN #[.agg #[.int .i64 a,.int .i64 b,.int .i64 c]] V λe w'=>e= .returned (.bool (P (a,b,c)))/\Below V.heap.size V w')(A:Option Addr)(cap:Nat)(hs:List (Int×Int×Int))(w:World)(h:HdsRd w A hs.length hs)(hn:hs.length<=9223372036854775806):
  Calls Tryz.prog 119 #[.slice A hs.length cap,.func (.func FN) #[] #[]] w λe w'=>e= .returned (.bool (hs.any P))/\Below w.heap.size w w':=by
 have hi:=waa (qun hen hf A cap hs w h hn);have hb:=waa (qo5 P 0 hs);clear h hf;generalize idxN P 0 hs=x at hi hb;go_enter Tryz.func119,Tryz.ntmps119;go_wp2_with fail;refine hi.out.mono ?_;rintro e w1 ⟨rfl,hB⟩;go_wp2_with fail;go_ret;exact⟨qae hb.out,hB⟩
def tknB(x:Int×Int×Int):Bool:=decide (x.1≠0)
theorem quc(a b c:Int)(w:World):Calls Tryz.prog 339 #[.agg #[.int .i64 a,.int .i64 b,.int .i64 c]] w λe w'=>e= .returned (.bool (tknB (a,b,c)))/\Below w.heap.size w w':=by
 have hB:=waa ((wai w.heap.size w).alloc (wah _) (.cells #[.int .i64 a,.int .i64 b,.int .i64 c] 134));unfold tknB;by_cases h:a=0
 ·have hz:(a !=0)=false:=by simp[h]
  rw[decide_eq_false (by simpa using h)];have hk:=waa h;clear h;go_enter Tryz.func339,Tryz.ntmps339;go_wp2_with fail;go_ret;exact⟨rfl,hB.out⟩
 ·have hz:(a !=0)=true:=by simp[h]
  rw[decide_eq_true (by simpa using h)];clear h;go_enter Tryz.func339,Tryz.ntmps339;go_wp2_with fail;go_ret;exact⟨rfl,hB.out⟩
section
variable {w:World} {base p gh gc hcap ccap s L:Nat} {r:Int} {hs:List (Int×Int×Int)} {rv:Nat->Value} {rx:Nat->List Int} {F:Nat->Prop}
def spn1(gh hcap s:Nat)(i:Int):Value:=if 0<=i/\i<(s:Int) then .slice (some ⟨gh,i.toNat*3,none⟩) 1 (hcap - i.toNat) else .slice none 0 0
theorem qvc(h:HpR w base p gh gc hcap ccap s L r hs rv rx F)(i:Int):Calls Tryz.prog 300 #[.pointer (some ⟨p,0,none⟩),.int .i64 i,.int .i64 1] w λe w'=>e= .returned (spn1 gh hcap s i)/\w=w':=by
 have hm:=waa (qg0 h);obtain⟨d0,d1,d2,d3,d4,df⟩:=h.cells;have hcp:s<=hcap/\hcap<=maxLen:=by
  rcases h.heads.2 with ⟨e,_⟩|⟨g,cap,cur,e,a1,a2,a3,a4,_⟩
  ·cases e
  ·injection e with e1 e2 e3
   subst e3;exact⟨a3,a4⟩
 have hd:=h.dims;have hw1:IntKind.i64.wrap ((s:Int) - 1)=(s:Int) - 1:=wap _ Zo;unfold spn1;clear h;by_cases hi:0<=i/\i<(s:Int)
 ·rw[if_pos hi]
  obtain⟨I,rfl⟩:=waq hi.1;rw[wao];have z1:¬(I:Int)<0:=Zo
  have z2:¬(s:Int) - 1<(I:Int):=Zo
  have z3:(0:Int)<=(I:Int):=Zo
  have hw2:IntKind.i64.wrap ((I:Int)+1)=((I+1:Nat):Int):=by rw[wap _ Zo];omega
  have z4:(I:Int)<=((I+1:Nat):Int):=Zo
  have z5:((I+1:Nat):Int)<=(hcap:Int):=Zo
  have z6:¬hcap=I:=Zo
  go_enter Tryz.func300,Tryz.ntmps300;go_wp2_with fail;refine hm.out.mono ?_;rintro e w' ⟨rfl,rfl⟩;go_wp2_with fail;go_ret;exact⟨by simp,rfl⟩
 ·rw[if_neg hi]
  go_enter Tryz.func300,Tryz.ntmps300;by_cases h0:i<0
  ·go_wp2_with fail
   go_ret;exact⟨rfl,rfl⟩
  ·have z2:(s:Int) - 1<i:=Zo
   go_wp2_with fail;refine hm.out.mono ?_;rintro e w' ⟨rfl,rfl⟩;go_wp2_with fail;go_ret;exact⟨rfl,rfl⟩
def freB(hs:List (Int×Int×Int))(i:Int):Bool:=decide (0<=i/\i<(hs.length:Int))&&!tknB (hdOf hs i)
theorem qho(h:HpR w base p gh gc hcap ccap s L r hs rv rx F)(i:Int):Calls Tryz.prog 296 #[.pointer (some ⟨p,0,none⟩),.int .i64 i,.int .i64 1] w λe w'=>e= .returned (.bool (freB hs i))/\Below w.heap.size w w':=by
 have hsp:=waa (qvc h i);have hl:=h.hlen;unfold freB;by_cases hi:0<=i/\i<(s:Int)
 ·rw[decide_eq_true (by rw[hl];exact hi),wcp]
  obtain⟨I,rfl⟩:=waq hi.1;have hI:I<s:=Zo
  obtain⟨a,b,c,hx,c0,c1,c2⟩:=h.hd hI;have hres:hdOf hs (I:Int)=(a,b,c):=by
   unfold hdOf;rw[if_pos Zo,wao,hx];rfl
  rw[hres];have hspv:spn1 gh hcap s (I:Int)= .slice (some ⟨gh,I*3,none⟩) 1 (hcap - I):=by unfold spn1;rw[if_pos hi,wao]
  rw[hspv] at hsp;have hrd:HdsRd w (some ⟨gh,I*3,none⟩) [(a,b,c)].length [(a,b,c)]:=⟨rfl,λ_=>⟨_,rfl,λj x hxj=>by
   cases j with
   |zero=>
    obtain rfl:(a,b,c)=x:=by simpa using hxj
    have e:((⟨gh,I*3,none⟩:Addr).add (0*3))=⟨gh,I*3,none⟩:=by rw[wbg];simp
    rw[e];exact⟨c0,c1,c2⟩
   |succ j=>simp at hxj⟩⟩
  have hcn:=waa (qkq (P:=tknB) (λ_ _=>by simp[go_sem]) quc (some ⟨gh,I*3,none⟩) (hcap - I) [(a,b,c)] w hrd Zs);rw[show[(a,b,c)].any tknB=tknB (a,b,c) by simp] at hcn;simp only[wc0] at hcn;generalize tknB (a,b,c)=tb at hcn ⊢;clear h hx c0 c1 c2 hrd hres hspv;go_enter Tryz.func296,Tryz.ntmps296;go_wp2_with fail;refine hsp.out.mono ?_;rintro e w' ⟨rfl,rfl⟩;go_wp2_with fail;refine hcn.out.mono ?_;rintro e w1 ⟨rfl,hB⟩;have hBk:=waa hB;clear hB;go_wp2_with fail;go_ret;exact⟨rfl,hBk.out⟩
 ·rw[decide_eq_false (by rw[hl];exact hi),wcq]
  have hspv:spn1 gh hcap s i= .slice none 0 0:=by unfold spn1;rw[if_neg hi]
  rw[hspv] at hsp;clear h hspv;go_enter Tryz.func296,Tryz.ntmps296;go_wp2_with fail;refine hsp.out.mono ?_;rintro e w' ⟨rfl,rfl⟩;go_wp2_with fail;go_ret;exact⟨rfl,wai _ _⟩
end
end Go.Proofs.YtgjhkafggagniaaGreat
