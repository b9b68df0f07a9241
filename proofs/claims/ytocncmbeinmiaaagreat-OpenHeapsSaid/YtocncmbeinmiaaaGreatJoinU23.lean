/- Parts. No condition. -/
import Derived.Test.YtocncmbeinmiaaaGreatJoinU22
set_option linter.unusedVariables false
set_option maxRecDepth 100000
set_option maxHeartbeats 8000000
namespace Go.Proofs.YtocncmbeinmiaaaGreat
open Go Go.RowKit Go.Maps
section
variable {rt:List Nat} {kd:Nat->List Nat} {ob:Nat->Option LV} {F:List LV} {T C ss:List Nat} {M:Nat->Option LV}
def outM(M:Nat->Option LV)(ss:List Nat):List LV:=ss.map λx=>(M x).getD zL
theorem q7o:(outM M ss).length=ss.length:=wbr _
theorem q1j{j x:Nat}(h:ss[j]? =some x):outM M (ss.take (j+1))=outM M (ss.take j)++[(M x).getD zL]:=by
 unfold outM;rw[qdj h,wcr,wdq]
theorem qzw(h:Walk rt kd ob F T C T.length)(hM:MapW M F C)(hob:∀x o,ob x=some o->o.a=(x:Int))(hp:ss.Pairwise (·< ·))(hs:∀x,x∈ss↔x∈F.map LV.ad):IsReach rt kd ob (outM M ss):=by
 have hf:∀x∈ss,∃(j:Nat) (o:LV),F[j]? =some o/\o.ad=x/\(M x).getD zL=o.withR ((T.count x:Nat):Int):=by
  intro x hx;obtain⟨j,o,hj,ho,hMx⟩:=hM.known ((hs x).1 hx);refine⟨j,o,hj,ho,?_⟩;obtain⟨h1,-⟩:=h.count hj;rw[hMx,wa8,h1,wa8,wbz,ho]
 have hads:(outM M ss).map LV.ad=ss:=by
  unfold outM;rw[List.map_map];refine(wdb (g:=id) λx hx=>?_).trans (List.map_id ss);obtain⟨j,o,hj,ho,e⟩:=hf x hx;show((M x).getD zL).ad=x
  rw[e];exact ho
 have hperm:ss.Perm (F.map LV.ad):=(wg4 (qet hp) h.once).2 hs;refine⟨?_,?_,?_⟩
 ·unfold outM
  rw[wfx];refine hp.imp_of_mem ?_;intro x y hx hy hxy;obtain⟨j,o,hj,ho,e⟩:=hf x hx;obtain⟨k,q,hk,hq,e'⟩:=hf y hy;rw[e,e'];show o.a<q.a
  have h1:=hob _ _ (h.each o (waq hj)).1;have h2:=hob _ _ (h.each q (waq hk)).1;omega
 ·intro p hp'
  rw[hads];obtain⟨x,hx,rfl⟩:=wav.1 hp';obtain⟨j,o,hj,ho,e⟩:=hf x hx;simp only[e];obtain⟨e1,e2,e3⟩:=h.each o (waq hj);refine⟨e3,e2,o,e1,rfl,?_⟩;have hc:(ptrs rt kd ss).count x=T.count x:=by
   have e5:T.count x=(ptrs rt kd (F.map LV.ad)).count x:=by rw[<-h.todo]
   rw[e5,ptrs,ptrs,wc4,wc4,(List.Perm.flatMap_right kd hperm).count_eq]
  show o.withR _=o.withR _
  rw[show(o.withR ((T.count x:Nat):Int)).ad=x from ho,hc]
 ·intro x hx
  have hx':=(hs x).2 ((h.closed x).2 hx);obtain⟨j,o,hj,ho,e⟩:=hf x hx';exact⟨_,wav.2 ⟨x,hx',rfl⟩,by rw[e];exact ho⟩
theorem qvg(hM:MapW M F C)(hC:∀c∈C,c<=65535)(hs:∀x,x∈ss↔x∈F.map LV.ad):∀o∈outM M ss,o.r<=65535:=by
 intro p hp;obtain⟨x,hx,rfl⟩:=wav.1 hp;obtain⟨j,o,hj,ho,hMx⟩:=hM.known ((hs x).1 hx);simp only[hMx,wa8];show((C[j]?.getD 0:Nat):Int)<=65535
 cases hc:C[j]? with
 |none=>simp
 |some c=>
  have:=hC c (waq hc)
  rw[wa8];omega
theorem qsq(h:Walk rt kd ob F T C T.length)(hM:MapW M F C)(hob:∀x o,ob x=some o->o.a=(x:Int))(hC:∀c∈C,c<=65535):¬PNo rt kd ob:=by
 obtain⟨n,hn⟩:∃n,∀o∈F,o.ad<n:=by
  refine⟨(F.map LV.ad).foldr max 0+1,λo ho=>?_⟩;have:∀(l:List Nat) (x:Nat),x∈l->x<=l.foldr max 0:=λl=>by
   induction l with
   |nil=>intro x hx;cases hx
   |cons a l ih=>
    intro x hx;rw[List.foldr_cons];rcases wbg.1 hx with rfl|hx
    ·exact Nat.le_max_left _ _
    ·exact wap (ih x hx) (Nat.le_max_right _ _)
  exact Nat.lt_succ_of_le (this _ _ (wav.2 ⟨o,ho,rfl⟩))
 have hr:=h.done hn (λo ho=>(h.each o ho).2.1);refine hr.not_pno ?_;intro p hp;obtain⟨-,-,q,e1,-,e⟩:=hr.each p hp;obtain⟨o,ho,-,rfl⟩:=qk7 hp;obtain⟨j,hj⟩:=wc0 ho;obtain⟨h1,-⟩:=h.count hj;have h2:=hC _ (waq h1);show((T.count o.ad:Nat):Int)<=65535
 rw[wbz] at h2;omega
end
theorem qaat{w:World}{b b':Nat}{e:TypeId}{size n:Nat}{v:Value}{xs:List Value}(h:w.ownsRow b e size v n xs)(hb:b'<=b):w.ownsRow b' e size v n xs:=
 ⟨h.1,h.2.imp id λ⟨g,cap,cur,e,hg,q⟩=>⟨g,cap,cur,e,wap hb hg,q⟩⟩
theorem qgh{s l r:Int}{ws:List Nat}{L:List HD}(h:qa3 s l r ws=some L):fitB s l r ws.length=true/\L.length=s.toNat:=by
 unfold qa3 at h;cases hf:fitB s l r ws.length with
 |false=>rw[hf,if_neg Zd] at h;cases h
 |true=>rw[hf,if_pos rfl] at h;exact⟨rfl,qe5 h⟩
def q92(B:Nat)(rt:List Nat)(kd:Nat->List Nat)(ob:Nat->Option LV)(e:Ending)(w':World):Prop:=(∃L v,IsReach rt kd ob L/\(∀o∈L,o.r<=65535)/\e= .returned (.tuple #[v,.int .i64 0])/\w'.ownsRow B 166 7 v L.length (lsV L))\/(PNo rt kd ob/\e= .returned (.tuple #[.slice none 0 0,.int .i64 11]))
theorem qvl(s l r:Int)(A:Option Addr)(cap:Nat)(ws:List Nat)(w:World)(hr:Rd w A ws.length (u64V ws))(hn:ws.length<=9223372036854775807)(hlt:∀y∈ws,y<18446744073709551616)(hho:qa3 s l r ws=none):
  Calls Tryz.prog 280 #[.agg #[.int .i64 s,.int .i64 l,.int .i64 r],.slice A ws.length cap] w λe w'=>e= .returned (.tuple #[.slice none 0 0,.int .i64 11])/\Below w.heap.size w w':=by
 have hg0:=Gm.new w s l r;have hB0:=(wac w.heap.size w).alloc (wab _) (.cells #[.int .i64 s,.int .i64 l,.int .i64 r] 23);have hh:=waa (qfh s l r A cap ws _ (hr.below hB0) hn hlt);rw[hho] at hh;obtain⟨g0,g1,g2,g3⟩:=hg0.cells;have hB0:=waa hB0;clear hr hho;go_enter Tryz.func280,Tryz.ntmps280;go_wp2_with (go_at_call 54;go_loud (refine hh.out.mono ?_;rintro e w1 ⟨hE,hB1⟩;obtain rfl:=(show e= .returned (.tuple #[.slice none 0 0,.int .i64 11]) from hE);have hB1:=waa hB1;clear hE))
 go_ret2;exact⟨rfl,hB0.out.trans (hB1.out.mono hB0.out.size)⟩
section
variable (s l r:Int) (A:Option Addr) (cap:Nat) (ws:List Nat) (HA:Option Addr) (hcap:Nat) (hs:List HD) (w:World) (hr:Rd w A ws.length (u64V ws)) (hH:HdsRd w HA hs.length hs) (hf:fitB s l r ws.length=true) (hlt:∀y∈ws,y<18446744073709551616) (hhs:hs.length=s.toNat) (hhc:hs.length<=hcap)
include hr hH hf hlt hhs hhc
theorem qxy(hp:¬PNo (rtL r ws) (kdO s l r hs ws) (obO s l r hs ws)):
  Calls Tryz.prog 341 #[.agg #[.int .i64 s,.int .i64 l,.int .i64 r],.slice HA hs.length hcap,.slice A ws.length cap] w λe w'=>(∃(B:Nat) (D:DataW LV) (M:Nat->Option LV) (F:List LV) (T C:List Nat),e= .returned (.tuple #[.map (some B),.bool true])/\Walk (rtL r ws) (kdO s l r hs ws) (obO s l r hs ws) F T C T.length/\MpAt w' B D M/\MapW M F C/\(∀c∈C,c<=65535)/\F.length<=1000)/\Below w.heap.size w w':=
 (qmu s l r A cap ws HA hcap hs w hr hH hf hlt hhs hhc).mono λe w' ⟨h,hb⟩=>⟨h.elim id (λ⟨v,_,h⟩=>absurd h hp),hb⟩
theorem q1u(hp:PNo (rtL r ws) (kdO s l r hs ws) (obO s l r hs ws)):
  Calls Tryz.prog 341 #[.agg #[.int .i64 s,.int .i64 l,.int .i64 r],.slice HA hs.length hcap,.slice A ws.length cap] w λe w'=>(∃v,e= .returned (.tuple #[v,.bool false]))/\Below w.heap.size w w':=
 (qmu s l r A cap ws HA hcap hs w hr hH hf hlt hhs hhc).mono λe w' ⟨h,hb⟩=>⟨h.elim (λ⟨B,D,M,F,T,C,_,h1,_,h3,h4,_⟩=>absurd hp (qsq h1 h3 (λx o ho=>(qev ho).1) h4)) (λ⟨v,e,_⟩=>⟨v,e⟩),hb⟩
end
theorem qlo(s l r:Int)(A:Option Addr)(cap:Nat)(ws:List Nat)(hs:List HD)(w:World)(hr:Rd w A ws.length (u64V ws))(hn:ws.length<=9223372036854775807)(hlt:∀y∈ws,y<18446744073709551616)(hho:qa3 s l r ws=some hs):
  Calls Tryz.prog 280 #[.agg #[.int .i64 s,.int .i64 l,.int .i64 r],.slice A ws.length cap] w λe w'=>q92 w.heap.size (rtL r ws) (kdO s l r hs ws) (obO s l r hs ws) e w'/\Below w.heap.size w w':=by
 obtain⟨hf,hhl⟩:=qgh hho;obtain⟨i0,ii,iz0,iz1,iz2⟩:=info_parts qo1;have hg0:=Gm.new w s l r;have hB0:=(wac w.heap.size w).alloc (wab _) (.cells #[.int .i64 s,.int .i64 l,.int .i64 r] 23);have hh:=waa (show Calls Tryz.prog 54 #[.agg #[.int .i64 s,.int .i64 l,.int .i64 r],.slice A ws.length cap] (w.alloc (.cells #[.int .i64 s,.int .i64 l,.int .i64 r] 23)) λe w'=>(∃HA hcap,e= .returned (.tuple #[.slice HA hs.length hcap,.int .i64 0])/\HdsRd w' HA hs.length hs/\hs.length<=hcap)/\Below (w.alloc (.cells #[.int .i64 s,.int .i64 l,.int .i64 r] 23)).heap.size (w.alloc (.cells #[.int .i64 s,.int .i64 l,.int .i64 r] 23)) w' from by
  refine(qfh s l r A cap ws _ (hr.below hB0) hn hlt).mono λe w' ⟨h1,h2⟩=>⟨?_,h2⟩
  rw[hho] at h1;obtain⟨v,rfl,ho⟩:=h1;obtain⟨HA,hc,rfl,hH⟩:=HdsRd.of_own ho;refine⟨HA,hc,rfl,hH,?_⟩;rcases ho.2 with ⟨e,h0⟩|⟨g,c',cur,e,-,-,h5,-⟩
  ·rw[h0];exact wau _
  ·cases e;exact h5)
 have hgl:=hg0.lt;obtain⟨g0,g1,g2,g3⟩:=hg0.cells;have hrK:=waa hr;have hfK:=waa hf;have hobd:=waa (show ∀(x:Nat) (o:LV),obO s l r hs ws x=some o->o.a=(x:Int) from λx o h=>(qev h).1);have hob64:=waa (show ∀(x:Nat) (o:LV),obO s l r hs ws x=some o->x<18446744073709551616 from λx o h=>by
  have h1:=qev h;have h2:=qaw hf;omega)
 have hmy:=waa (λ(HA:Option Addr) (hcap:Nat) (V:World) (hV:Below w.heap.size w V) (hH:HdsRd V HA hs.length hs) (hc:hs.length<=hcap)=>qxy s l r A cap ws HA hcap hs V (hr.below hV) hH hf hlt hhl hc);have hmn:=waa (λ(HA:Option Addr) (hcap:Nat) (V:World) (hV:Below w.heap.size w V) (hH:HdsRd V HA hs.length hs) (hc:hs.length<=hcap)=>q1u s l r A cap ws HA hcap hs V (hr.below hV) hH hf hlt hhl hc);generalize rtL r ws=rt at hmy hmn ⊢;generalize kdO s l r hs ws=kd at hmy hmn ⊢;generalize obO s l r hs ws=ob at hmy hmn hobd hob64 ⊢;clear hr hho hf hhl;go_enter Tryz.func280,Tryz.ntmps280;by_cases hp:PNo rt kd ob
 ·go_wp2_with (first
   |(go_at_call 54;go_loud (refine hh.out.mono ?_;rintro e w1 ⟨⟨HA,hcap,rfl,hH,hc⟩,hB1⟩;obtain⟨k0,k1,k2,k3⟩:=(hg0.below hB1 hgl).cells;have hB2:=waa (hB0.trans (hB1.mono hB0.size));have hH:=waa hH;clear hB1))
   |(go_at_call 341;go_loud (refine(hmn.out _ _ _ hB2.out hH.out hc hp).mono ?_;rintro e w3 ⟨⟨v,rfl⟩,hB3⟩;have hB4:=waa (hB2.out.trans (hB3.mono hB2.out.size));clear hB3)))
  go_ret2;exact⟨.inr ⟨hp,rfl⟩,hB4.out⟩
 ·go_wp2_with (first
   |(go_at_call 54;go_loud (refine hh.out.mono ?_;rintro e w1 ⟨⟨HA,hcap,rfl,hH,hc⟩,hB1⟩;obtain⟨k0,k1,k2,k3⟩:=(hg0.below hB1 hgl).cells;have hB2:=waa (hB0.trans (hB1.mono hB0.size));have hH:=waa hH;clear hB1))
   |(go_at_call 341;go_loud (refine(hmy.out _ _ _ hB2.out hH.out hc hp).mono ?_;rintro e w3 ⟨⟨B,D,M,F,T,C,rfl,hW,hM,hMW,hC65,hF⟩,hB3⟩;have hB4:=waa (hB2.out.trans (hB3.mono hB2.out.size));have hW:=waa hW;have hM:=waa hM;have hMW:=waa hMW;have hC65:=waa hC65;clear hB3))
   |(go_at_call 343;refine(q7g (some B) _).mono ?_;rintro e w4 ⟨rfl,rfl⟩)
   |(go_at_call 342;go_loud (refine(qx2 (Maps.size D) w3.heap.size (by have:=hM.out.size (A:=F.map LV.ad) hMW.out.keyIn;rw[wbr] at this;omega) (λx=>has D (.int .u64 (x:Int))=true) _ (qz7 2 Zd w3.heap.size B _ D _ Zs Zs (hM.out.below ((wac _ w3).alloc (wab _) _)).1)).mono ?_;rintro e w5 ⟨SA,scap,ss,rfl,hss,hk,hsl,hSr,hB5⟩;have hB6:=waa ((wac w3.heap.size w3).alloc (wab _) (.cells #[.map (some B)] 342)|>.trans (hB5.mono Zs));have hss:=waa hss;have hk:=waa hk;have hSr:=waa hSr;clear hB5)))
  have hM5:=waa (hM.out.below hB6.out);have hmem:Hid (∀x:Nat,x∈ss↔x∈F.map LV.ad):=waa (λx=>(hk.out x).trans ((show has D (.int .u64 (x:Int))=true↔(M x).isSome=true from by rw[hM.out.has x]).trans (hMW.out.keys x)));have hss1:ss.length<=1000:=by have:=hM.out.size (A:=F.map LV.ad) hMW.out.keyIn;rw[wbr] at this;omega
  have hx64:Hid (∀x∈ss,x<18446744073709551616):=waa (λx hx=>by
   obtain⟨o,ho,rfl⟩:=wav.1 ((hmem.out x).1 hx);exact hob64.out _ _ (hW.out.each o ho).1)
  have hB7:=waa (hB4.out.trans (hB6.out.mono hB4.out.size));have hR:=waa (qzw hW.out hMW.out hobd.out hss.out hmem.out);have hsm:=waa (qvg hMW.out hC65.out hmem.out);clear hM hB6 hB4 hmem hss hk hW hMW hC65 hobd hmy hmn hsl hh;go_loopg [10,35] ss.length (λk s10 s35 wr=>∃j:Nat,s35= .int .i64 (j:Int)/\ss.length - j<=k/\j<=ss.length/\Hid (wr.ownsRow w5.heap.size 166 7 s10 j (lsV (outM M (ss.take j))))/\Hid (Below w5.heap.size w5 wr))
  case atStart=>exact⟨0,rfl,Zo,Zo,waa ⟨rfl,.inl ⟨rfl,rfl⟩⟩,waa (wac _ _)⟩
  case round=>
   obtain⟨j,rfl,hkj,hjs,how,hL⟩:=hrel;obtain⟨AO,cO,rfl,-⟩:=LsRd.of_own how.out;by_cases hj:j<ss.length
   ·obtain⟨x,hx⟩:∃x,ss[j]? =some x:=⟨_,waj hj⟩
    obtain⟨p,rfl,hcx⟩:=qa6 (hSr.out.below hL.out) hx;have hlk0:=(hM5.out.below hL.out).look1 (hx64.out x (waq hx));have hsn:=q1j (M:=M) hx;obtain⟨o,ho⟩:∃o,(M x).getD zL=o:=⟨_,rfl⟩
    rw[ho] at hlk0 hsn;obtain⟨qa,qr,qs,qn,qsp,qix,qwd⟩:=o;have hlk:(Instr.lookup 342 (.map (some B)) (.int .u64 (x:Int)) false).run Tryz.prog wr= .ok (.agg #[.int .i64 qa,.int .i64 qr,.int .i64 qs,.int .i64 qn,.int .i64 qsp,.int .i64 qix,.int .i64 qwd]) wr:=hlk0;clear hlk0;have ho1:=how.out;have hs1:=hL.out.size;have hj0:(0:Int)<=(j:Int):=Zo
    have hj1:(j:Int)<(ss.length:Int):=Zo
    have hsn:=waa hsn;clear ho hx;go_wp2_with (at_builtin;go_loud (refine wpList_append_own _ rfl _ _ 154 rfl w5.heap.size 166 i0 (.agg #[.int .i64 0,.int .i64 0,.int .i64 0,.int .i64 0,.int .i64 0,.int .i64 0,.int .i64 0]) 7 56 wf8 ii iz0 iz1 iz2 rfl Zd _ _ _ rfl (ho1.alloc _) ⟨wr.heap.size,0,none⟩ 1 1 [.int .i64 qa,.int .i64 qr,.int .i64 qs,.int .i64 qn,.int .i64 qsp,.int .i64 qix,.int .i64 qwd] rfl rfl (qb3 rfl _ rfl _) (by simp[Value.oneCell']) (by simp only[maxLen];omega) Zo Zx ?_);intro v' w6 hown6 hgrow6 _)
    go_roundg (ss.length - (j+1))
    case measure=>omega
    case rel=>exact⟨j+1,by go_num,wab _,Zo,waa (by rw[hsn.out];simpa[lsV,lvV] using hown6),waa ((hL.out.alloc hs1 _).grown hgrow6 Zx (qa0 ho1))⟩
   ·obtain rfl:j=ss.length:=Zo
    have how0:=waa (show wr.ownsRow w.heap.size 166 7 (.slice AO ss.length cO) (outM M ss).length (lsV (outM M ss)) from by
     have:=qaat how.out (b':=w.heap.size) (by exact hB7.out.size)
     rw[wbz] at this;rwa [q7o])
    go_wp2_with fail;go_ret2;exact⟨.inl ⟨_,_,hR.out,hsm.out,rfl,how0.out⟩,hB7.out.trans (hL.out.mono hB7.out.size)⟩
end Go.Proofs.YtocncmbeinmiaaaGreat
namespace Go.Proofs.YtocncmbeinmiaaaGreat
open Go Go.RowKit
def Wb(V:World)(g:Nat)(m:List Nat):Prop:=V.heap[g]? =some (.cells (u64V m).toArray 27 (0,0))
section
variable {V V':World} {g:Nat} {m:List Nat}
theorem Wb.set(h:Wb V g m)(j x:Nat):Wb (V.setCell ⟨g,j,none⟩ (.int .u64 (x:Int))) g (m.set j x):=by
 have:=qah h j (.int .u64 (x:Int))
 rw[wag] at this;show _=some (Obj.cells (u64V (m.set j x)).toArray _ _)
 rw[this];simp[u64V,List.map_set]
theorem Wb.cell(h:Wb V g m){j x:Nat}(hx:m[j]? =some x):V.cell? ⟨g,j,none⟩=some (.int .u64 (x:Int)):=by
 rw[qaa h];simp[u64V,hx]
theorem Wb.own(h:Wb V g m){base:Nat}(hb:base<=g)(hl:m.length<=2000):V.ownsRow base 27 1 (.slice (some ⟨g,0,none⟩) m.length m.length) m.length (u64V m):=
 ⟨by simp[u64V],.inr ⟨g,m.length,_,rfl,hb,h,wab _,by unfold maxLen;omega,by simp[u64V],by rw[wb7];exact wa2 (by simp[u64V])⟩⟩
end
theorem qb8(w:World)(o:Obj):Below w.heap.size w (w.alloc o):=(wac _ w).alloc (wab _) o
theorem qfd{α:Type}{L:List α}{j:Nat}{o:α}(h:L[j]? =some o):L.take (j+1)=L.take j++[o]:=by rw[wb4,h];rfl
def mapF(s:Int)(L:List LV):List Nat:=L.foldl (λm o=>m.set o.sp.toNat (qcy (m[o.sp.toNat]?.getD 0) o.ix)) (List.replicate s.toNat 0)
theorem qkm(s:Int)(L:List LV)(o:LV):mapF s (L++[o])=(mapF s L).set o.sp.toNat (qcy ((mapF s L)[o.sp.toNat]?.getD 0) o.ix):=by
 unfold mapF;rw[we7];rfl
theorem qo6(L:List LV):∀(m:List Nat),(∀x∈m,x<18446744073709551616)->(L.foldl (λm o=>m.set o.sp.toNat (qcy (m[o.sp.toNat]?.getD 0) o.ix)) m).length=m.length/\∀x∈L.foldl (λm o=>m.set o.sp.toNat (qcy (m[o.sp.toNat]?.getD 0) o.ix)) m,x<18446744073709551616:=by
 induction L with
 |nil=>intro m hm;exact⟨rfl,hm⟩
 |cons o L ih=>
  intro m hm;rw[wf9];obtain⟨h1,h2⟩:=ih (m.set o.sp.toNat (qcy (m[o.sp.toNat]?.getD 0) o.ix)) (λx hx=>by
   rcases wey hx with h|rfl
   ·exact hm x h
   ·refine qsx _ ?_ _
    cases hc:m[o.sp.toNat]? with
    |none=>decide
    |some c=>exact hm c (waq hc))
  exact⟨by rw[h1,wb1],h2⟩
theorem qsf(n:Nat):∀x∈List.replicate n 0,x<18446744073709551616:=λx hx=>by rw[(wg9.1 hx).2];decide
theorem qe4(s:Int)(L:List LV):(mapF s L).length=s.toNat:=(qo6 L _ (qsf _)).1.trans Zs
theorem qk2(s:Int)(L:List LV):∀x∈mapF s L,x<18446744073709551616:=(qo6 L _ (qsf _)).2
theorem q31(s l r:Int)(LA:Option Addr)(lcap:Nat)(L:List LV)(w:World)(hm:mayB s l r=true)(hL:LsRd w LA L.length L)(hn:L.length<=9223372036854775800)(hsp:∀o∈L,0<=o.sp/\o.sp<s/\0<=o.ix/\o.ix<32):
  Calls Tryz.prog 282 #[.agg #[.int .i64 s,.int .i64 l,.int .i64 r],.slice LA L.length lcap] w λe w'=>∃v,e= .returned v/\w'.ownsRow w.heap.size 27 1 v (mapF s L).length (u64V (mapF s L))/\Below w.heap.size w w':=by
 obtain⟨s0,s1,-⟩:=qcc hm;have hmay:=λV=>qd7 s l r V
 rw[hm] at hmay;have hmay:=waa hmay;obtain⟨n,rfl⟩:∃n:Nat,s=(n:Int):=waz Zo;have hmk:=λV=>qit n Zo V
 have hg0:=Gm.new w n l r;have hB0:=(wac w.heap.size w).alloc (wab _) (.cells #[.int .i64 n,.int .i64 l,.int .i64 r] 23);have hgl:=hg0.lt;obtain⟨g0,g1,g2,g3⟩:=hg0.cells;have hLK:=waa (hL.below hB0);have hBK:=waa hB0;have hspK:=waa hsp;clear hm hL hB0 hsp;go_enter Tryz.func282,Tryz.ntmps282;go_wp2_with (go_at_call 100;go_loud (refine(hmay.out _).mono ?_;rintro e w1 ⟨rfl,hB1⟩;obtain⟨k0,k1,k2,k3⟩:=(hg0.below hB1 hgl).cells;have hg1:=waa (hg0.below hB1 hgl);have hL1:=waa (hLK.out.below hB1);have hB2:=waa (hBK.out.trans (hB1.mono hBK.out.size));clear hB1))
 have hW0:=waa (show Wb (w1.alloc (.cells (u64V (List.replicate n 0)).toArray 27)) w1.heap.size (mapF (n:Int) []) from World.alloc_heap_new w1 _);have hB3:=waa (qb8 w1 (.cells (u64V (List.replicate n 0)).toArray 27));have hg1l:=hg1.out.lt;go_loopg [17] L.length (λk s17 wr=>∃j:Nat,s17= .int .i64 (j:Int)/\L.length - j<=k/\j<=L.length/\Hid (Wb wr w1.heap.size (mapF (n:Int) (L.take j)))/\Hid (Below w1.heap.size w1 wr))
 case atStart=>exact⟨0,rfl,Zo,Zo,hW0,hB3⟩
 case round=>
  clear hW0 hB3;obtain⟨j,rfl,hkj,hjs,hW,hB⟩:=hrel;by_cases hj:j<L.length
  ·obtain⟨p,o,rfl,ho,hat⟩:=(hL1.out.below hB.out).at_ hj
   obtain⟨o0,o1,o2,o3,o4,o5,o6⟩:=hat
   obtain⟨p0,p1,p2,p3⟩:=hspK.out o (waq ho);have hsn:=qkm (n:Int) (L.take j) o;rw[<-qfd ho] at hsn;obtain⟨oa,orr,os,on,osp,oix,owd⟩:=o;simp only at o0 o1 o2 o3 o4 o5 o6 p0 p1 p2 p3 hsn;obtain⟨q,rfl⟩:∃q:Nat,osp=(q:Int):=waz p0;rw[wam] at hsn;have hml:=qe4 (n:Int) (L.take j);rw[wam] at hml;have hmx:=qk2 (n:Int) (L.take j);obtain⟨x,hx⟩:∃x,(mapF (n:Int) (L.take j))[q]? =some x:=⟨_,waj Zo⟩
   have hx64:=hmx x (waq hx);rw[hx,wa8] at hsn;have hwith:=waa (λV=>q60 x oix V hx64 Zo Zo);have hb1:=waa ((qb8 wr (.cells #[.int .i64 oa,.int .i64 orr,.int .i64 os,.int .i64 on,.int .i64 (q:Int),.int .i64 oix,.int .i64 owd] 166)));have hb2:=waa (hb1.out.trans ((qb8 _ (.cells #[.int .i64 (q:Int),.int .i64 oix,.int .i64 owd] 164)).mono hb1.out.size));have hwl:w1.heap.size<wr.heap.size:=(wal.1 hW.out).1;have hW2:=waa (show Wb _ w1.heap.size (mapF (n:Int) (L.take j)) from qao hW.out hb2.out hwl);have hB2':=waa (hB.out.trans (hb2.out.mono (wbb hwl)));have hX:=World.alloc_heap_new (wr.alloc (.cells #[.int .i64 oa,.int .i64 orr,.int .i64 os,.int .i64 on,.int .i64 (q:Int),.int .i64 oix,.int .i64 owd] 166)) (.cells #[.int .i64 (q:Int),.int .i64 oix,.int .i64 owd] 164);rw[wf7] at hX;have hX:=waa hX;have hsn:=waa hsn;obtain⟨t0,t1,t2,tf⟩:=((hg1.out.below hB.out hg1l).below hb2.out Zo).cells;clear hml hmx ho;go_wp2_with fail;generalize ((wr.alloc _).alloc _)=W2 at hW2 hB2' hX t0 t1 t2 tf ⊢;have c0:=Wb.cell hW2.out hx;have c1:=qaj hW2.out q;have d0:W2.cell? ⟨wr.heap.size+1,0,none⟩=some (.int .i64 (q:Int)):=(qaa hX.out 0).trans rfl;have d1:W2.cell? ⟨wr.heap.size+1,1,none⟩=some (.int .i64 oix):=(qaa hX.out 1).trans rfl;have hB3:=waa (hB2'.out.setCell (p:=⟨w1.heap.size,q,none⟩) (wab _) (.int .u64 ((qcy x oix:Nat):Int)));have hW3:=waa (hW2.out.set q (qcy x oix));clear hx hX t0 t1 t2 tf o0 o1 o2 o3 o4 o5 o6 hb1 hb2 hW hB hW2 hB2';go_region_with (go_at_call 308;refine(hwith.out _).mono ?_;rintro e w6 ⟨rfl,rfl⟩)
   all_goals
    go_wp2_with fail;go_roundg (L.length - (j+1))
    case measure=>omega
    case rel=>exact⟨j+1,by go_num,wab _,Zo,waa (by rw[hsn.out];exact hW3.out),waa hB3.out.drew⟩
  ·obtain rfl:j=L.length:=Zo
   have hW':=hW.out;rw[wbz] at hW';have hml:=qe4 (n:Int) L;rw[wam] at hml;have ho:=waa (hW'.own (base:=w.heap.size) hB2.out.size Zo);clear hW';go_wp2_with fail;go_ret;exact⟨_,rfl,by have:=ho.out;rw[hml] at this ⊢;exact this,hB2.out.trans (hB.out.mono hB2.out.size)⟩
theorem qp9{s l r:Int}{hs:List HD}{ws:List Nat}{L:List LV}(h:IsReach (rtL r ws) (kdO s l r hs ws) (obO s l r hs ws) L):L.length<=512:=by
 have hnd:=qet (qh2 h.rise (λo ho=>(h.each o ho).2.1));have:=hnd.length_le_of_subset (l₂:=(qbd s l r hs).map λb=>b.1.toNat) (λx hx=>by
  obtain⟨o,ho,rfl⟩:=wav.1 hx;obtain⟨-,-,q,e1,-⟩:=h.each o ho;exact qor e1)
 have hb:=qfb s l r hs;rw[wbr,wbr] at this;omega
section
variable (s l r:Int) (A:Option Addr) (cap:Nat) (ws:List Nat) (hs:List HD) (w:World) (hr:Rd w A ws.length (u64V ws)) (hn:ws.length<=9223372036854775807) (hlt:∀y∈ws,y<18446744073709551616) (hho:qa3 s l r ws=some hs)
include hr hn hlt hho
end
theorem qmh{s l r:Int}{hs:List HD}{ws:List Nat}{L:List LV}(h:IsReach (rtL r ws) (kdO s l r hs ws) (obO s l r hs ws) L):∀o∈L,0<=o.sp/\o.sp<s/\0<=o.ix/\o.ix<32:=by
 intro o ho;obtain⟨-,-,q,e1,-,e⟩:=h.each o ho;obtain⟨-,-,-,-,-,-,-,-,-,-,-,h1,h2,h3,h4⟩:=qev e1;rw[e];exact⟨h1,h2,h3,h4⟩
def inB(k:Int)(o:LV):Bool:=decide (o.sp<=k/\(k=o.sp\/(k - o.sp)*64<o.wd))
theorem q16(b:Nat)(k:Int)(o:LV)(w:World)(hc:w.cell? ⟨b,0,none⟩=some (.int .i64 k))(hk:0<=k/\k<16)(h0:0<=o.sp/\o.sp<16):
  Calls Tryz.prog 388 #[.agg (lvV o).toArray,.pointer (some ⟨b,0,none⟩)] w λe w'=>e= .returned (.bool (inB k o))/\Below w.heap.size w w':=by
 obtain⟨k0,k1⟩:=hk;obtain⟨p0,p1⟩:=h0;have hB:=waa (qfl w o);have hv:=waa (show inB k o=decide (o.sp<=k/\(k=o.sp\/(k - o.sp)*64<o.wd)) from rfl);generalize inB k o=v at hv ⊢;have hcb:=wak w _ hc;obtain⟨oa,orr,os,on,osp,oix,owd⟩:=o;simp only at p0 p1 hv;have hn0:decide (osp<0)=false:=decide_eq_false Zo;have hn0':¬osp<0:=Zo
 have es:IntKind.i64.wrap (k - osp)=k - osp:=wao _ Zo;have em:IntKind.i64.wrap ((k - osp)*64)=(k - osp)*64:=wao _ Zo;have hcw:(w.alloc (.cells #[.int .i64 oa,.int .i64 orr,.int .i64 os,.int .i64 on,.int .i64 osp,.int .i64 oix,.int .i64 owd] 166)).cell? ⟨b,0,none⟩=some (.int .i64 k):=(hB.out.cell (p:=⟨b,0,none⟩) hcb).trans hc;show Calls Tryz.prog 388 #[.agg #[.int .i64 oa,.int .i64 orr,.int .i64 os,.int .i64 on,.int .i64 osp,.int .i64 oix,.int .i64 owd],.pointer (some ⟨b,0,none⟩)] w _
 by_cases h1:osp<=k
 ·have hd1:decide (k<osp)=false:=decide_eq_false Zo
  by_cases h2:k=osp
  ·have hv2:=waa (show v=true from hv.out.trans (decide_eq_true ⟨h1,.inl h2⟩))
   have e0:k - osp=0:=Zo
   have hd2:((k - osp)==0)=true:=beq_iff_eq.2 e0;clear h2 e0;go_enter wga,wgb;go_wp2_with fail;go_ret;exact⟨qab hv2.out.symm,hB.out⟩
  ·have hd2:((k - osp)==0)=false:=beq_eq_false_iff_ne.2 Zo
   by_cases h3:(k - osp)*64<owd
   ·have hv2:=waa (show v=true from hv.out.trans (decide_eq_true ⟨h1,.inr h3⟩))
    have hd3:decide ((k - osp)*64<owd)=true:=decide_eq_true h3;clear h2 h3;go_enter wga,wgb;go_wp2_with fail;go_ret;exact⟨qab hv2.out.symm,hB.out⟩
   ·have hv2:=waa (show v=false from hv.out.trans (decide_eq_false (λh=>h.2.elim h2 h3)))
    have hd3:decide ((k - osp)*64<owd)=false:=decide_eq_false h3;clear h2 h3;go_enter wga,wgb;go_wp2_with fail;go_ret;exact⟨qab hv2.out.symm,hB.out⟩
 ·have hd1:decide (k<osp)=true:=decide_eq_true Zo
  have hv2:=waa (show v=false from hv.out.trans (decide_eq_false (λh=>h1 h.1)));go_enter wga,wgb;go_wp2_with fail;go_ret;exact⟨qab hv2.out.symm,hB.out⟩
theorem qsd(k:Int)(w:World):Calls Tryz.prog 346 #[.int .i64 k] w λe w'=>e= .returned (.func (.func 388) #[] #[.pointer (some ⟨w.heap.size,0,none⟩)])/\w.alloc (.cells #[.int .i64 k] 3)=w':=by
 have hmf:∀(fn:Fn) (first cap:Array Value) (w:World),(Instr.makeFunc fn first cap).run Tryz.prog w= .ok (.func fn first cap) w:=λ_ _ _ _=>rfl
 go_enter Tryz.func346,Tryz.ntmps346;go_wp2
 go_ret;exact⟨rfl,rfl⟩
theorem qzx(LA:Option Addr)(lcap:Nat)(L:List LV)(b:Nat)(k:Int)(w:World)(hL:LsRd w LA L.length L)(hn:L.length<=512)(hc:w.cell? ⟨b,0,none⟩=some (.int .i64 k))(hk:0<=k/\k<16)(h0:∀o∈L,0<=o.sp/\o.sp<16):
  Calls Tryz.prog 387 #[.slice LA L.length lcap,.func (.func 388) #[] #[.pointer (some ⟨b,0,none⟩)]] w λe w'=>(∃i:Int,e= .returned (.int .i64 i)/\decide (0<=i)=L.any (inB k))/\Below w.heap.size w w':=by
 have hcb:=wak w _ hc;have h1:=waa (λ(o:LV) (V:World) (hV:Below w.heap.size w V) (ho:o∈L)=>q16 b k o V ((hV.cell (p:=⟨b,0,none⟩) hcb).trans hc) hk (h0 o ho));have hLK:=waa hL;clear hL hc h0;go_enter Tryz.func387,Tryz.ntmps387;go_wp2_with fail;go_loopg [8] L.length (λm s8 wr=>∃j:Nat,s8= .int .i64 (j:Int)/\L.length - j<=m/\j<=L.length/\Hid (Below w.heap.size w wr)/\Hid ((L.take j).any (inB k)=false))
 case atStart=>exact⟨0,rfl,Zo,Zo,waa (wac _ _),waa rfl⟩
 case round=>
  obtain⟨j,rfl,hkj,hj,hB,hno⟩:=hrel;by_cases hlt:j<L.length
  ·obtain⟨p,o,rfl,ho,o0,o1,o2,o3,o4,o5,o6⟩:=(hLK.out.below hB.out).at_ hlt
   have hmem:=waq ho;have h2:=waa (h1.out o wr hB.out hmem);have hsn:=waa (qfd ho);have g0:(0:Int)<=(j:Int):=Zo
   have g1:(j:Int)<(L.length:Int):=Zo
   cases hin:inB k o with
   |true=>
    have hy:=waa (show L.any (inB k)=true from wf5.2 ⟨o,hmem,hin⟩);rw[hin] at h2;obtain⟨oa,orr,os,on,osp,oix,owd⟩:=o;simp only[lvV] at o0 o1 o2 o3 o4 o5 o6 h2;clear ho hin hmem hno;go_wp2_with (go_at_call 388;go_loud (refine h2.out.mono ?_;rintro e w3 ⟨rfl,hB3⟩;have hB4:=waa (hB.out.trans (hB3.mono hB.out.size))))
    go_ret;exact⟨⟨_,rfl,by rw[hy.out];exact decide_eq_true Zo⟩,hB4.out⟩
   |false=>
    have hno2:=waa (show(L.take (j+1)).any (inB k)=false from by rw[hsn.out,List.any_append,hno.out];simp[hin]);rw[hin] at h2;obtain⟨oa,orr,os,on,osp,oix,owd⟩:=o;simp only[lvV] at o0 o1 o2 o3 o4 o5 o6 h2;clear ho hin hmem hno;go_wp2_with (go_at_call 388;go_loud (refine h2.out.mono ?_;rintro e w3 ⟨rfl,hB3⟩;have hB4:=waa (hB.out.trans (hB3.mono hB.out.size))))
    go_roundg (L.length - (j+1))
    case measure=>omega
    case rel=>exact⟨j+1,by go_num,wab _,Zo,hB4,hno2⟩
  ·have hy:=waa (show L.any (inB k)=false from by have:=hno.out;rwa [wa2 Zo] at this)
   go_wp2_with fail;go_ret;exact⟨⟨_,rfl,by rw[hy.out];decide⟩,hB.out⟩
theorem qjp(LA:Option Addr)(lcap:Nat)(L:List LV)(b:Nat)(k:Int)(w:World)(hL:LsRd w LA L.length L)(hn:L.length<=512)(hc:w.cell? ⟨b,0,none⟩=some (.int .i64 k))(hk:0<=k/\k<16)(h0:∀o∈L,0<=o.sp/\o.sp<16):
  Calls Tryz.prog 345 #[.slice LA L.length lcap,.func (.func 388) #[] #[.pointer (some ⟨b,0,none⟩)]] w λe w'=>e= .returned (.bool (L.any (inB k)))/\Below w.heap.size w w':=by
 have hi:=waa (qzx LA lcap L b k w hL hn hc hk h0);generalize L.any (inB k)=v at hi ⊢;clear hL hc h0;go_enter Tryz.func345,Tryz.ntmps345;go_wp2_with (go_at_call 387;go_loud (refine hi.out.mono ?_;rintro e w3 ⟨⟨i,rfl,hd⟩,hB⟩;have hB:=waa hB;have hd:=waa hd))
 go_ret;exact⟨rfl,hB.out⟩
def Hb(V:World)(g:Nat)(m:List HD):Prop:=V.heap[g]? =some (.cells (hV m).toArray 82 (0,0))
theorem Hb.set{V:World}{g:Nat}{m:List HD}(h:Hb V g m)(j:Nat)(k c n:Int)(hj:j<m.length):Hb (((V.setCell ⟨g,j*3,none⟩ (.int .i64 k)).setCell ⟨g,j*3+1,none⟩ (.int .i64 c)).setCell ⟨g,j*3+2,none⟩ (.int .i64 n)) g (m.set j (k,c,n)):=by
 have h1:=qah (qah (qah h (j*3) (.int .i64 k)) (j*3+1) (.int .i64 c)) (j*3+2) (.int .i64 n);rw[wag,wag,wag,qaci m j k c n hj] at h1;exact h1
theorem Hb.own{V:World}{g:Nat}{m:List HD}(h:Hb V g m){base:Nat}(hb:base<=g)(hl:m.length<=2000):V.ownsRow base 82 3 (.slice (some ⟨g,0,none⟩) m.length m.length) m.length (hV m):=
 ⟨qfg m,.inr ⟨g,m.length,_,rfl,hb,h,wab _,by unfold maxLen;omega,by simp[qfg],wa2 (by simp[qfg])⟩⟩
theorem Hb.cell{V:World}{g:Nat}{m:List HD}(h:Hb V g m){i:Nat}(hi:i<m.length*3):∃x,V.cell? ⟨g,i,none⟩=some x:=by
 have:i<(hV m).length:=by rw[qfg];exact hi
 exact⟨(hV m)[i],by rw[qaa h];simp[this]⟩
def qbt(hs:List HD)(L:List LV)(n:Nat):List HD:=(List.range n).map λ(j:Nat)=>if L.any (inB (j:Int))=true then hs[j]?.getD (0,0,0) else(0,0,0)
def qef(hs:List HD)(L:List LV)(n j:Nat):List HD:=qbt hs L j++List.replicate (n - j) (0,0,0)
theorem qdu(hs:List HD)(L:List LV)(n:Nat):(qbt hs L n).length=n:=by simp[qbt]
theorem q4l{hs:List HD}{L:List LV}{n j:Nat}(hj:j<=n):(qef hs L n j).length=n:=by
 rw[qef,was,qdu,wfo];omega
theorem qvs(hs:List HD)(L:List LV)(n:Nat):qef hs L n 0=List.replicate n (0,0,0):=by simp[qef,qbt]
theorem q1i(hs:List HD)(L:List LV)(n:Nat):qef hs L n n=qbt hs L n:=by simp[qef]
theorem qmn(hs:List HD)(L:List LV)(j:Nat):qbt hs L (j+1)=qbt hs L j++[if L.any (inB (j:Int))=true then hs[j]?.getD (0,0,0) else(0,0,0)]:=by
 unfold qbt;rw[wcd,wcr];rfl
theorem qub{n j:Nat}(hj:j<n):List.replicate (n - j) ((0,0,0):HD)=(0,0,0)::List.replicate (n - (j+1)) (0,0,0):=by
 rw[show n - j=(n - (j+1))+1 by omega,wex]
theorem q2j{hs:List HD}{L:List LV}{n j:Nat}{h:HD}(hj:j<n)(ha:L.any (inB (j:Int))=true)(hh:hs[j]? =some h):qef hs L n (j+1)=(qef hs L n j).set j h:=by
 unfold qef;rw[qmn,if_pos ha,hh,wa8,qub hj,List.set_append,if_neg (by rw[qdu];exact wd8 _),qdu,wcw,wbm];rfl
theorem q6w{hs:List HD}{L:List LV}{n j:Nat}(hj:j<n)(ha:L.any (inB (j:Int))=false):qef hs L n (j+1)=qef hs L n j:=by
 unfold qef;rw[qmn,if_neg (by rw[ha];decide),qub hj,wbm];rfl
theorem qku{w:World}{A:Option Addr}{n k:Nat}{hs:List HD}(h:HdsRd w A n hs)(hk:k<n):∃p a b c,A=some p/\hs[k]? =some (a,b,c)/\w.cell? (p.add (k*3))=some (.int .i64 a)/\w.cell? ⟨(p.add (k*3)).block,(p.add (k*3)).off+1,none⟩=some (.int .i64 b)/\w.cell? ⟨(p.add (k*3)).block,(p.add (k*3)).off+2,none⟩=some (.int .i64 c):=by
 obtain⟨p,a,b,c,e,hd,hm,h0,h1,h2⟩:=h.at_ hk;refine⟨p,a,b,c,e,?_,h0,h1,h2⟩;have:=congrArg (λl=>l[0]?) hd
 simpa[List.getElem?_drop] using this
theorem qzy(s l r:Int)(HA:Option Addr)(hcap:Nat)(hs:List HD)(LA:Option Addr)(lcap:Nat)(L:List LV)(w:World)(hm:mayB s l r=true)(hH:HdsRd w HA hs.length hs)(hhs:hs.length=s.toNat)(hL:LsRd w LA L.length L)(hn:L.length<=512)(hsp:∀o∈L,0<=o.sp/\o.sp<s):
  Calls Tryz.prog 283 #[.agg #[.int .i64 s,.int .i64 l,.int .i64 r],.slice HA hs.length hcap,.slice LA L.length lcap] w λe w'=>∃v,e= .returned v/\w'.ownsRow w.heap.size 82 3 v (qbt hs L hs.length).length (hV (qbt hs L hs.length))/\Below w.heap.size w w':=by
 obtain⟨s0,s1,-⟩:=qcc hm;have hmay:=λV=>qd7 s l r V
 rw[hm] at hmay;have hmay:=waa hmay;obtain⟨n,rfl⟩:∃n:Nat,s=(n:Int):=waz Zo;rw[wam] at hhs;rw[hhs] at hH ⊢;have hmk:=λV=>qnp n Zo V
 have hg0:=Gm.new w n l r;have hB0:=qb8 w (.cells #[.int .i64 n,.int .i64 l,.int .i64 r] 23);have hgl:=hg0.lt;obtain⟨g0,g1,g2,g3⟩:=hg0.cells;have hLK:=waa (hL.below hB0);have hHK:=waa (hH.below hB0);have hBK:=waa hB0;have hspK:=waa (show ∀o∈L,0<=o.sp/\o.sp<16 from λo ho=>by have:=hsp o ho;omega);clear hm hL hH hB0 hsp;go_enter Tryz.func283,Tryz.ntmps283;go_wp2_with (go_at_call 100;go_loud (refine(hmay.out _).mono ?_;rintro e w1 ⟨rfl,hB1⟩;obtain⟨k0,k1,k2,k3⟩:=(hg0.below hB1 hgl).cells;have hg1:=waa (hg0.below hB1 hgl);have hL1:=waa (hLK.out.below hB1);have hH1:=waa (hHK.out.below hB1);have hB2:=waa (hBK.out.trans (hB1.mono hBK.out.size));clear hB1))
 have hW0:=waa (show Hb (w1.alloc (.cells (hV (List.replicate n (0,0,0))).toArray 82)) w1.heap.size (qef hs L n 0) from by rw[qvs];exact World.alloc_heap_new w1 _);have hB3:=waa (qb8 w1 (.cells (hV (List.replicate n (0,0,0))).toArray 82));have hg1l:=hg1.out.lt;go_loopg [25] n (λk s25 wr=>∃j:Nat,s25= .int .i64 (j:Int)/\n - j<=k/\j<=n/\Hid (Hb wr w1.heap.size (qef hs L n j))/\Hid (Below w1.heap.size w1 wr))
 case atStart=>exact⟨0,rfl,Zo,Zo,hW0,hB3⟩
 case round=>
  clear hW0 hB3;obtain⟨j,rfl,hkj,hjs,hW,hB⟩:=hrel;by_cases hj:j<n
  ·obtain⟨p,a,b,c,rfl,hh,h0,h1,h2⟩:=qku (hH1.out.below hB.out) hj
   have hj0:(0:Int)<=(j:Int):=Zo
   have hj1:(j:Int)<(n:Int):=Zo
   have hwl:w1.heap.size<wr.heap.size:=(wal.1 hW.out).1;have hb1:=waa (qb8 wr (.cells #[.int .i64 a,.int .i64 b,.int .i64 c] 82));have hx1:=waa (World.alloc_heap_new wr (.cells #[.int .i64 a,.int .i64 b,.int .i64 c] 82));have hsz:(wr.alloc (.cells #[.int .i64 a,.int .i64 b,.int .i64 c] 82)).heap.size=wr.heap.size+1:=by simp
   have hLj:=waa ((hL1.out.below hB.out).below hb1.out);have hkt:=waa (q4l (hs:=hs) (L:=L) hjs);cases ha:L.any (inB (j:Int)) with
   |false=>
    have hsn:=waa (q6w (hs:=hs) (L:=L) hj ha);have hcn:=waa (λ(bb:Nat) (V:World) (hV:LsRd V (LA) L.length L) (hc:V.cell? ⟨bb,0,none⟩=some (.int .i64 (j:Int)))=>qjp LA lcap L bb (j:Int) V hV hn hc ⟨Zo,Zo⟩ hspK.out);rw[ha] at hcn;clear ha hh hsz;go_wp2_with (first
     |(go_at_call 346;refine(qsd (j:Int) _).mono ?_;rintro e w4 ⟨rfl,rfl⟩)
     |(go_at_call 345;go_loud (refine(hcn.out _ _ (hLj.out.below (qb8 _ _)) Zs).mono ?_;rintro e w6 ⟨rfl,hB6⟩;have hB7:=waa (hb1.out.trans (((qb8 _ _).trans (hB6.mono Zs)).mono hb1.out.size)))))
    go_roundg (n - (j+1))
    case measure=>omega
    case rel=>exact⟨j+1,by go_num,wab _,Zo,waa (by rw[hsn.out];exact qao hW.out hB7.out hwl),waa (hB.out.trans (hB7.out.mono (wbb hwl)))⟩
   |true=>
    have hsn:=waa (q2j (hs:=hs) (L:=L) hj ha hh);have hcn:=waa (λ(bb:Nat) (V:World) (hV:LsRd V (LA) L.length L) (hc:V.cell? ⟨bb,0,none⟩=some (.int .i64 (j:Int)))=>qjp LA lcap L bb (j:Int) V hV hn hc ⟨Zo,Zo⟩ hspK.out);rw[ha] at hcn;clear ha hh hsz;go_wp2_with (first
     |(go_at_call 346;refine(qsd (j:Int) _).mono ?_;rintro e w4 ⟨rfl,rfl⟩)
     |(go_at_call 345;go_loud (refine(hcn.out _ _ (hLj.out.below (qb8 _ _)) Zs).mono ?_;rintro e w6 ⟨rfl,hB6⟩;have hBx:=((qb8 (wr.alloc (.cells #[.int .i64 a,.int .i64 b,.int .i64 c] 82)) (.cells #[.int .i64 (j:Int)] 3)).trans (hB6.mono Zs));have hB7:=waa (hb1.out.trans (hBx.mono hb1.out.size));have hx6:=qao hx1.out hBx Zs;have y0:=(qaa hx6 0).trans (show _=some (Value.int .i64 a) from rfl);have y1:=(qaa hx6 1).trans (show _=some (Value.int .i64 b) from rfl);have y2:=(qaa hx6 2).trans (show _=some (Value.int .i64 c) from rfl);have hW6:Hb w6 w1.heap.size (qef hs L n j):=qao hW.out hB7.out hwl;obtain⟨z0,c0⟩:=hW6.cell (i:=j*3) (by rw[hkt.out];omega);obtain⟨z1,c1⟩:=hW6.cell (i:=j*3+1) (by rw[hkt.out];omega);obtain⟨z2,c2⟩:=hW6.cell (i:=j*3+2) (by rw[hkt.out];omega);have f0:=qaj hW6 (j*3);have f1:=qaj hW6 (j*3+1);have f2:=qaj hW6 (j*3+2);have hW7:=waa (hW6.set j a b c (by rw[hkt.out];exact hj));have hW6:=waa hW6;clear hBx hB6)))
    go_roundg (n - (j+1))
    case measure=>omega
    case rel=>exact⟨j+1,by go_num,wab _,Zo,waa (by rw[hsn.out];exact hW7.out),waa ((((hB.out.trans (hB7.out.mono (wbb hwl))).setCell (p:=⟨w1.heap.size,j*3,none⟩) (wab _) _).setCell (p:=⟨w1.heap.size,j*3+1,none⟩) (wab _) _).setCell (p:=⟨w1.heap.size,j*3+2,none⟩) (wab _) _)⟩
  ·obtain rfl:j=n:=Zo
   have hW':=hW.out;rw[q1i] at hW';have hml:=qdu hs L j;have ho:=waa (hW'.own (base:=w.heap.size) hB2.out.size Zo);clear hW';go_wp2_with fail;go_ret;exact⟨_,rfl,by have:=ho.out;rw[hml] at this ⊢;exact this,hB2.out.trans (hB.out.mono hB2.out.size)⟩
def selL(hs:List HD)(n:Nat)(P:Nat->Bool):List HD:=(List.range n).map λ(j:Nat)=>if P j=true then hs[j]?.getD (0,0,0) else(0,0,0)
theorem qdn:mayB 1 1 1=true:=by decide
end Go.Proofs.YtocncmbeinmiaaaGreat
