/- Parts. No condition. -/
import Derived.Test.YtocncmbeinmiaaaGreatJoinU21
import Derived.Test.YtocncmbeinmiaaaGreatJoinU20
set_option linter.unusedVariables false
set_option maxRecDepth 100000
set_option maxHeartbeats 8000000
namespace Go.Proofs.YtocncmbeinmiaaaGreat
open Go Go.RowKit
def nV(l:List Nat):List Value:=l.map λ(x:Nat)=>Value.int .i64 (x:Int)
structure ReSt (w W:World) (s l r:Int) (hs:List HD) (vH vF vT vC:Value) (F:List LV) (T C:List Nat):Prop where
 own0:W.ownsRow w.heap.size 82 3 vH hs.length (hV hs)
 own1:W.ownsRow w.heap.size 166 7 vF F.length (lsV F)
 own2:W.ownsRow w.heap.size 27 1 vT T.length (u64V T)
 own3:W.ownsRow w.heap.size 3 1 vC C.length (nV C)
 geo:Gi W w.heap.size s l r
 low:Below w.heap.size w W
section
variable {w W W':World} {s l r:Int} {hs:List HD} {vH vF vT vC v':Value} {F:List LV} {T C:List Nat}
theorem ReSt.below(h:ReSt w W s l r hs vH vF vT vC F T C)(hb:Below W.heap.size W W'):ReSt w W' s l r hs vH vF vT vC F T C:=
 ⟨qaf h.own0 hb,qaf h.own1 hb,qaf h.own2 hb,qaf h.own3 hb,h.geo.below hb h.geo.lt,h.low.trans (hb.mono h.low.size)⟩
end
def qwj(B:Nat)(rt:List Nat)(kd:Nat->List Nat)(ob:Nat->Option LV)(e:Ending)(w':World):Prop:=(∃L v,IsReach rt kd ob L/\(∀o∈L,o.r<=65535)/\e= .returned (.tuple #[v,.bool true])/\w'.ownsRow B 166 7 v L.length (lsV L))\/(qh5 rt kd ob/\e= .returned (.tuple #[.slice none 0 0,.bool false]))
def sLen:Value->Nat
 | .slice _ n _=>n
 |_=>0
theorem Walk.found{rt:List Nat}{kd:Nat->List Nat}{ob:Nat->Option LV}{F:List LV}{T C:List Nat}{i j a:Nat}{o:LV}(h:Walk rt kd ob F T C i)(hj:F[j]? =some o)(ho:o.ad=a):F.find? (λo=>decide (o.ad=a))=some o:=by
 cases hf:F.find? (λo=>decide (o.ad=a)) with
 |none=>have:=wed.1 hf o (waq hj);simp[ho] at this
 |some q=>
  have hq:q.ad=a:=by simpa using wdr hf
  have h1:=(h.each o (waq hj)).1;have h2:=(h.each q (wec hf)).1;rw[ho] at h1;rw[hq] at h2;rw[h1] at h2;injection h2 with h2;rw[h2]
theorem Walk.count{rt:List Nat}{kd:Nat->List Nat}{ob:Nat->Option LV}{F:List LV}{T C:List Nat}{i j:Nat}{o:LV}(h:Walk rt kd ob F T C i)(hj:F[j]? =some o):C[j]? =some ((T.take i).count o.ad)/\(T.take i).count o.ad<=T.length:=by
 refine⟨by rw[h.cnt,wa1,hj];rfl,?_⟩;have h1:=List.count_le_length (a:=o.ad) (l:=T.take i);rw[war] at h1;omega
theorem Lb.seven{V:World}{b:Nat}{o:LV}(h:Lb V b o):V.cell? ⟨b,0,none⟩=some (.int .i64 o.a)/\V.cell? ⟨b,1,none⟩=some (.int .i64 o.r)/\V.cell? ⟨b,2,none⟩=some (.int .i64 o.s)/\V.cell? ⟨b,3,none⟩=some (.int .i64 o.n)/\V.cell? ⟨b,4,none⟩=some (.int .i64 o.sp)/\V.cell? ⟨b,5,none⟩=some (.int .i64 o.ix)/\V.cell? ⟨b,6,none⟩=some (.int .i64 o.wd):=h.cells.1
def Pos(ws:List Nat):List Int->List Nat->Prop
 |[],[]=>True
 |p::ps,y::ys=>(∃n:Nat,p=(n:Int)/\ws[n]? =some y)/\Pos ws ps ys
 |_,_=>False
theorem Pos.len{ws:List Nat}:∀{ps:List Int} {ys:List Nat},Pos ws ps ys->ps.length=ys.length
 |[],[],_=>rfl
 |[],_::_,h=>h.elim
 |_::_,[],h=>h.elim
 |_::ps,_::ys,h=>by rw[way,way,Pos.len h.2]
theorem Pos.snoc{ws:List Nat}{n y:Nat}(hn:ws[n]? =some y):∀{ps:List Int} {ys:List Nat},Pos ws ps ys->Pos ws (ps++[(n:Int)]) (ys++[y])
 |[],[],_=>⟨⟨n,rfl,hn⟩,trivial⟩
 |[],_::_,h=>h.elim
 |_::_,[],h=>h.elim
 |_::ps,_::ys,h=>⟨h.1,Pos.snoc hn h.2⟩
theorem Pos.nil{ws:List Nat}{ps:List Int}(h:Pos ws ps []):ps=[]:=by
 cases ps with
 |nil=>rfl
 |cons p ps=>exact h.elim
theorem Pos.cons{ws:List Nat}{ps:List Int}{y:Nat}{ys:List Nat}(h:Pos ws ps (y::ys)):∃(n:Nat) (qs:List Int),ps=(n:Int)::qs/\ws[n]? =some y/\Pos ws qs ys:=by
 cases ps with
 |nil=>exact h.elim
 |cons p ps=>
  obtain⟨⟨n,rfl,hn⟩,h2⟩:=h;exact⟨n,ps,rfl,hn,h2⟩
def Over(rt:List Nat)(kd:Nat->List Nat):Prop:=∃(A:List Nat) (x:Nat),A.Nodup/\(∀a∈A,Reached rt kd a)/\Reached rt kd x/\65535<(ptrs rt kd A).count x
def PNo(rt:List Nat)(kd:Nat->List Nat)(ob:Nat->Option LV):Prop:=(∃x,Reached rt kd x/\ob x=none)\/Over rt kd
theorem qnk(kd:Nat->List Nat)(x:Nat):∀(A B:List Nat),A.Nodup->(∀a∈A,a∈B)->(A.flatMap kd).count x<=(B.flatMap kd).count x
 |[],B,_,_=>by simp
 |a::A,B,hA,hs=>by
  have ha:=hs a Zs;have h1:(B.flatMap kd).count x=((a::B.erase a).flatMap kd).count x:=((List.perm_cons_erase ha).flatMap_right kd).count_eq _;have h2:=qnk kd x A (B.erase a) (wg8.1 hA).2 (λb hb=>(List.mem_erase_of_ne (λe=>(wg8.1 hA).1 (by rw[<-e];exact hb))).2 (hs b (by simp[hb])));rw[h1,wc7,wc7,wc4,wc4];omega
section
variable {rt:List Nat} {kd:Nat->List Nat} {ob:Nat->Option LV}
theorem IsReach.not_pno{L:List LV}(h:IsReach rt kd ob L)(hs:∀o∈L,o.r<=65535):¬PNo rt kd ob:=by
 rintro(⟨x,hx,e⟩|⟨A,x,hA,hr,hx,hc⟩)
 ·obtain⟨q,hq⟩:=h.right hx
  rw[hq] at e;cases e
 ·obtain⟨o,ho,rfl⟩:=h.all x hx
  obtain⟨-,-,q,-,-,e⟩:=h.each o ho;have h1:=hs o ho;have h2:o.r=(((ptrs rt kd (L.map LV.ad)).count o.ad:Nat):Int):=by
   have:=congrArg LV.r e
   exact this
  have h3:(ptrs rt kd A).count o.ad<=(ptrs rt kd (L.map LV.ad)).count o.ad:=by
   unfold ptrs;rw[wc4,wc4];have:=qnk kd o.ad A (L.map LV.ad) hA (λa ha=>(h.mem_ad a).2 (hr a ha))
   omega
  omega
theorem Walk.over{F:List LV}{T C:List Nat}{i j:Nat}{o:LV}(h:Walk rt kd ob F T C i)(hj:F[j]? =some o)(hc:65535<C[j]?.getD 0):Over rt kd:=by
 obtain⟨h1,-⟩:=h.count hj;rw[h1,wa8] at hc;refine⟨F.map LV.ad,o.ad,h.once,λa ha=>?_,(h.each o (waq hj)).2.2,?_⟩
 ·obtain⟨q,hq,rfl⟩:=wav.1 ha
  exact(h.each q hq).2.2
 ·rw[<-h.todo]
  have:=(List.take_sublist i T).count_le o.ad
  omega
end
theorem Plc.none_{W:World}{bp:Nat}(h:Plc W bp []):∃A c,W.heap[bp]? =some (.cells #[.slice A 0 c] 65 (0,0)):=by
 obtain⟨v,h1,h2⟩:=h;rcases h2 with ⟨rfl,-⟩|⟨g,off,cap,cur,rfl,-⟩
 ·exact⟨_,_,h1⟩
 ·exact⟨_,_,h1⟩
theorem Plc.grown{W W':World}{bp B:Nat}{L:List Int}(h:Plc W bp L)(hg:W.grownBy W' (some B))(hne:bp≠B)(hB:∃o,W.heap[B]? =some o/\∀C t fr,o≠ .cells C t fr):Plc W' bp L:=by
 obtain⟨v,h1,h2⟩:=h;refine⟨v,(hg.block bp (wal.1 h1).1 (λe=>hne (wco e))).trans h1,h2.kept hg (λg hgv e=>?_)⟩;obtain rfl:B=g:=wco e;rcases h2 with ⟨rfl,-⟩|⟨g',off,cap,cur,rfl,hb,hh,-⟩
 ·simp[Value.ownBlock] at hgv
 ·obtain rfl:g'=B:=by simpa[Value.ownBlock] using hgv
  obtain⟨o,ho,hc⟩:=hB;rw[ho] at hh;exact hc _ _ _ (wco hh)
theorem qgv{U V:World}{B b:Nat}(h:Below B U V)(hB:B<=b)(v1 v2 v3:Value):Below B U (((V.setCell ⟨b,1,none⟩ v1).setCell ⟨b,2,none⟩ v2).setCell ⟨b,3,none⟩ v3):=
 ((h.setCell (p:=⟨b,1,none⟩) hB _).setCell (p:=⟨b,2,none⟩) hB _).setCell (p:=⟨b,3,none⟩) hB _
theorem Lb.keep{V V':World}{b bp:Nat}{o:LV}(h:Lb V b o)(hk:KeepT bp V V')(hne:b≠bp):Lb V' b o:=hk b _ h hne (λcur e=>by injection e with _ e2 _;exact absurd e2 Zd)
theorem MapW.keyIn{M:Nat->Option LV}{F:List LV}{C:List Nat}(h:MapW M F C)(x:Nat)(hx:M x≠none):x∈F.map LV.ad:=(h.keys x).1 (by cases e:M x with|none=>exact absurd e hx|some _=>rfl)
theorem Plc.other{W W':World}{bp b:Nat}{L:List Int}(h:Plc W bp L)(hk:∀k,k≠b->W'.heap[k]? =W.heap[k]?)(hne:bp≠b)(hB:∀cur,W.heap[b]?≠some (.cells cur 3 (0,0))):Plc W' bp L:=by
 obtain⟨v,h1,h2⟩:=h;refine⟨v,(hk bp hne).trans h1,?_⟩;rcases h2 with ⟨rfl,rfl⟩|⟨g,off,cap,cur,rfl,hb,hh,r⟩
 ·exact .inl ⟨rfl,rfl⟩
 ·exact .inr ⟨g,off,cap,cur,rfl,hb,(hk g (λe=>hB cur (by rw[<-e];exact hh))).trans hh,r⟩
theorem qabp{V:World}{b:Nat}{v1 v2 v3:Value}(k:Nat)(hne:k≠b):(((V.setCell ⟨b,1,none⟩ v1).setCell ⟨b,2,none⟩ v2).setCell ⟨b,3,none⟩ v3).heap[k]? =V.heap[k]?:=
 (wat _ _ _ _ (by simpa using hne)).trans ((wat _ _ _ _ (by simpa using hne)).trans (wat _ _ _ _ (by simpa using hne)))
theorem Lb.notInt{V:World}{b:Nat}{o:LV}(h:Lb V b o)(cur:Array Value):V.heap[b]?≠some (.cells cur 3 (0,0)):=by
 intro e;rw[show V.heap[b]? =_ from h] at e;injection e with e;injection e with _ e2 _;exact absurd e2 Zd
def qabr(rt:List Nat)(kd:Nat->List Nat)(ob:Nat->Option LV)(e:Ending)(w':World):Prop:=(∃(B:Nat) (D:DataW LV) (M:Nat->Option LV) (F:List LV) (T C:List Nat),e= .returned (.tuple #[.map (some B),.bool true])/\Walk rt kd ob F T C T.length/\MpAt w' B D M/\MapW M F C/\(∀c∈C,c<=65535)/\F.length<=1000)\/(∃v,e= .returned (.tuple #[v,.bool false])/\PNo rt kd ob)
theorem qmu(s l r:Int)(A:Option Addr)(cap:Nat)(ws:List Nat)(HA:Option Addr)(hcap:Nat)(hs:List HD)(w:World)(hr:Rd w A ws.length (u64V ws))(hH:HdsRd w HA hs.length hs)(hf:fitB s l r ws.length=true)(hlt:∀y∈ws,y<18446744073709551616)(hhs:hs.length=s.toNat)(hhc:hs.length<=hcap):
  Calls Tryz.prog 341 #[.agg #[.int .i64 s,.int .i64 l,.int .i64 r],.slice HA hs.length hcap,.slice A ws.length cap] w λe w'=>qabr (rtL r ws) (kdO s l r hs ws) (obO s l r hs ws) e w'/\Below w.heap.size w w':=by
 obtain⟨s0,s1,l0,l1,r0,r1,hwl,hwm⟩:=qaw hf;have hmay:=(fitB_iff.1 hf).1;have hmf:∀(fn:Fn) (first cp:Array Value) (w:World),(Instr.makeFunc fn first cp).run Tryz.prog w= .ok (.func fn first cp) w:=λ_ _ _ _=>rfl
 have hmm:∀w:World,(Instr.makeMap 342 none).run Tryz.prog w= .ok (.map (some w.heap.size)) (w.alloc (.map #[] 0)):=λw=>rfl
 have hrK:=waa hr;have hfK:=waa hf;have hg0:=Gm.new w s l r;have hB0:=(wac w.heap.size w).alloc (wab _) (.cells #[.int .i64 s,.int .i64 l,.int .i64 r] 23);have hobs:=waa (q5c A cap ws s l r HA hcap hs _ (hr.below hB0) (hH.below hB0) Zo hlt);have hmobj:=waa (λ(bw bg bh bs:Nat) (SA:Option Addr) (scap:Nat) (x:Nat) (hx:x<18446744073709551616) (V:World) (hC:Cpt V bw bg bh bs A cap ws s l r HA hcap hs SA scap (qcq s l r ws))=>q80 bw bg bh bs A cap ws s l r HA hcap hs SA scap (qcq s l r ws) x hx V hC hf hlt hhs rfl hhc);have hroot:=waa (λ(j:Nat) (hj:(j:Int)<r) (V:World)=>show Calls Tryz.prog 181 #[.agg #[.int .i64 s,.int .i64 l,.int .i64 r],.int .i64 (j:Int)] V λe w'=>e= .returned (.int .i64 ((8+j:Nat):Int))/\Below V.heap.size V w' from by
  have:=q79 s l r (j:Int) V
  rw[show qf6 s l r (j:Int)=((8+j:Nat):Int) from(if_pos ⟨hmay,Zo,hj⟩).trans Zo] at this;exact this)
 have hroots:=waa (show ∀j:Nat,(j:Int)<r->∃x,ws[8+j]? =some x/\(rtL r ws).take (j+1)=(rtL r ws).take j++[x] from λj hj=>by
  have h8:8+j<ws.length:=Zo
  have hx:(rtL r ws)[j]? =some ws[8+j]:=by rw[rtL,wbf Zo,wbd,waj h8]
  exact⟨ws[8+j],waj h8,qdj hx⟩)
 have hrl:(rtL r ws).length=r.toNat:=by rw[rtL,war,wbu];omega
 have hlen:=waa hwl;have hobd:=waa (λ(x:Nat) (o:LV) (h:obO s l r hs ws x=some o)=>qev h);have hkd:=waa (λ(x:Nat) (o:LV) (h:obO s l r hs ws x=some o)=>qml h);have hslw:=waa (λ(x:Nat) (o:LV) (h:obO s l r hs ws x=some o)=>qw7 h hwl);have hobz:=waa (show obO s l r hs ws 0=none from q91 hmay);have hadr:=waa (λ(x:Nat) (q:LV) (h:obO s l r hs ws x=some q)=>qor h);have hNB:=qfb s l r hs;obtain⟨BL0,hBL0⟩:∃BL0,(qbd s l r hs).map (λb=>b.1.toNat)=BL0:=⟨_,rfl⟩
 rw[hBL0] at hadr;have hNB:BL0.length<=1000:=by rw[<-hBL0,wbr];omega
 clear hBL0;obtain⟨kd,hkdE⟩:∃kd,kdO s l r hs ws=kd:=⟨_,rfl⟩
 obtain⟨ob,hobE⟩:∃ob,obO s l r hs ws=ob:=⟨_,rfl⟩
 rw[hkdE] at hkd ⊢;rw[hobE] at hmobj hobd hkd hslw hobz hadr ⊢;clear hkdE hobE;obtain⟨rt,hrtE⟩:∃rt,rtL r ws=rt:=⟨_,rfl⟩
 rw[hrtE] at hroots hrl ⊢;have hrtE:=waa hrtE;have hhsK:=waa hhs;obtain⟨g0,g1,g2,g3⟩:=hg0.cells;clear hr hH hf hhs hmay hwl;go_enter Tryz.func341,Tryz.ntmps341;go_wp2_with fail;go_step3
 go_wp2_with (go_at_call 382;go_loud (refine hobs.out.mono ?_;rintro e w1 ⟨bw,bg,bh,bs,SA,scap,rfl,hC,hB1⟩;have hgl0:=(hg0.below hB1 hg0.lt).lt;obtain⟨k0,k1,k2,k3⟩:=(hg0.below hB1 hg0.lt).cells;have hC:=waa hC;have hB1:=waa hB1))
 have hgm:=waa (hg0.below hB1.out hg0.lt);have hBw:=waa (hB0.trans (hB1.out.mono hB0.size));have hM0:=waa ((MpAt.made w1).below ((wac _ _).alloc (wab _) (.cells #[.slice none 0 0] 65)));have hP0:=waa (show Plc ((w1.alloc (.map #[] 0)).alloc (.cells #[.slice none 0 0] 65)) (w1.heap.size+1) [] from by have:=Plc.new (W:=w1.alloc (.map #[] 0));rwa [wf7] at this);have hK0:=waa (show Below w1.heap.size w1 ((w1.alloc (.map #[] 0)).alloc (.cells #[.slice none 0 0] 65)) from((wac _ w1).alloc (wab _) _).alloc Zs _);have hgl:=hgm.out.lt;obtain⟨B,hBE⟩:∃B,w1.heap.size=B:=⟨_,rfl⟩
 have hBE':=waa hBE;rw[hBE] at hM0 hP0 hK0 hgl ⊢;clear hBE;generalize ((w1.alloc (.map #[] 0)).alloc (.cells #[.slice none 0 0] 65))=W2 at hM0 hP0 hK0 ⊢;clear hgl0 k0 k1 k2 k3 g0 g1 g2 g3 hg0 hB0 hB1 hmm hmf hobs;go_loopg [26] r.toNat (λk s26 wr=>∃(j:Nat) (Ps:List Int),s26= .int .i64 (j:Int)/\r.toNat - j<=k/\(j:Int)<=r/\Hid (Pos ws Ps (rt.take j))/\Hid (Plc wr (B+1) Ps)/\Hid (MpAt wr B (.map []) (λ_=>none))/\Hid (Below B w1 wr))
 case atStart=>exact⟨0,[],rfl,Zo,Zo,waa trivial,hP0,hM0,hK0⟩
 case round=>
  clear hM0 hP0 hK0;obtain⟨j,Ps,rfl,hk,hjr,hPos,hP,hM,hK⟩:=hrel;have hBs:=waa (hBE'.out);have hgr:=hgm.out.below hK.out hgl;obtain⟨k0,k1,k2,k3⟩:=hgr.cells;clear hgr;by_cases hlj:(j:Int)<r
  ·have hrj:=waa (hroot.out j hlj wr)
   have hpl:=waa (Pos.len hPos.out);obtain⟨x,hx1,hx2⟩:=hroots.out j hlj;have hx1:=waa hx1;have hx2:=waa hx2;go_wp2_with (first
    |(go_at_call 181;refine hrj.out.mono ?_;rintro e w3 ⟨rfl,hB3⟩;have hP3:=waa (hP.out.below hB3);have hM3:=waa (hM.out.below hB3);have hK3:=waa (hK.out.trans (hB3.mono (wbb hM.out.lt)));clear hB3)
    |(go_at_call 383;refine(qpr (B+1) Ps ((8+j:Nat):Int) _ hP3.out (by have:=hpl.out;rw[war] at this;omega)).mono ?_;rintro e w4 ⟨rfl,hP4,hT4,hB4⟩;have hM4:=waa (hM3.out.block (hB4.block B Zo));have hK4:=waa (hK3.out.trans (hB4.mono Zo));have hP4:=waa hP4;clear hT4 hB4))
   go_roundg (r.toNat - (j+1))
   case measure=>omega
   case rel=>exact⟨j+1,_,by go_num,wab _,Zo,waa (by rw[hx2.out];exact Pos.snoc hx1.out hPos.out),hP4,hM4,hK4⟩
  ·have hPos0:=waa (show Pos ws Ps rt from by have:=hPos.out;rwa [wa2 Zo] at this)
   clear hPos hroot hroots hBs k0 k1 k2 k3;go_wp2_with fail;go_step3
   go_wp2_with fail;go_loopg [13] (BL0.length*256+rt.length) (λk s13 wr=>∃(F:List LV) (T C:List Nat) (i:Nat) (D:DataW LV) (M:Nat->Option LV) (Ps:List Int),s13= .bool true/\(BL0.length - F.length)*256+(T.length - i)<=k/\F.length<=BL0.length/\T.length<=8+255*F.length/\i<=T.length/\Hid (Walk rt kd ob F T C i)/\Hid (Pos ws Ps (T.drop i))/\Hid (Plc wr (B+1) Ps)/\Hid (MpAt wr B D M)/\Hid (MapW M F C)/\Hid (∀c∈C,c<=65535)/\Hid (Below B w1 wr))
   case atStart=>exact⟨[],rt,[],0,_,_,Ps,rfl,by simp,by simp,by simp;omega,wau _,waa qng,hPos0,hP,hM,waa MapW.start,waa (λc h=>by cases h),hK⟩
   case round=>
    clear hPos0 hP hM hK hlj hjr;obtain⟨F,T,C,i,D,M,Ps,rfl,hk,hFN,hTF,hiT,hW,hPos,hP,hM,hMW,hC65,hK⟩:=hrel;cases hR:T.drop i with
    |nil=>
     have hTi:T.length<=i:=by have:=congrArg List.length hR;rw[wbu,wbq] at this;omega
     have hfin:=waa (show Walk rt kd ob F T C T.length from by have:=hW.out;rwa [show i=T.length by omega] at this);have hPn:=hPos.out;rw[hR] at hPn;obtain rfl:=hPn.nil;obtain⟨A0,c0,hA0⟩:=hP.out.none_;have d0:wr.cell? ⟨B+1,0,none⟩=some (.slice A0 0 c0):=(qaa hA0 0).trans rfl;clear hR hPn hA0 hPos;go_wp2_with fail;rw[wa0];go_ret2;exact⟨.inl ⟨B,D,M,F,T,C,rfl,hfin.out,hM.out,hMW.out,hC65.out,Zo⟩,hBw.out.trans (hK.out.mono (by have:=hBw.out.size;have:=hBE'.out;omega))⟩
    |cons x R=>
     have hTi:i<T.length:=by have:=congrArg List.length hR;rw[wbu,way] at this;omega
     have hxT:T[i]? =some x:=by have:=congrArg (λz=>z[0]?) hR;simpa[List.getElem?_drop] using this
     have hR1:T.drop (i+1)=R:=by have:=congrArg List.tail hR;simpa[List.drop_drop,List.tail_drop] using this
     have hPc:=hPos.out;rw[hR] at hPc;obtain⟨n,Qs,rfl,hn,hQ⟩:=hPc.cons;have hx64:x<18446744073709551616:=hlt x (waq hn);obtain⟨g,off,pc,e0,e1,e2,e3,e4⟩:=hP.out.head;have d0:wr.cell? ⟨B+1,0,none⟩=some (.slice (some ⟨g,off,none⟩) (Qs.length+1) pc):=(qaa e1 0).trans rfl;have f0:=qaj e1 0;have hCr:=waa (hC.out.below (hBE'.out.symm▸hK.out));obtain⟨pA,hpA,dA⟩:=qa6 hCr.out.rw_ hn;have hnl:n<ws.length:=(wan.1 hn).1;have hQl:=hQ.len;have hPA:=waa hpA;have e4:=waa e4;have hbk:B+1<wr.heap.size:=hP.out.lt;have e1K:=waa e1;have hxT:=waa hxT;have hR1:=waa hR1;have hQ:=waa hQ;have hn:=waa hn;clear hR hPc e1 hPos hQl;subst hpA;go_upto_region 14 with fail
     obtain⟨A',hA'⟩:∃A':Option Addr,(if pc=1 then some (⟨g,off,none⟩:Addr) else some ⟨g,off+1,none⟩)=A':=⟨_,rfl⟩
     have hst:wr.grownBy (wr.setCell ⟨B+1,0,none⟩ (.slice A' Qs.length (pc - 1))) (some (B+1)):=qbb wr ⟨B+1,0,none⟩ _;have hP1:=waa (show Plc (wr.setCell ⟨B+1,0,none⟩ (.slice A' Qs.length (pc - 1))) (B+1) Qs from⟨_,qah e1K.out 0 _,by rw[<-hA'];exact e4.out _ (wat _ _ _ _ Zx)⟩);have hM1:=waa (hM.out.block (w':=wr.setCell ⟨B+1,0,none⟩ (.slice A' Qs.length (pc - 1))) (wat _ _ _ _ Zs));have hK1:=waa (hK.out.setCell (p:=⟨B+1,0,none⟩) Zs (.slice A' Qs.length (pc - 1)));rw[hA'];clear hst e0 e4 e1K hP hM hK d0 f0 e2 e3 dA hCr hA' hbk;generalize (wr.setCell ⟨B+1,0,none⟩ (.slice A' Qs.length (pc - 1)))=W1 at hP1 hM1 hK1 ⊢;have hBA:=waa (qfl W1 zL);have hW1w:=waa (show w.heap.size<=B from by have:=hBw.out.size;have:=hBE'.out;omega);have hCB:=waa (λ(V:World) (hV:Below B w1 V)=>hC.out.below (show Below w1.heap.size w1 V from by rw[hBE'.out];exact hV));by_cases hx0:x=0
     ·subst hx0
      have h0F:(0:Nat)∉F.map LV.ad:=λh=>by
       obtain⟨o,ho,e⟩:=wav.1 h;have:=(hW.out.each o ho).1
       rw[e,hobz.out] at this;cases this
      have hMx:=hMW.out.no 0 h0F;have hlk:(Instr.lookup 342 (.map (some B)) (.int .u64 0) true).run Tryz.prog W1= .ok (.tuple #[.agg #[.int .i64 0,.int .i64 0,.int .i64 0,.int .i64 0,.int .i64 0,.int .i64 0,.int .i64 0],.bool false]) W1:=by have:=hM1.out.look hx64;rw[hMx] at this;exact this
      have hWz:=waa (hW.out.zero hxT.out (λo ho e=>h0F (wav.2 ⟨o,ho,e⟩)));clear hMx h0F;go_wp2_with fail;go_roundg ((BL0.length - F.length)*256+(T.length - (i+1)))
      case measure=>omega
      case rel=>exact⟨F,T,C,i+1,D,M,Qs,rfl,wab _,hFN,hTF,Zo,hWz,waa (by rw[hR1.out];exact hQ.out),waa (hP1.out.below hBA.out),waa (hM1.out.below hBA.out),hMW,hC65,waa (hK1.out.trans (hBA.out.mono (wbb hM1.out.lt)))⟩
     ·have hxi:¬(x:Int)=0:=Zo
      have hreach:=waa (hW.out.reach x (waq hxT.out) hx0);have hCa:=waa (hCB.out _ (hK1.out.trans (hBA.out.mono (wbb hM1.out.lt))));have hKa:=waa (hK1.out.trans (hBA.out.mono (wbb hM1.out.lt)));have hL0:=waa (Lb.new W1 zL);by_cases hxF:x∈F.map LV.ad
      ·obtain⟨jj,o,hj,hoad,hMx⟩:=hMW.out.known hxF
       obtain⟨c,hc⟩:∃c,C[jj]?.getD 0=c:=⟨_,rfl⟩
       rw[hc] at hMx;have hlk0:=hM1.out.look hx64;rw[hMx] at hlk0;have hjC:jj<C.length:=by have:=(wan.1 hj).1;have:=(hW.out.cnt:C=_);rw[this,wbr];omega
       have hc65:c<=65535:=by
        have:=hC65.out C[jj] (wb6 hjC)
        rw[waj hjC,wa8] at hc;omega
       have hWo:=waa (hW.out.old hxT.out hj hoad);have hMWo:=waa (hMW.out.old hW.out.once hj hjC);rw[hc] at hWo hMWo;rw[hoad] at hMWo;have hsz:=waa (hM1.out.size (A:=F.map LV.ad) (hMW.out.keyIn));have hLo:=waa (Lb.new W1 (o.withR (c:Int)));have hBo:=waa (qfl W1 (o.withR (c:Int)));have hKo:=waa (hK1.out.trans (hBo.out.mono (wbb hM1.out.lt)));have hsum:=hc;have hC65':Hid (c+1<=65535->∀y∈C.set jj (c+1),y<=65535):=waa (λhle y hy=>by
        rcases wey hy with h|h
        ·exact hC65.out y h
        ·omega)
       have hov:Hid (¬c+1<=65535->Over rt kd):=waa (λhle=>hWo.out.over hj (by rw[wb3 hjC,wa8];omega));obtain⟨qa,qr,qs,qn,qsp,qix,qwd⟩:=o;have hlk:(Instr.lookup 342 (.map (some B)) (.int .u64 (x:Int)) true).run Tryz.prog W1= .ok (.tuple #[.agg #[.int .i64 qa,.int .i64 (c:Int),.int .i64 qs,.int .i64 qn,.int .i64 qsp,.int .i64 qix,.int .i64 qwd],.bool true]) W1:=hlk0;have hBM:=hM1.out.lt;clear hlk0 hMx hsum hc hj hoad hxF hL0 hKa hCa hBA hCB;by_cases hle:c+1<=65535
       ·have hmy:=waa (λ(V:World)=>qr2 (c:Int) qs qn 1 V ⟨Zo,Zo⟩ ⟨Zo,Zo⟩ ⟨Zo,Zo⟩)
        go_wp2_with (first
         |(go_at_call 332;go_loud (refine(hmy.out _).mono ?_;rintro e w3 ⟨rfl,hB3⟩;have hL3:=hLo.out.below hB3 hLo.out.lt;obtain⟨⟨z0,z1,z2,z3,z4,z5,z6⟩,zf⟩:=hL3.cells;simp only[LV.withR] at z0 z1 z2 z3 z4 z5 z6;have hB4:=waa (qgv (hBo.out.trans (hB3.mono Zs)) (wab _) (.int .i64 ((c:Int)+1)) (.int .i64 qs) (.int .i64 qn));have hM4:=waa (hM1.out.below hB4.out);have hP4:=waa (hP1.out.below hB4.out);have hK4:=waa (hK1.out.trans (hB4.out.mono (wbb hBM)));clear hB3 hL3))
         |(at_mapUpdate;refine wpList_mapUpdate_own _ rfl _ _ _ 342 rfl 27 166 lawW we6 lvR B _ D rfl hM4.out.1 (by have:=hsz.out;rw[wbr] at this;unfold maxLen;omega) _ _ (.int .u64 (x:Int)) rfl rfl (qq3 hx64) (.held ⟨qa,(c:Int)+1,qs,qn,qsp,qix,qwd⟩) [] rfl ?_;intro w6 hown6 hgrow6))
        go_roundg ((BL0.length - F.length)*256+(T.length - (i+1)))
        case measure=>omega
        case rel=>exact⟨F,T,_,i+1,_,_,Qs,rfl,wab _,hFN,hTF,Zo,hWo,waa (by rw[hR1.out];exact hQ.out),waa (hP4.out.grown hgrow6 Zo hM4.out.notCells),waa (hM4.out.put hown6),hMWo,waa (hC65'.out hle),waa (hK4.out.grown hgrow6 (wbb hM4.out.lt) (λj hj=>by cases hj;omega))⟩
       ·have hmn:=waa (λ(V:World)=>q9y (c:Int) qs qn 1 V ⟨Zo,Zo⟩ ⟨Zo,Zo⟩ Zo)
        go_wp2_with (go_at_call 332;go_loud (refine(hmn.out _).mono ?_;rintro e w3 ⟨rfl,hB3⟩;have hL3:=hLo.out.below hB3 hLo.out.lt;obtain⟨⟨z0,z1,z2,z3,z4,z5,z6⟩,zf⟩:=hL3.cells;simp only[LV.withR] at z0 z1 z2 z3 z4 z5 z6;have hB4:=waa (qgv (hBo.out.trans (hB3.mono Zs)) (wab _) (.int .i64 (c:Int)) (.int .i64 qs) (.int .i64 qn));have hK4:=waa (hK1.out.trans (hB4.out.mono (wbb hBM)));clear hB3 hL3))
        rw[wa0];go_ret2;exact⟨.inr ⟨_,rfl,.inr (hov.out hle)⟩,hBw.out.trans (hK4.out.mono hW1w.out)⟩
      ·have hMx:=hMW.out.no x hxF
       have hlk:(Instr.lookup 342 (.map (some B)) (.int .u64 (x:Int)) true).run Tryz.prog W1= .ok (.tuple #[.agg #[.int .i64 0,.int .i64 0,.int .i64 0,.int .i64 0,.int .i64 0,.int .i64 0,.int .i64 0],.bool false]) W1:=by have:=hM1.out.look hx64;rw[hMx] at this;exact this
       have hob1:=waa (hmobj.out bw bg bh bs SA scap x hx64 (W1.alloc (.cells (lvV zL).toArray 166)) hCa.out);clear hMx;cases hox:ob x with
       |none=>
        rw[hox] at hob1;have hob2:=waa (show Calls Tryz.prog 413 #[.int .u64 (x:Int),.pointer (some ⟨bw,0,none⟩),.pointer (some ⟨bg,0,none⟩),.pointer (some ⟨bh,0,none⟩),.pointer (some ⟨bs,0,none⟩)] (W1.alloc (.cells #[.int .i64 0,.int .i64 0,.int .i64 0,.int .i64 0,.int .i64 0,.int .i64 0,.int .i64 0] 166)) λe w'=>e= .returned (.tuple #[.agg #[.int .i64 0,.int .i64 0,.int .i64 0,.int .i64 0,.int .i64 0,.int .i64 0,.int .i64 0],.bool false])/\Below (W1.alloc (.cells (lvV zL).toArray 166)).heap.size (W1.alloc (.cells (lvV zL).toArray 166)) w' from hob1.out);have hoxK:=waa hox;clear hox hob1;go_wp2_with (go_at_call 413;go_loud (refine hob2.out.mono ?_;rintro e w5 ⟨rfl,hB5⟩;have hL5:=hL0.out.below hB5 hL0.out.lt;obtain⟨⟨z0,z1,z2,z3,z4,z5,z6⟩,zf⟩:=hL5.cells;simp only[zL] at z0 z1 z2 z3 z4 z5 z6;have hB5:=waa hB5;have hL5:=waa hL5))
        have hB6:=waa (Lb.below_set7 (hKa.out.trans (hB5.out.mono (by have:=hKa.out.size;have:=hM1.out.lt;simp;omega))) (wbb hM1.out.lt) zL);simp only[zL] at hB6;rw[wa0];go_ret2;exact⟨.inr ⟨_,rfl,.inl ⟨x,hreach.out,hoxK.out⟩⟩,hBw.out.trans (hB6.out.mono hW1w)⟩
       |some q=>
        obtain⟨b1,b2,b3,b4,b5,b6,b7,b8,b9,b10,b11,b12,b13,b14,b15⟩:=hobd.out x q hox;have hkq:=hkd.out x q hox;obtain⟨hsl,hslk⟩:=hslw.out x q hox;rw[hox] at hob1;obtain⟨qa,qr,qs,qn,qsp,qix,qwd⟩:=q;simp only at b1 b3 b4 b5 b6 b7 b8 b9 b10 b11 b12 b13 b14 b15 hsl;have hob2:=waa (show Calls Tryz.prog 413 #[.int .u64 (x:Int),.pointer (some ⟨bw,0,none⟩),.pointer (some ⟨bg,0,none⟩),.pointer (some ⟨bh,0,none⟩),.pointer (some ⟨bs,0,none⟩)] (W1.alloc (.cells #[.int .i64 0,.int .i64 0,.int .i64 0,.int .i64 0,.int .i64 0,.int .i64 0,.int .i64 0] 166)) λe w'=>e= .returned (.tuple #[.agg #[.int .i64 qa,.int .i64 0,.int .i64 qs,.int .i64 qn,.int .i64 qsp,.int .i64 qix,.int .i64 qwd],.bool true])/\Below (W1.alloc (.cells (lvV zL).toArray 166)).heap.size (W1.alloc (.cells (lvV zL).toArray 166)) w' from hob1.out);have hoxK:=waa hox;have hb1:=waa b1;clear hox hob1 b1;go_upto_if 65 with (go_at_call 413;refine hob2.out.mono ?_;rintro e w5 ⟨rfl,hB5⟩;have hL5:=hL0.out.below hB5 hL0.out.lt;obtain⟨⟨z0,z1,z2,z3,z4,z5,z6⟩,zf⟩:=hL5.cells;simp only[zL] at z0 z1 z2 z3 z4 z5 z6;have hB5:=waa hB5;have hL5:=waa hL5)
        have hq0:=waa (show(0:Int)<=qa from by omega);have hWn:=waa (hW.out.new hxT.out hx0 hxF hoxK.out b2 hq0.out);have hMWn:=waa (hMW.out.new (by have:=(hW.out.cnt:C=_);rw[this,wbr]) (q:=⟨qa,qr,qs,qn,qsp,qix,qwd⟩) (by rw[b2];exact hxF));rw[b2] at hMWn;have hFn:=waa (hWn.out.few hadr.out);have hC65n:Hid (∀y∈C++[1],y<=65535):=waa (λy hy=>by
         rcases wa6.1 hy with h|h
         ·exact hC65.out y h
         ·rw[wbx.1 h];decide)
        have hsz:=waa (hM1.out.size (A:=F.map LV.ad) (hMW.out.keyIn));have hkl:Hid ((kd x).length=qs.toNat):=waa (by rw[hkq];exact hsl);have hkk:Hid (∀k,k<qs.toNat->(kd x)[k]? =ws[x+1+k]?):=waa (λk hk=>by rw[hkq,hslk k hk,b2]);have hRR:Hid ((T++kd x).drop (i+1)=R++kd x):=waa (by rw[whm Zo,hR1.out]);have hBp:=hP1.out.lt;have hBM:=hM1.out.lt;have hLq:=waa (hL5.out.set7 ⟨qa,0,qs,qn,qsp,qix,qwd⟩);have hBq:=waa (Lb.below_set7 (hBA.out.trans (hB5.out.mono Zs)) (wab _) ⟨qa,0,qs,qn,qsp,qix,qwd⟩);have hPq:=waa (hP1.out.below hBq.out);have hMq:=waa (hM1.out.below hBq.out);have hKq:=waa (hK1.out.trans (hBq.out.mono (wbb hBM)));clear hBq hB5 hL5 z0 z1 z2 z3 z4 z5 z6 zf hKa hCa hBA hCB hP1 hM1 hK1 hob2 hlk hkq hsl hslk hW hMW hC65 hL0 b2;dsimp only at hLq hPq hMq hKq;generalize (((((((w5.setCell _ _).setCell _ _).setCell _ _).setCell _ _).setCell _ _).setCell _ _).setCell _ _)=U5 at hLq hPq hMq hKq ⊢;generalize W1.heap.size=n15 at hLq hBp hBM ⊢;obtain⟨⟨z0,z1,z2,z3,z4,z5,z6⟩,zf⟩:=hLq.out.cells;simp only at z0 z1 z2 z3 z4 z5 z6;go_wp2_with fail;go_loopg [69] qs.toNat (λk s69 wr=>∃(j:Nat) (Ps:List Int),s69= .int .i64 (j:Int)/\qs.toNat - j<=k/\(j:Int)<=qs/\Hid (Pos ws Ps (R++(kd x).take j))/\Hid (Plc wr (B+1) Ps)/\Hid (MpAt wr B D M)/\Hid (Lb wr n15 ⟨qa,0,qs,qn,qsp,qix,qwd⟩)/\Hid (Below B w1 wr))
        case atStart=>exact⟨0,Qs,rfl,Zo,Zo,waa (by rw[wdx,wbl];exact hQ.out),hPq,hMq,hLq,hKq⟩
        case round=>
         clear hPq hMq hLq hKq z0 z1 z2 z3 z4 z5 z6 zf;obtain⟨j,Ps,rfl,hkj,hjs,hPos,hP,hM,hL,hK⟩:=hrel;obtain⟨⟨z0,z1,z2,z3,z4,z5,z6⟩,zf⟩:=hL.out.cells;simp only at z0 z1 z2 z3 z4 z5 z6;by_cases hlj:(j:Int)<qs
         ·have hsl_:=waa (λ(V:World)=>show Calls Tryz.prog 256 #[.agg #[.int .i64 0,.int .i64 qs,.int .i64 qn],.int .i64 qa,.int .i64 (j:Int)] V λe w'=>e= .returned (.int .i64 ((x+1+j:Nat):Int))/\Below V.heap.size V w' from by
           have:=q73 0 qs qn qa (j:Int) V (bmay_iff.2 Zo) ⟨by have:=hb1.out;omega,by have:=hb1.out;omega⟩
           rw[show wdN qa (j:Int) 0 qs=((x+1+j:Nat):Int) from by have:=hb1.out;unfold wdN;rw[if_pos Zo];omega] at this;exact this)
          have hPl:=waa (show Ps.length+1<=1099511627776 from by
           have h1:=Pos.len hPos.out;have h2:=congrArg List.length hR1.out;rw[wbu] at h2;rw[was,war] at h1;omega)
          have hPn:Hid (Pos ws (Ps++[((x+1+j:Nat):Int)]) (R++(kd x).take (j+1))):=waa (by
           have hjk:j<(kd x).length:=by have:=hkl.out;omega
           have h1:=hkk.out j Zo;rw[waj hjk] at h1;rw[qdj (waj hjk),<-wbm];exact Pos.snoc h1.symm hPos.out)
          go_wp2_with (first
           |(go_at_call 256;go_loud (refine(hsl_.out _).mono ?_;rintro e w3 ⟨rfl,hB3⟩;have hP3:=waa (hP.out.below hB3);have hM3:=waa (hM.out.below hB3);have hL3:=waa (hL.out.below hB3 hL.out.lt);have hK3:=waa (hK.out.trans (hB3.mono (wbb hM.out.lt)));clear hB3))
           |(go_at_call 383;go_loud (refine(qpr (B+1) Ps ((x+1+j:Nat):Int) _ hP3.out hPl.out).mono ?_;rintro e w4 ⟨rfl,hP4,hT4,hB4⟩;have hM4:=waa (hM3.out.block (hB4.block B Zo));have hL4:=waa (hL3.out.keep hT4 Zo);have hK4:=waa (hK3.out.trans (hB4.mono Zo));have hP4:=waa hP4;clear hT4 hB4)))
          go_roundg (qs.toNat - (j+1))
          case measure=>omega
          case rel=>exact⟨j+1,_,by go_num,wab _,Zo,hPn,hP4,hM4,hL4,hK4⟩
         ·have hPos0:=waa (show Pos ws Ps (R++kd x) from by have:=hPos.out;rwa [wa2 (by have:=hkl.out;omega)] at this)
          have hmy:=waa (λ(V:World)=>qr2 0 qs qn 1 V ⟨Zo,Zo⟩ ⟨Zo,Zo⟩ ⟨Zo,Zo⟩);clear hPos;go_wp2_with (first
           |(go_at_call 332;go_loud (refine(hmy.out _).mono ?_;rintro e w3 ⟨rfl,hB3⟩;have hL3:=hL.out.below hB3 hL.out.lt;obtain⟨⟨y0,y1,y2,y3,y4,y5,y6⟩,yf⟩:=hL3.cells;simp only at y0 y1 y2 y3 y4 y5 y6;have hP3:=hP.out.below hB3;have hM3:=hM.out.below hB3;have hB4:=waa (qgv (wac n15 w3) (wab _) (.int .i64 1) (.int .i64 qs) (.int .i64 qn));have hK4:=waa (qgv (hK.out.trans (hB3.mono (wbb hM.out.lt))) (wbb hBM) (.int .i64 1) (.int .i64 qs) (.int .i64 qn));have hM4:=waa (hM3.block (hB4.out.block B hBM));have hP4:=waa (hP3.other (b:=n15) (W':=(((w3.setCell ⟨n15,1,none⟩ (.int .i64 1)).setCell ⟨n15,2,none⟩ (.int .i64 qs)).setCell ⟨n15,3,none⟩ (.int .i64 qn))) (λk hk=>qabp k hk) Zo hL3.notInt);clear hP3 hM3 hB4 hB3 hL3))
           |(at_mapUpdate;refine wpList_mapUpdate_own _ rfl _ _ _ 342 rfl 27 166 lawW we6 lvR B _ D rfl hM4.out.1 (by have:=hsz.out;rw[wbr] at this;unfold maxLen;omega) _ _ (.int .u64 (x:Int)) rfl rfl (qq3 hx64) (.held ⟨qa,1,qs,qn,qsp,qix,qwd⟩) [] rfl ?_;intro w6 hown6 hgrow6))
          go_roundg ((BL0.length - (F.length+1))*256+(T.length+qs.toNat - (i+1)))
          case measure=>
           have h1:=hFn.out;rw[was,wca] at h1;omega
          case rel=>exact⟨F++[LV.mk qa qr qs qn qsp qix qwd],T++kd x,C++[1],i+1,_,_,Ps,rfl,by rw[was,was,wca,hkl.out];exact wab _,hFn.out,by rw[was,was,wca,hkl.out];omega,by rw[was];omega,hWn,waa (by rw[hRR.out];exact hPos0.out),waa (hP4.out.grown hgrow6 Zo hM4.out.notCells),waa (hM4.out.put hown6),hMWn,hC65n,waa (hK4.out.grown hgrow6 (wbb hM4.out.lt) (λj hj=>by cases hj;omega))⟩
end Go.Proofs.YtocncmbeinmiaaaGreat
