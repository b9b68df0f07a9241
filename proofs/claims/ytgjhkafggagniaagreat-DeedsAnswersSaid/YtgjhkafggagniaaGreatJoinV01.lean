/- Parts. No condition. -/
import Derived.Deep.RegionHeld3
import Derived.Deep.RegionLaw
import Derived.Deep.LoopGhost
import Derived.Test.YtgjhkafggagniaaGreatJoinV00
set_option linter.unusedVariables false
set_option maxRecDepth 100000
set_option maxHeartbeats 8000000
namespace Go.Proofs.YtgjhkafggagniaaGreat
open Go Go.RowKit
section
variable {w:World} {X rp tp eb i:Nat} {who who':Int} {df lv an fs:Value} {l:List Nat} {ov st bl:Bool} {fuse:Int} {bef a b c:Nat}
theorem qkh(h:RnP w X rp tp who df lv l ov an)(fuse:Int):
  Calls Tryz.prog 71 #[.pointer (some ⟨X,0,none⟩),.int .i64 fuse] w λe w'=>∃fs a b c,e= .returned fs/\FsR w' fs X fuse l.length a b c/\(w.heap.size<=a/\w.heap.size<=b/\w.heap.size<=c)/\Below w.heap.size w w':=by
 have hmf:∀(fn:Fn) (first cap:Array Value) (w:World),(Instr.makeFunc fn first cap).run Tryz.prog w= .ok (.func fn first cap) w:=λ_ _ _ _=>rfl
 obtain⟨x0,x1,x2,x3,x4,x5,x6,xf⟩:=h.cells;have hXl:=h.lt;obtain⟨A,cc,rfl⟩:=h.logv;have hB0:=waa (wai w.heap.size w);clear h x0 x1 x2 x3 x5 x6 xf;obtain⟨N,hN⟩:∃N,l.length=N:=⟨_,rfl⟩
 rw[hN] at x4 ⊢;clear hN;have hne1:¬X=w.heap.size:=Zo
 have hne2:¬X=w.heap.size+1:=Zo
 go_enter Tryz.func71,Tryz.ntmps71;have hF:FsR (((w.alloc (.cells #[.pointer (some ⟨X,0,none⟩)] 48)).alloc (.cells #[.int .i64 fuse] 3)).alloc (.cells #[.int .i64 (N:Int)] 3)) (.func (.func 129) #[] #[.pointer (some ⟨w.heap.size+1,0,none⟩),.pointer (some ⟨w.heap.size,0,none⟩),.pointer (some ⟨w.heap.size+1+1,0,none⟩)]) X fuse N (w.heap.size+1) w.heap.size (w.heap.size+1+1):=
  ⟨rfl,qag (qad Zs _ _) _,qag (qag (qad rfl _ _) _) _,qad Zs _ _⟩
 have hF:=waa hF;go_wp2_with fail;go_ret;exact⟨_,_,_,_,rfl,hF.out,⟨Zo,Zo,Zo⟩,((hB0.out.alloc (wah _) _).alloc Zs _).alloc Zx _⟩
theorem qgk(hF:FsR w fs X fuse bef a b c)(h:RnP w X rp tp who df lv l ov an)(hl:l.length<=100000)(hbef:bef<=l.length):
  Calls Tryz.prog 129 #[.pointer (some ⟨a,0,none⟩),.pointer (some ⟨b,0,none⟩),.pointer (some ⟨c,0,none⟩)] w λe w'=>e= .returned (.bool (qa0 fuse bef l.length))/\∃m,w'=w.drewN m:=by
 obtain⟨-,-,-,-,x4,-,-,-⟩:=h.cells;obtain⟨A,cc,rfl⟩:=h.logv;obtain⟨rfl,ha,hb,hc⟩:=hF;have y0:=ha.cell;have y1:=hb.cell;have y2:=hc.cell;clear h ha hb hc;obtain⟨N,hN⟩:∃N,l.length=N:=⟨_,rfl⟩
 rw[hN] at x4 hl hbef ⊢;clear hN;by_cases h1:0<=fuse
 ·have d1:decide (0<=fuse)=true:=decide_eq_true h1
  have hw:IntKind.i64.wrap ((N:Int) - (bef:Int))=(N:Int) - (bef:Int):=wap _ Zo;unfold qa0;rw[d1];go_enter Tryz.func129,Tryz.ntmps129;go_wp2_with fail;go_quiet (fail)
  go_wp2_with fail;go_ret;exact⟨by simp,_,rfl⟩
 ·have d1:decide (0<=fuse)=false:=decide_eq_false h1
  unfold qa0;rw[d1];go_enter Tryz.func129,Tryz.ntmps129;go_wp2_with fail;go_quiet (fail)
  go_wp2_with fail;go_ret;exact⟨by simp,_,rfl⟩
theorem qmy{o:Option Nat}(h:EvR w eb o who i fs st bl):
  Calls Tryz.prog 369 #[.pointer (some ⟨eb,0,none⟩)] w λe w'=>e= .panicked (qbs eb)/\EvR w' eb o who i fs true bl/\Upd (λk=>k=eb) w w':=by
 obtain⟨-,-,-,-,c4,-,cf⟩:=h.cells;have hs:=waa (h.stop true);have hu:=waa (qf5 (w:=w) (G:=λk=>k=eb) (p:=⟨eb,4,none⟩) rfl (.bool true));clear h;go_enter Tryz.func369,Tryz.ntmps369;go_wp2_with fail;exact⟨rfl,rfl,hs.out,hu.out⟩
theorem qr0(hE:EvR w eb (some X) who' i fs false bl)(hF:FsR w fs X fuse bef a b c)(h:RnP w X rp tp who df lv l ov an)(hl:l.length<=100000)(hbef:bef<=l.length)(hsp:qa0 fuse bef l.length=true)(dv:Value):
  Calls Tryz.prog 327 #[.pointer (some ⟨eb,0,none⟩),dv] w λe w'=>e= .panicked (qbs eb)/\EvR w' eb (some X) who' i fs true bl/\Upd (λk=>k=eb) w w':=by
 obtain⟨c0,c1,c2,c3,c4,c5,cf⟩:=hE.cells;have hsp':=qgk hF h hl hbef;rw[hsp] at hsp';have hsp':=waa hsp';have hst:=waa (λm=>qmy (w:=w.drewN m) (show EvR (w.drewN m) eb (some X) who' i fs false bl from hE));obtain⟨rfl,-,-,-⟩:=hF;clear hE h hsp hl hbef;go_enter Tryz.func327,Tryz.ntmps327;go_wp2_with (first|(go_at_call 129;go_loud (refine hsp'.out.mono ?_;rintro e w1 ⟨rfl,m,rfl⟩))|(go_at_call 369;go_loud (refine(hst.out _).mono ?_;rintro e w1 ⟨rfl,hE2,hu2⟩;have hE2:=waa hE2;have hu2:=waa hu2)))
 exact⟨rfl,rfl,hE2.out,((Upd.refl _ w).drewN m).trans hu2.out⟩
theorem qx1{F:Nat}{caps:Array Value}{x:Nat}{Q:World->Prop}{H:Nat->Prop}(hen:∀(args:Array Value) (w:World),(callFunc F args).run Tryz.prog w= .ok (.enter F args) w)(hE:EvR w eb (some X) who' i fs false bl)(hF:FsR w fs X fuse bef a b c)(h:RnP w X rp tp who df lv l ov an)(hl:l.length<=100000)(hbef:bef<=l.length)(hsp:qa0 fuse bef l.length=false)(hdo:∀V,Upd (λk=>k=eb) w V->Calls Tryz.prog F (#[.pointer (some ⟨X,0,none⟩)]++caps) V λe V'=>e= .returned (.tuple #[.agg #[.int .u64 (x:Int),.nilIface],.bool true])/\Q V'/\Upd H V V')(hQ:qg7 (λk=>k=eb\/k=X\/lv.ownBlock=some k) Q)(hH:∀k,H k->k≠eb/\k≠X/\lv.ownBlock≠some k):
  Calls Tryz.prog 327 #[.pointer (some ⟨eb,0,none⟩),.func (.func F) #[] caps] w λe w'=>e= .returned (.tuple #[])/\EvR w' eb (some X) who' i fs false bl/\Q w'/\
   (∃lv',RnP w' X rp tp who df lv' (l++[x]) ov an/\(lv'.ownBlock=lv.ownBlock\/∃g,lv'.ownBlock=some g/\w.heap.size<=g))/\Upd (λk=>H k\/k=eb\/k=X\/lv.ownBlock=some k) w w':=by
 obtain⟨i0,ii,iz0,iz1,iz2⟩:=info_parts qtf;obtain⟨c0',c1,c2,c3,c4,c5,cf⟩:=hE.cells;have c0:w.cell? ⟨eb,0,none⟩=some (.pointer (some ⟨X,0,none⟩)):=c0';have hsp':=qgk hF h hl hbef;rw[hsp] at hsp';have hsp':=waa hsp';obtain⟨rfl,-,-,-⟩:=hF;have hXe:X≠eb:=qaq h.1 hE Zd;have hle:lv.ownBlock≠some eb:=λe=>qao hE Zd h.2 e.symm
 have hE:=waa hE;have h:=waa h;have hdo:=waa hdo;have hQ:=waa hQ;have hH:=waa hH;clear hsp hbef c0' c1 c2 c5;go_enter Tryz.func327,Tryz.ntmps327;go_wp2_with (go_at_call 129;go_loud (refine hsp'.out.mono ?_;rintro e w1 ⟨rfl,m,rfl⟩))
 have hU0:Upd (λk=>k=eb) w ((w.drewN m).setCell ⟨eb,0,none⟩ (.pointer none)):=((Upd.refl (λk=>k=eb) w).drewN m).setCell (p:=⟨eb,0,none⟩) (.inl rfl) _;have hE0:EvR ((w.drewN m).setCell ⟨eb,0,none⟩ (.pointer none)) eb none who' i _ false bl:=EvR.run (w:=w.drewN m) hE.out none;have h0:=h.out.upd hU0 hXe (λk hk e=>hle (by rw[<-e];exact hk));have hdo0:=hdo.out _ hU0;generalize (w.drewN m).setCell ⟨eb,0,none⟩ (.pointer none)=W0 at hU0 hE0 h0 hdo0 ⊢;refine hdo0.mono ?_;rintro e V ⟨rfl,hQV,hUV⟩;have hE1:=hE0.upd hUV (λk=>(hH.out _ k).1 rfl);have h1:=h0.upd hUV (λk=>(hH.out _ k).2.1 rfl) (λk hk e=>(hH.out _ e).2.2 hk);have hU1:=waa ((hU0.mono (G:=λk=>H k\/k=eb\/k=X\/lv.ownBlock=some k) (λk e=> .inr (.inl e))).trans (hUV.mono (λk e=> .inl e)));obtain⟨d0,d1,d2,d3,d4,d5,df'⟩:=hE1.cells;have d0:V.cell? ⟨eb,0,none⟩=some (.pointer none):=d0;have hE1:=waa hE1;have h1:=waa h1;have hQV:=waa hQV;have hel:=hE1.out.lt;clear hsp' hdo hdo0 hE0 h0 hU0 hUV d1 d2 d3 d4 d5;have hu2:Upd (λk=>k=eb) V ((V.setCell ⟨eb,0,none⟩ (.pointer (some ⟨X,0,none⟩))).alloc (.cells #[.int .u64 (x:Int),.nilIface] 324)):=((Upd.refl (λk=>k=eb) V).setCell (p:=⟨eb,0,none⟩) (.inl rfl) _).alloc _;have hE2:EvR ((V.setCell ⟨eb,0,none⟩ (.pointer (some ⟨X,0,none⟩))).alloc (.cells #[.int .u64 (x:Int),.nilIface] 324)) eb (some X) who' i _ false bl:=qag (hE1.out.run (some X)) _;have h2:=h1.out.upd hu2 hXe (λk hk e=>hle (by rw[<-e];exact hk));have hQ2:=hQ.out _ _ hQV.out (hu2.mono (λk e=> .inl e));have hU2:=waa (hU1.out.trans (hu2.mono (λk e=> .inr (.inl e))));have hbx:=qad (V:=V.setCell ⟨eb,0,none⟩ (.pointer (some ⟨X,0,none⟩))) (H:=V.heap.size) (by simp[World.setCell]) #[.int .u64 (x:Int),.nilIface] 324;have hsz:=waa hu2.size;go_wp2_with fail;generalize (V.setCell ⟨eb,0,none⟩ (.pointer (some ⟨X,0,none⟩))).alloc (.cells #[.int .u64 (x:Int),.nilIface] 324)=W at hu2 hE2 h2 hQ2 hU2 hbx hsz ⊢;have hb0:=qab hbx 0;have hb1:=qab hbx 1;simp at hb0 hb1
 obtain⟨x0,x1,x2,x3,x4,x5,x6,xf⟩:=h2.cells;obtain⟨A,cc,rfl⟩:=h2.logv;have hnX:=waa (λ(k:Nat) (e:some V.heap.size=some k)=>e);have hXs:=h2.lt;have ho:=waa h2.2;have h2:=waa h2;have hE2:=waa hE2;have hQ2:=waa hQ2;clear x0 x1 x2 x3 x5 x6 hu2 hE1 h1 hQV hU1 hbx hE h;go_region_law ((refine step_append_lies _ Zr _ _ 95 Zr (X+1) 324 i0 (.agg #[.int .u64 0,.nilIface]) 2 24 Tryz.underlying95 ii iz0 iz1 iz2 Zr Zd _ _ _ Zr (qc1 (ho.out.alloc _) 1) ⟨W.heap.size,0,none⟩ 1 1 [.int .u64 (x:Int),.nilIface] Zr Zr (qdj Zr _ Zr _) (by simp[Value.oneCell']) Zd (by simp only[maxLen];omega) Zo Zx _ Zr ?_;intro g c w4 hown hgrow hat hlg;obtain⟨hX4,hR4,hU4⟩:=RnP.told (y:=x) (w:=W) (O:= .cells #[.int .u64 (x:Int),.nilIface] 324) h2.out hown ⟨hgrow.os,hgrow.tape,hgrow.output,hgrow.size,hgrow.block⟩;have hXb:=hX4.trans h2.out.1;have z4:w4.cell? ⟨X,4,none⟩=some (.slice A l.length cc):=(qab hXb 4).trans rfl;have zf:=qah hXb 4;have hgq:(Value.slice (some ⟨g,0,none⟩) (l.length+1) c).ownBlock=(Value.slice A l.length cc).ownBlock\/∃g',(Value.slice (some ⟨g,0,none⟩) (l.length+1) c).ownBlock=some g'/\w.heap.size<=g':=hat.imp (λe=>e.symm) (λe=>⟨g,rfl,by have h1:=hU2.out.size;rw[e];simp;omega⟩);have hR4:=waa hR4;have hE4:=waa (hE2.out.upd hU4 (λe=>by rcases e with e|e;exact hXe e.symm;exact hle e));have hQ4:=waa (hQ.out _ _ hQ2.out (hU4.mono (λk e=> .inr e)));have hU5:=waa (hU2.out.trans (hU4.mono (λk e=> .inr (.inr e))));clear hown hgrow hat hX4 hU4 hXb;have hgq:=waa hgq))
 all_goals
  go_wp2_with fail;go_end0
  exact⟨rfl,hE4.out,hQ4.out,⟨_,hR4.out,hgq.out⟩,hU5.out⟩
theorem qlm{F:Nat}{caps:Array Value}{x:Nat}{Q:World->Prop}{H:Nat->Prop}(hen:∀(args:Array Value) (w:World),(callFunc F args).run Tryz.prog w= .ok (.enter F args) w)(hE:EvR w eb (some X) who' i fs false bl)(hF:FsR w fs X fuse bef a b c)(h:RnP w X rp tp who df lv l ov an)(hl:l.length<=100000)(hbef:bef<=l.length)(hsp:qa0 fuse bef l.length=false)(hdo:∀V,Upd (λk=>k=eb) w V->Calls Tryz.prog F (#[.pointer (some ⟨X,0,none⟩)]++caps) V λe V'=>e= .returned (.tuple #[.agg #[.int .u64 (x:Int),.nilIface],.bool false])/\Q V'/\Upd H V V')(hQ:qg7 (λk=>k=eb) Q)(hH:∀k,H k->k≠eb/\k≠X/\lv.ownBlock≠some k):
  Calls Tryz.prog 327 #[.pointer (some ⟨eb,0,none⟩),.func (.func F) #[] caps] w λe w'=>e= .panicked (qbs eb)/\EvR w' eb (some X) who' i fs true true/\Q w'/\
   RnP w' X rp tp who df lv l ov an/\Upd (λk=>H k\/k=eb) w w':=by
 obtain⟨c0',c1,c2,c3,c4,c5,cf⟩:=hE.cells;have c0:w.cell? ⟨eb,0,none⟩=some (.pointer (some ⟨X,0,none⟩)):=c0';have hsp':=qgk hF h hl hbef;rw[hsp] at hsp';have hsp':=waa hsp';obtain⟨rfl,-,-,-⟩:=hF;have hXe:X≠eb:=qaq h.1 hE Zd;have hle:lv.ownBlock≠some eb:=λe=>qao hE Zd h.2 e.symm
 have hE:=waa hE;have h:=waa h;have hdo:=waa hdo;have hQ:=waa hQ;have hH:=waa hH;clear hsp hbef c0' c1 c2 c5;go_enter Tryz.func327,Tryz.ntmps327;go_wp2_with (go_at_call 129;go_loud (refine hsp'.out.mono ?_;rintro e w1 ⟨rfl,m,rfl⟩))
 have hU0:Upd (λk=>k=eb) w ((w.drewN m).setCell ⟨eb,0,none⟩ (.pointer none)):=((Upd.refl (λk=>k=eb) w).drewN m).setCell (p:=⟨eb,0,none⟩) (.inl rfl) _;have hE0:EvR ((w.drewN m).setCell ⟨eb,0,none⟩ (.pointer none)) eb none who' i _ false bl:=EvR.run (w:=w.drewN m) hE.out none;have h0:=h.out.upd hU0 hXe (λk hk e=>hle (by rw[<-e];exact hk));have hdo0:=hdo.out _ hU0;generalize (w.drewN m).setCell ⟨eb,0,none⟩ (.pointer none)=W0 at hU0 hE0 h0 hdo0 ⊢;refine hdo0.mono ?_;rintro e V ⟨rfl,hQV,hUV⟩;have hE1:=hE0.upd hUV (λk=>(hH.out _ k).1 rfl);have h1:=h0.upd hUV (λk=>(hH.out _ k).2.1 rfl) (λk hk e=>(hH.out _ e).2.2 hk);have hU1:=waa ((hU0.mono (G:=λk=>H k\/k=eb) (λk e=> .inr e)).trans (hUV.mono (λk e=> .inl e)));obtain⟨d0,d1,d2,d3,d4,d5,df'⟩:=hE1.cells;have d0:V.cell? ⟨eb,0,none⟩=some (.pointer none):=d0;have hE1:=waa hE1;have h1:=waa h1;have hQV:=waa hQV;have hel:=hE1.out.lt;clear hsp' hdo hdo0 hE0 h0 hU0 hUV d1 d2 d3 d4;have hu2:Upd (λk=>k=eb) V (((V.setCell ⟨eb,0,none⟩ (.pointer (some ⟨X,0,none⟩))).setCell ⟨eb,5,none⟩ (.bool true)).alloc (.cells #[.int .u64 (x:Int),.nilIface] 324)):=(((Upd.refl (λk=>k=eb) V).setCell (p:=⟨eb,0,none⟩) (.inl rfl) _).setCell (p:=⟨eb,5,none⟩) (.inl rfl) _).alloc _;have hE2:EvR (((V.setCell ⟨eb,0,none⟩ (.pointer (some ⟨X,0,none⟩))).setCell ⟨eb,5,none⟩ (.bool true)).alloc (.cells #[.int .u64 (x:Int),.nilIface] 324)) eb (some X) who' i _ false true:=qag ((hE1.out.run (some X)).block true) _;have h2:=h1.out.upd hu2 hXe (λk hk e=>hle (by rw[<-e];exact hk));have hQ2:=hQ.out _ _ hQV.out hu2;have hU2:=waa (hU1.out.trans (hu2.mono (λk e=> .inr e)));have hst:=waa (qmy hE2);have h2:=waa h2;have hQ2:=waa hQ2;clear hu2 hE1 h1 hQV hU1 hE h hE2;go_wp2_with (go_at_call 369;go_loud (refine hst.out.mono ?_;rintro e w1 ⟨rfl,hE3,hu3⟩;have hE3:=waa hE3;have hu3:=waa hu3))
 exact⟨rfl,rfl,hE3.out,hQ.out _ _ hQ2.out hu3.out,h2.out.upd hu3.out hXe (λk hk e=>hle (by rw[<-e];exact hk)),hU2.out.trans (hu3.out.mono (λk e=> .inr e))⟩
end
section
variable {w:World} {X rp tp eb i:Nat} {who who':Int} {df lv an fs:Value} {l:List Nat} {ov st bl:Bool} {fuse:Int} {bef a b c:Nat}
theorem qs9(hE:EvR w eb (some X) who' l.length fs false bl)(hF:FsR w fs X fuse bef a b c)(h:RnP w X rp tp who df lv l ov an)(hl:l.length<=100000)(hbef:bef<=l.length)(hsp:qa0 fuse bef l.length=true)(dv:Value):
  Calls Tryz.prog 281 #[.pointer (some ⟨eb,0,none⟩),dv] w λe w'=>e= .panicked (qbs eb)/\EvR w' eb (some X) who' l.length fs true bl/\Upd (λk=>k=eb) w w':=by
 obtain⟨c0',c1,c2,c3,c4,c5,cf⟩:=hE.cells;have c0:w.cell? ⟨eb,0,none⟩=some (.pointer (some ⟨X,0,none⟩)):=c0';obtain⟨x0,x1,x2,x3,x4,x5,x6,xf⟩:=h.cells;have hn:=waa (λn=>qr0 (w:=w.drewN n) (show EvR (w.drewN n) eb (some X) who' l.length fs false bl from hE) (show FsR (w.drewN n) fs X fuse bef a b c from hF) (show RnP (w.drewN n) X rp tp who df lv l ov an from h) hl hbef hsp dv);obtain⟨A,cc,rfl⟩:=h.logv;clear hE hF h hsp c0' c1 c3 c4 c5 x0 x1 x2 x3 x5 x6 xf;generalize l.length=N at*;go_enter wdi,wdj;go_wp2_with fail;go_quiet (fail)
 go_wp2_with (go_at_call 327;go_loud (refine(hn.out _).mono ?_;rintro e w1 ⟨rfl,hE2,hu2⟩;have hE2:=waa hE2;have hu2:=waa hu2))
 exact⟨rfl,rfl,hE2.out,((Upd.refl _ w).drewN _).trans hu2.out⟩
theorem ask_told(hE:EvR w eb (some X) who' i fs st bl)(h:RnP w X rp tp who df lv l ov an)(hl:l.length<=100000){x:Nat}(hx:l[i]? =some x)(dv:Value):
  Calls Tryz.prog 281 #[.pointer (some ⟨eb,0,none⟩),dv] w λe w'=>e= .returned (.int .u64 (x:Int))/\EvR w' eb (some X) who' (i+1) fs st bl/\Upd (λk=>k=eb) w w':=by
 obtain⟨c0',c1,c2,c3,c4,c5,cf⟩:=hE.cells;have c0:w.cell? ⟨eb,0,none⟩=some (.pointer (some ⟨X,0,none⟩)):=c0';obtain⟨x0,x1,x2,x3,x4,x5,x6,xf⟩:=h.cells;have hil:i<l.length:=(was.1 hx).1;obtain⟨g,cc,rfl,y0,y1⟩:=h.log hx;have hE:=waa hE;have hU:=waa (Upd.refl (λk=>k=eb) w);have hne:((i:Int)==(l.length:Int))=false:=by simp;omega
 have z0:(0:Int)<=(i:Int):=Zo
 have z1:(i:Int)<(l.length:Int):=Zo
 have hw1:IntKind.i64.wrap ((i:Int)+1)=((i+1:Nat):Int):=(wap _ Zo).trans Zo;clear h c0' c1 c3 c4 c5 x0 x1 x2 x3 x5 x6 xf hx;generalize l.length=N at*;go_enter wdi,wdj;go_wp2_with fail;go_quiet (fail)
 go_wp2_with fail;have hE:=waa (show EvR (w.drewN nq) eb (some X) who' i fs st bl from hE.out);have hU:=waa (hU.out.drewN nq);have c0:=show(w.drewN nq).cell? ⟨eb,0,none⟩=_ from c0
 have c2:=show(w.drewN nq).cell? ⟨eb,2,none⟩=_ from c2
 have x4:=show(w.drewN nq).cell? ⟨X,4,none⟩=_ from x4
 have y0:=show(w.drewN nq).cell? ⟨g,i*2,none⟩=_ from y0
 have y1:=show(w.drewN nq).cell? ⟨g,i*2+1,none⟩=_ from y1
 clear cf;generalize w.drewN nq=W at hE hU c0 c2 x4 y0 y1 ⊢;go_region_held3 (λV=>V.cell? ⟨eb,0,none⟩=some (.pointer (some ⟨X,0,none⟩))/\V.cell? ⟨eb,2,none⟩=some (.int .i64 (i:Int))/\V.cell? ⟨X,4,none⟩=some (.slice (some ⟨g,0,none⟩) N cc)/\V.cell? ⟨g,i*2,none⟩=some (.int .u64 (x:Int))/\V.cell? ⟨g,i*2+1,none⟩=some .nilIface)
  (first|with_reducible exact⟨c0,c2,x4,y0,y1⟩|go_keep)
  (fail)
 have hUa:Upd (λ_=>False) W (W.alloc (.cells #[.int .u64 (x:Int),.nilIface] 324)).drew:=((Upd.refl _ W).alloc _).drew;have hEa:=hE.out.upd hUa (λe=>e);have hUb:=waa (hU.out.trans (hUa.mono (λ_ e=>e.elim)));have hbx:(W.alloc (.cells #[.int .u64 (x:Int),.nilIface] 324)).drew.heap[W.heap.size]? =_:=qad rfl #[.int .u64 (x:Int),.nilIface] 324;have hel:=hE.out.lt;have hB1:¬W.heap.size=eb:=Zo
 have hB2:¬eb=W.heap.size:=Zo
 clear hUa c0 c2 x4 y0 y1 hE hU hel;generalize W.heap.size=B at hbx hB1 hB2 ⊢;generalize (W.alloc (.cells #[.int .u64 (x:Int),.nilIface] 324)).drew=W2 at hEa hUb hbx ⊢;have b0:=qab hbx 0;have b1:=qab hbx 1;simp at b0 b1
 obtain⟨-,-,c2,-,-,-,cf⟩:=hEa.cells;have hfin:=waa (hEa.at (i+1));have hUf:=waa (hUb.out.setCell (p:=⟨eb,2,none⟩) (.inl rfl) (.int .i64 ((i+1:Nat):Int)));clear hEa hUb hbx;go_wp2_with fail;go_ret;exact⟨rfl,hfin.out,hUf.out⟩
theorem q0x{F:Nat}{caps:Array Value}{x:Nat}{Q:World->Prop}{H:Nat->Prop}(hen:∀(args:Array Value) (w:World),(callFunc F args).run Tryz.prog w= .ok (.enter F args) w)(hE:EvR w eb (some X) who' l.length fs false bl)(hF:FsR w fs X fuse bef a b c)(h:RnP w X rp tp who df lv l ov an)(hl:l.length<100000)(hbef:bef<=l.length)(hsp:qa0 fuse bef l.length=false)(hdo:∀V,Upd (λk=>k=eb) w V->Calls Tryz.prog F (#[.pointer (some ⟨X,0,none⟩)]++caps) V λe V'=>e= .returned (.tuple #[.agg #[.int .u64 (x:Int),.nilIface],.bool true])/\Q V'/\Upd H V V')(hQ:qg7 (λk=>k=eb\/k=X\/lv.ownBlock=some k) Q)(hH:∀k,H k->k≠eb/\k≠X/\lv.ownBlock≠some k):
  Calls Tryz.prog 281 #[.pointer (some ⟨eb,0,none⟩),.func (.func F) #[] caps] w λe w'=>e= .returned (.int .u64 (x:Int))/\EvR w' eb (some X) who' (l.length+1) fs false bl/\Q w'/\
   (∃lv',RnP w' X rp tp who df lv' (l++[x]) ov an/\(lv'.ownBlock=lv.ownBlock\/∃g,lv'.ownBlock=some g/\w.heap.size<=g))/\Upd (λk=>H k\/k=eb\/k=X\/lv.ownBlock=some k) w w':=by
 obtain⟨c0',c1,c2,c3,c4,c5,cf⟩:=hE.cells;have c0:w.cell? ⟨eb,0,none⟩=some (.pointer (some ⟨X,0,none⟩)):=c0';obtain⟨x0,x1,x2,x3,x4,x5,x6,xf⟩:=h.cells;have hn:=waa (λn=>qx1 (w:=w.drewN n) hen (show EvR (w.drewN n) eb (some X) who' l.length fs false bl from hE) (show FsR (w.drewN n) fs X fuse bef a b c from hF) (show RnP (w.drewN n) X rp tp who df lv l ov an from h) Zo hbef hsp (λV hV=>hdo V (((Upd.refl _ w).drewN n).trans hV)) hQ hH);have hXe:X≠eb:=qaq h.1 hE Zd;have hle:lv.ownBlock≠some eb:=λe=>qao hE Zd h.2 e.symm
 have hQ:=waa hQ;obtain⟨A,cc,hlv⟩:=h.logv;have hll:(l++[x]).length=l.length+1:=by simp
 have hxl:(l++[x])[l.length]? =some x:=by simp
 rw[hlv] at x4;have hlv:=waa hlv;have hh:=waa h;clear hE hF hsp hdo hH h c0' c1 c3 c4 c5 x0 x1 x2 x3 x5 x6 xf cf;generalize hi:l.length=i at*;have hi:=waa hi;go_enter wdi,wdj;go_wp2_with fail;go_quiet (fail)
 go_wp2_with (go_at_call 327;go_loud (refine(hn.out _).mono ?_;rintro e W ⟨rfl,hE2,hQ2,⟨lv',hR2,hg2⟩,hu2⟩;have hE2:=waa hE2;have hQ2:=waa hQ2;have hR2:=waa hR2;have hg2:=waa hg2;have hu2:=waa hu2))
 obtain⟨N,hN⟩:∃N,i+1=N:=⟨_,rfl⟩
 have hi':(l++[x]).length=N:=hll.trans hN;obtain⟨g,cc,hlv',y0,y1⟩:=hR2.out.log hxl;rw[hi'] at hlv';subst hlv';obtain⟨c0',-,c2,-,-,-,-⟩:=hE2.out.cells;have c0:W.cell? ⟨eb,0,none⟩=some (.pointer (some ⟨X,0,none⟩)):=c0';obtain⟨-,-,-,-,x4,-,-,-⟩:=hR2.out.cells;have z0:(0:Int)<=(i:Int):=Zo
 have z1:(i:Int)<(N:Int):=Zo
 have hw1:IntKind.i64.wrap ((i:Int)+1)=((i+1:Nat):Int):=(wap _ Zo).trans Zo;have hrow:=waa (λk (hk:(Value.slice (some ⟨g,0,none⟩) N cc).ownBlock=some k)=>(λe=>qao hE2.out Zd hR2.out.2 (by rw[hk,e]):¬k=eb));have hXe:=waa hXe;clear c0' hll hxl hi' hn hen hle hN;go_region_held3 (λV=>V.cell? ⟨eb,0,none⟩=some (.pointer (some ⟨X,0,none⟩))/\V.cell? ⟨eb,2,none⟩=some (.int .i64 (i:Int))/\V.cell? ⟨X,4,none⟩=some (.slice (some ⟨g,0,none⟩) N cc)/\V.cell? ⟨g,i*2,none⟩=some (.int .u64 (x:Int))/\V.cell? ⟨g,i*2+1,none⟩=some .nilIface)
  (first|with_reducible exact⟨c0,c2,x4,y0,y1⟩|go_keep)
  (fail)
 have hUa:Upd (λk=>k=eb) W (W.alloc (.cells #[.int .u64 (x:Int),.nilIface] 324)).drew:=((Upd.refl _ W).alloc _).drew;have hEa:EvR (W.alloc (.cells #[.int .u64 (x:Int),.nilIface] 324)).drew eb (some X) who' i fs false bl:=qag hE2.out _;have hbx:(W.alloc (.cells #[.int .u64 (x:Int),.nilIface] 324)).drew.heap[W.heap.size]? =_:=qad rfl #[.int .u64 (x:Int),.nilIface] 324;have hel:=hE2.out.lt;have hB1:¬W.heap.size=eb:=Zo
 have hB2:¬eb=W.heap.size:=Zo
 clear c0 c2 x4 y0 y1 hel;generalize W.heap.size=B at hbx hB1 hB2 ⊢;generalize (W.alloc (.cells #[.int .u64 (x:Int),.nilIface] 324)).drew=W2 at hEa hUa hbx ⊢;have b0:=qab hbx 0;have b1:=qab hbx 1;simp at b0 b1
 obtain⟨-,-,c2,-,-,-,cf⟩:=hEa.cells;have hfin:=waa (hEa.at (i+1));have hUf:=waa (hUa.setCell (p:=⟨eb,2,none⟩) (.inl rfl) (.int .i64 ((i+1:Nat):Int)));clear hEa hUa hbx;go_wp2_with fail;go_ret;exact⟨rfl,hfin.out,hQ.out _ _ hQ2.out (hUf.out.mono (λk e=> .inl e)),⟨_,hR2.out.upd hUf.out hXe.out hrow.out,hg2.out.imp id (λ⟨g',e1,e2⟩=>⟨g',e1,e2⟩)⟩,(((Upd.refl _ w).drewN nq).trans hu2.out).trans (hUf.out.mono (λk e=> .inr (.inl e)))⟩
theorem qos{F:Nat}{caps:Array Value}{x:Nat}{Q:World->Prop}{H:Nat->Prop}(hen:∀(args:Array Value) (w:World),(callFunc F args).run Tryz.prog w= .ok (.enter F args) w)(hE:EvR w eb (some X) who' l.length fs false bl)(hF:FsR w fs X fuse bef a b c)(h:RnP w X rp tp who df lv l ov an)(hl:l.length<100000)(hbef:bef<=l.length)(hsp:qa0 fuse bef l.length=false)(hdo:∀V,Upd (λk=>k=eb) w V->Calls Tryz.prog F (#[.pointer (some ⟨X,0,none⟩)]++caps) V λe V'=>e= .returned (.tuple #[.agg #[.int .u64 (x:Int),.nilIface],.bool false])/\Q V'/\Upd H V V')(hQ:qg7 (λk=>k=eb) Q)(hH:∀k,H k->k≠eb/\k≠X/\lv.ownBlock≠some k):
  Calls Tryz.prog 281 #[.pointer (some ⟨eb,0,none⟩),.func (.func F) #[] caps] w λe w'=>e= .panicked (qbs eb)/\EvR w' eb (some X) who' l.length fs true true/\Q w'/\
   RnP w' X rp tp who df lv l ov an/\Upd (λk=>H k\/k=eb) w w':=by
 obtain⟨c0',c1,c2,c3,c4,c5,cf⟩:=hE.cells;have c0:w.cell? ⟨eb,0,none⟩=some (.pointer (some ⟨X,0,none⟩)):=c0';obtain⟨x0,x1,x2,x3,x4,x5,x6,xf⟩:=h.cells;have hn:=waa (λn=>qlm (w:=w.drewN n) hen (show EvR (w.drewN n) eb (some X) who' l.length fs false bl from hE) (show FsR (w.drewN n) fs X fuse bef a b c from hF) (show RnP (w.drewN n) X rp tp who df lv l ov an from h) Zo hbef hsp (λV hV=>hdo V (((Upd.refl _ w).drewN n).trans hV)) hQ hH);obtain⟨A,cc,hlv⟩:=h.logv;rw[hlv] at x4;have hlv:=waa hlv;clear hE hF hsp hdo hH h c0' c1 c3 c4 c5 x0 x1 x2 x3 x5 x6 xf cf hQ;generalize hi:l.length=i at*;have hi:=waa hi;go_enter wdi,wdj;go_wp2_with fail;go_quiet (fail)
 go_wp2_with (go_at_call 327;go_loud (refine(hn.out _).mono ?_;rintro e W ⟨rfl,hE2,hQ2,hR2,hu2⟩;have hE2:=waa hE2;have hQ2:=waa hQ2;have hR2:=waa hR2;have hu2:=waa hu2))
 exact⟨rfl,rfl,hE2.out,hQ2.out,hR2.out,((Upd.refl _ w).drewN _).trans hu2.out⟩
end
theorem qm0{w w':World}{base g n cap size:Nat}{e:TypeId}{xs:List Value}(h:w.ownsRow base e size (.slice (some ⟨g,0,none⟩) n cap) n xs)(hb:w'.heap[g]? =w.heap[g]?):w'.ownsRow base e size (.slice (some ⟨g,0,none⟩) n cap) n xs:=by
 obtain⟨e1,e2⟩:=h;refine⟨e1,?_⟩;rcases e2 with ⟨e2,e3⟩|⟨g',cap',cur,a1,a2,a3,a4⟩
 ·cases e2
 ·have a1':=a1
  injection a1' with eg;injection eg with eg;injection eg with eg;exact .inr ⟨g',cap',cur,a1,a2,by rw[<-eg,hb,eg];exact a3,a4⟩
def qb7(L:List Int)(n:Nat)(k who:Int):Int:=if k<0\/(n:Int)<=k\/who<0 then 1 else if 0<=L[k.toNat]?.getD 0 then 5 else 0
def qcy(L:List Int)(n:Nat)(k who:Int):List Int:=if qb7 L n k who=0 then L.set k.toNat who else L
def qeg(L:List Int)(n:Nat)(k who:Int):Int:=if k<0\/(n:Int)<=k\/who<0 then 1 else if L[k.toNat]?.getD 0=who then 0 else 6
def qcj(L:List Int)(n:Nat)(k who:Int):List Int:=if qeg L n k who=0 then L.set k.toNat (-1) else L
def tbF(p g:Nat)(k:Nat):Prop:=k=p\/k=g
section
variable {w w':World} {p g n:Nat} {L:List Int}
theorem qw6(L:List Int)(k:Nat)(x:Int):(i64V L).set k (.int .i64 x)=i64V (L.set k x):=by simp[i64V,List.map_set]
end
def qdy(N S:List Nat)(o t:Nat):List Nat:=N.mapIdx λj x=>if o<=j/\j<o+t then S[j]?.getD 0 else x
def fenL(K N:List Nat)(B:List Bool)(t:Nat):List Nat:=K.mapIdx λj x=>if j<t/\B[j/8]?.getD false=true then N[j]?.getD 0 else x
theorem qs8(N S:List Nat)(o t:Nat):(qdy N S o t).length=N.length:=by simp[qdy]
theorem qwu(K N:List Nat)(B:List Bool)(t:Nat):(fenL K N B t).length=K.length:=by simp[fenL]
section
variable {w w':World} {p gs gq gm gp m:Nat} {S K N:List Nat} {B:List Bool}
end
abbrev AskT:=Nat×Int×Nat
structure DM where
 S:List Nat
 K:List Nat
 N:List Nat
 B:List Bool
 L:List Int
 d:Nat
 T:List Nat
def qay(m:Nat)(a:Int):Bool:=decide (0<=a)&&decide (a<((m*8:Nat):Int))
section
variable {w w':World} {A:Option Addr} {n cap x d:Nat} {who:Int} {v:Value} {T:List Nat} {l:List AskT}
end
end Go.Proofs.YtgjhkafggagniaaGreat
