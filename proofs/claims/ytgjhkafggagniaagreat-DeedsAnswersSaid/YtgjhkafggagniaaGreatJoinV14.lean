/- Parts. No condition. -/
import Derived.Shelf.Sort.Plain
import Derived.Sort.LotA
import Derived.Sort.LotB
import Derived.BigRegion
import Derived.Lib.Tables
import Derived.Lib.BitFns
import Derived.Deep.CutBlock
import Derived.Deep.DeepCutAuto
import Derived.Laws.Closers25b
import Derived.Sort.OwnSortedInts
import Derived.Lib.SliceRun
import Derived.Test.YtgjhkafggagniaaGreatJoinV13
set_option linter.unusedVariables false
set_option maxRecDepth 100000
set_option maxHeartbeats 8000000
namespace Go.Proofs.YtgjhkafggagniaaGreat
open Go Go.RowKit
def hwL(s l r:Int):Int->List (Int×Int×Int)->List (Int×Nat)
 |_,[]=>[]
 |i,h::t=>(headN s l r i,qcw h.1 h.2.1 h.2.2)::hwL s l r (i+1) t
theorem qjt(s l r:Int):∀(i:Int) (hs:List (Int×Int×Int)),(hwL s l r i hs).length=hs.length
 |_,[]=>rfl
 |i,h::t=>by rw[hwL,waz,qjt s l r (i+1) t,waz]
theorem qim(s l r:Int):∀(i:Int) (a b:List (Int×Int×Int)),hwL s l r i (a++b)=hwL s l r i a++hwL s l r (i+(a.length:Int)) b
 |i,[],b=>by simp[hwL]
 |i,h::t,b=>by
  rw[wbt,hwL,qim s l r (i+1) t b,hwL,wbt,waz];congr 3
  omega
theorem qw5(s l r i:Int){hs:List (Int×Int×Int)}{j:Nat}{a b c:Int}(h:hs[j]? =some (a,b,c)):hwL s l r i (hs.take (j+1))=hwL s l r i (hs.take j)++[(headN s l r (i+(j:Int)),qcw a b c)]:=by
 have hl:=(was.1 h).1;rw[wbs,h,qim,war,weg Zo];rfl
section
variable {A:AC} {v:Value} {ws:List (Int×Nat)} {w:World}
theorem qjj(h:AcR A v ws w)(i:Int){B:Option Addr}{cap n:Nat}{hs:List (Int×Int×Int)}(hR:HdsRd w B n hs)(hm:∀x∈hs,qav x.1 x.2.1 x.2.2=true)(hi:-4611686018427387904<=i/\i<=4611686018427387904)(hn:n<=100):
  Calls Tryz.prog 251 #[.pointer (some ⟨A.ab,0,none⟩),.int .i64 i,.slice B n cap] w λe w'=>∃u,e= .returned u/\w'.ownsRow w.heap.size 169 2 u n (eV (hwL A.s A.l A.r i hs))/\(n=0->u= .slice none 0 0)/\Below w.heap.size w w':=by
 obtain⟨i0,ii,iz0,iz1,iz2⟩:=info_parts qc6;have hhd:=waa (λ(j:Int) (W:World)=>qm2 A.s A.l A.r j W);have hwd:=waa (λ(a b c:Int) (hx:qav a b c=true) (W:World)=>qh6 a b c W hx);have hlen:=hR.1;replace hR:=waa hR;replace hm:=waa hm;replace h:=waa h;replace hlen:=waa hlen;go_enter Tryz.func251,Tryz.ntmps251;go_wp2_with fail;go_loopg [7,14] n (λk s7 s14 wr=>∃(j:Nat) (u:Value),s7=u/\s14= .int .i64 (j:Int)/\n - j<=k/\j<=n/\Hid (wr.ownsRow w.heap.size 169 2 u j (eV (hwL A.s A.l A.r i (hs.take j))))/\Hid (j=0->u= .slice none 0 0)/\Hid (Below w.heap.size w wr))
 case atStart=>exact⟨0,_,rfl,rfl,Zo,Zo,waa (wbx _ _ _ _),waa (λ_=>rfl),waa (wai _ _)⟩
 case round=>
  obtain⟨j,u,rfl,rfl,hk,hj,ho,h0,hB⟩:=hrel;by_cases hlt:j<n
  ·obtain⟨⟨a,b,c⟩,hx⟩:∃x,hs[j]? =some x:=⟨_,wan (by rw[hlen.out];exact hlt)⟩
   obtain⟨q,rfl,hc⟩:=(hR.out.below hB.out).2 Zo;obtain⟨k0,k1,k2⟩:=hc j _ hx;dsimp only at k0 k1 k2;have hmy:=hm.out _ (wb9 hx);dsimp only at hmy;have hwc:=waa (λW=>hwd.out a b c hmy W);have hcc:=waa (λW=>hhd.out (i+(j:Int)) W);have hnx:=waa (qw5 A.s A.l A.r i hx);have hbd:=qe3 A.s A.l A.r (i+(j:Int));generalize headN A.s A.l A.r (i+(j:Int))=z at hcc hnx hbd;generalize qcw a b c=y at hwc hnx;have hw:IntKind.i64.wrap (i+(j:Int))=i+(j:Int):=wap _ Zo;have z1:(j:Int)<(n:Int):=Zo
   have z2:(0:Int)<=(j:Int):=Zo
   have hB1:=(wai wr.heap.size wr).alloc (wah _) (.cells #[.int .i64 a,.int .i64 b,.int .i64 c] 134);have hBw:=waa (hB.out.trans (hB1.mono hB.out.size));have ho1:=waa (qa1 ho.out hB1);clear hc hx hmy hB1;go_wp2_with fail;refine(hwc.out _).mono ?_;rintro e w3 ⟨rfl,hB3⟩;have hBw3:=hBw.out.trans (hB3.mono hBw.out.size);have ho3:=waa (qa1 ho1.out hB3);obtain⟨⟨-,c1,c2,c3⟩,-⟩:=(h.out.upd (Upd.of_below hBw3 (wah _):Upd (λ_=>False) w _) (λe=>e) (λ_ _ e=>e)).cells;replace hBw3:=waa hBw3;clear hB3 k0 k1 k2 hwc;go_wp2_with fail;refine(hcc.out _).mono ?_;rintro e w4 ⟨rfl,hB4⟩;have hBw4:=hBw3.out.trans (hB4.mono hBw3.out.size);have ho4:=qa1 ho3.out hB4;have hBa:=(wai w4.heap.size w4).alloc (wah _) (.cells #[.int .i64 z,.int .u64 (y:Int)] 169);have ho5:=waa (qa1 ho4 hBa);have hBw5:=waa (hBw4.trans (hBa.mono hBw4.size));have hs5:=waa hBw5.out.size;have hs4:w.heap.size<=w4.heap.size:=hBw4.size;clear hB4 hBw4 ho4 hBa c1 c2 c3 hcc;obtain⟨VA,VC,rfl,-⟩:=EsRd.of_own ho.out;go_wp2_with (at_builtin;go_loud ((refine wpList_append_own _ rfl _ _ 155 rfl w.heap.size 169 i0 (.agg #[.int .i64 0,.int .u64 0]) 2 16 wcj ii iz0 iz1 iz2 rfl Zd _ _ _ rfl ho5.out ⟨w4.heap.size,0,none⟩ 1 1 [.int .i64 z,.int .u64 (y:Int)] rfl rfl (qdj rfl _ rfl _) (by simp[Value.oneCell']) (by simp only[maxLen];omega) Zo hs5.out ?_);intro v' w5 hown' hgrow hnil;have hB6:=waa (hBw5.out.grown hgrow hs5.out (λk e=>(ho5.out.lt k e).1));have ho6:=waa hown';have hnil':=waa hnil;clear hown' hgrow hnil))
   go_roundg (n - (j+1))
   case measure=>omega
   case rel=>exact⟨j+1,v',rfl,by go_num,wah _,Zo,waa (by rw[hnx.out,qgu];exact ho6.out),waa (λe=>by omega),hB6⟩
  ·obtain rfl:j=n:=Zo
   have z1:¬(j:Int)<(j:Int):=Zo
   have hall:hs.take j=hs:=wax (by rw[hlen.out];omega);rw[hall] at ho;obtain⟨VA,VC,rfl,-⟩:=EsRd.of_own (l:=hwL A.s A.l A.r i hs) ho.out;go_wp2_with fail;go_ret;exact⟨_,rfl,ho.out,h0.out,hB.out⟩
theorem qrb(h:AcR A v ws w)(hl:ws.length<=300):
  Calls Tryz.prog 227 #[.pointer (some ⟨A.ab,0,none⟩)] w λe w'=>∃u,e= .returned u/\w'.ownsRow w.heap.size 169 2 u (qbf ws).length (eV (qbf ws))/\Below w.heap.size w w':=by
 obtain⟨-,⟨-,-,c16⟩,-⟩:=h.cells;obtain⟨VA,VC,rfl,hR⟩:=EsRd.of_own h.row;have hla:=waa (qwk VA VC ws w hR hl (λe he=>by
  have:=h.ok e he
  unfold qen at this;exact wek this.1))
 generalize ws.length=n at c16 hla;clear h hR;go_enter Tryz.func227,Tryz.ntmps227;go_wp2_with fail;refine hla.out.mono ?_;rintro e w1 ⟨u,rfl,ho,hB⟩;obtain⟨UA,UC,rfl,-⟩:=EsRd.of_own ho;have hfin:=waa (And.intro ho hB);clear ho hB hla;go_wp2_with fail;go_ret;exact⟨_,rfl,hfin.out.1,hfin.out.2⟩
end
end Go.Proofs.YtgjhkafggagniaaGreat
namespace Go.Proofs.YtgjhkafggagniaaGreat
open Go Go.RowKit Go.Shelf
def q2e:Ren:=⟨fun|189=>371|125=>152|257=>390|128=>197|129=>198|294=>393|295=>394|296=>395|297=>396|298=>397|299=>398|216=>399|300=>400|301=>401|328=>402|329=>237|330=>238|331=>403|332=>404|215=>405|343=>406|n=>n,fun|28=>24|3=>3|46=>248|0=>0|51=>230|53=>40|4=>4|183=>269|182=>268|131=>260|5=>5|9=>9|218=>299|222=>303|228=>330|229=>297|n=>n,λn=>n⟩
theorem q2k:Lays.n189 Tryz.prog q2e where
 mixed:=by kernel_rfl
 f125:=Tryz.func152.trans (congrArg some Zk)
 f128:=Tryz.func197.trans (congrArg some Zk)
 f129:=Tryz.func198.trans (congrArg some Zk)
 f189:=Tryz.func371.trans (congrArg some Zk)
 f215:=Tryz.func405.trans (congrArg some Zk)
 f216:=Tryz.func399.trans (congrArg some Zk)
 f257:=Tryz.func390.trans (congrArg some Zk)
 f294:=Tryz.func393.trans (congrArg some Zk)
 f295:=Tryz.func394.trans (congrArg some Zk)
 f296:=Tryz.func395.trans (congrArg some Zk)
 f297:=Tryz.func396.trans (congrArg some Zk)
 f298:=Tryz.func397.trans (congrArg some Zk)
 f299:=Tryz.func398.trans (congrArg some Zk)
 f300:=Tryz.func400.trans (congrArg some Zk)
 f301:=Tryz.func401.trans (congrArg some Zk)
 f328:=Tryz.func402.trans (congrArg some Zk)
 f329:=Tryz.func237.trans (congrArg some Zk)
 f330:=Tryz.func238.trans (congrArg some Zk)
 f331:=Tryz.func403.trans (congrArg some Zk)
 f332:=Tryz.func404.trans (congrArg some Zk)
 f343:=Tryz.func406.trans (congrArg some Zk)
 t0:=Tryz.underlying0
 a0:=Tryz.isAgg0
 z0:=Tryz.sizeOf0
 v0:=Tryz.zeroValue0
 t3:=wbn
 a3:=Tryz.isAgg3
 z3:=Tryz.sizeOf3
 v3:=Tryz.zeroValue3
 t4:=Tryz.underlying4
 a4:=Tryz.isAgg4
 z4:=Tryz.sizeOf4
 v4:=Tryz.zeroValue4
 t5:=Tryz.underlying5
 a5:=Tryz.isAgg5
 z5:=Tryz.sizeOf5
 v5:=Tryz.zeroValue5
 t9:=Tryz.underlying9
 a9:=Tryz.isAgg9
 z9:=Tryz.sizeOf9
 v9:=Tryz.zeroValue9
 t28:=wa9
 a28:=Tryz.isAgg24
 z28:=Tryz.sizeOf24
 v28:=Tryz.zeroValue24
 t46:=Tryz.underlying248
 a46:=Tryz.isAgg248
 z46:=Tryz.sizeOf248
 v46:=Tryz.zeroValue248
 t51:=Tryz.underlying230
 a51:=Tryz.isAgg230
 z51:=Tryz.sizeOf230
 v51:=Tryz.zeroValue230
 t53:=Tryz.underlying40
 a53:=Tryz.isAgg40
 z53:=Tryz.sizeOf40
 v53:=Tryz.zeroValue40
 t131:=Tryz.underlying260
 a131:=Tryz.isAgg260
 z131:=Tryz.sizeOf260
 v131:=Tryz.zeroValue260
 t182:=Tryz.underlying268
 a182:=Tryz.isAgg268
 z182:=Tryz.sizeOf268
 v182:=Tryz.zeroValue268
 t183:=Tryz.underlying269
 a183:=Tryz.isAgg269
 z183:=Tryz.sizeOf269
 v183:=Tryz.zeroValue269
 t218:=Tryz.underlying299
 a218:=Tryz.isAgg299
 z218:=Tryz.sizeOf299
 v218:=Tryz.zeroValue299
 t222:=Tryz.underlying303
 a222:=Tryz.isAgg303
 z222:=Tryz.sizeOf303
 v222:=Tryz.zeroValue303
 t228:=Tryz.underlying330
 a228:=Tryz.isAgg330
 z228:=Tryz.sizeOf330
 v228:=Tryz.zeroValue330
 t229:=Tryz.underlying297
 a229:=Tryz.isAgg297
 z229:=Tryz.sizeOf297
 v229:=Tryz.zeroValue297
end Go.Proofs.YtgjhkafggagniaaGreat
namespace Go.Proofs.YtgjhkafggagniaaGreat
open Go Go.RowKit
open Go.Sort (SWO PermIn SortedIn swp permIn_refl permIn_trans permIn_all permIn_mono swp_permIn size_swp swp_other swp_left swp_right)
structure SortsI (a b:Nat) (d d':Array Int):Prop where
 perm:PermIn a b d d'
 rise:∀i j,a<=i->i<j->j<b->d'[i]! <=d'[j]!
structure PartI (lo:Int->Int->Prop) (d:Array Int) (a b i j:Nat) (e:Array Int):Prop where
 perm:PermIn a b d e
 ai:a<i
 ij:i<=j+1
 jb:j<b
 low:∀k,a<k->k<i->lo e[k]! e[a]!
 high:∀k,j<k->k<b->¬lo e[k]! e[a]!
section
variable {lo:Int->Int->Prop} {d e:Array Int} {a b i j:Nat}
end
structure PartedI (d:Array Int) (a b m:Nat) (e:Array Int):Prop where
 perm:PermIn a b d e
 am:a<=m
 mb:m<b
 low:∀k,a<=k->k<m->e[k]! <e[m]!
 high:∀k,m<k->k<b->e[m]! <=e[k]!
structure AlikeSI (d:Array Int) (a b m:Nat) (e:Array Int):Prop where
 perm:PermIn a b d e
 am:a<m
 mb:m<=b
 low:∀k,a<=k->k<m->e[k]! <=e[a]!
 high:∀k,m<=k->k<b->e[a]! <e[k]!
def SrtI(W:World)(g c:Nat)(d:Array Int):Prop:=∃cur:Array Value,W.heap[g]? =some (.cells cur 3 (0,0))/\cur.size=c/\d.size<=c/\∀t,t<d.size->cur[t]? =some (.int .i64 (d[t]!))
theorem SrtI.lt{W:World}{g c:Nat}{d:Array Int}(h:SrtI W g c d):g<W.heap.size:=by
 obtain⟨cur,hb,-⟩:=h;exact(waj.1 hb).1
theorem SrtI.cell{W:World}{g c:Nat}{d:Array Int}(h:SrtI W g c d)(t:Nat)(ht:t<d.size):W.cell? ⟨g,t,none⟩=some (.int .i64 (d[t]!)):=by
 obtain⟨cur,hb,h1,h2,h3⟩:=h;rw[qab hb,h3 t ht]
theorem SrtI.froz{W:World}{g c:Nat}{d:Array Int}(h:SrtI W g c d)(t:Nat):W.frozen? ⟨g,t,none⟩=false:=by
 obtain⟨cur,hb,-⟩:=h;exact qah hb t
theorem SrtI.drewN{W:World}{g c:Nat}{d:Array Int}(h:SrtI W g c d)(n:Nat):SrtI (W.drewN n) g c d:=h
theorem SrtI.swap{W:World}{g c:Nat}{d:Array Int}(h:SrtI W g c d){i j:Nat}(hi:i<d.size)(hj:j<d.size){x y:Int}(hx:x=(d[j]!))(hy:y=(d[i]!)):SrtI ((W.setCell ⟨g,i,none⟩ (.int .i64 x)).setCell ⟨g,j,none⟩ (.int .i64 y)) g c (swp d i j):=by
 obtain⟨cur,hb,h1,h2,h3⟩:=h;refine⟨_,qaj (qaj hb i _) j _,by simp[h1],by rw[size_swp];exact h2,λt ht=>?_⟩;rw[size_swp] at ht;subst hx hy;by_cases htj:t=j
 ·subst htj
  rw[swp_right _ _ _ ht,wb1 Zx]
 ·rw[wbf (λe=>htj e.symm)]
  by_cases hti:t=i
  ·subst hti
   rw[swp_left _ _ _ ht htj,wb1 Zo]
  ·rw[wbf (λe=>hti e.symm),swp_other _ _ _ _ hti htj]
   exact h3 t ht
theorem SrtI.words{W:World}{g c:Nat}{d:Array Int}(h:SrtI W g c d):∃G:Nat->Int,Hid (∀t,G t=d[t]!)/\(∀t,t<d.size->W.cell? ⟨g,t,none⟩=some (.int .i64 (G t)))/\(∀t,W.frozen? ⟨g,t,none⟩=false):=
 ⟨λt=>d[t]!,waa (λ_=>rfl),h.cell,h.froz⟩
theorem SrtI.swapped{W:World}{g c:Nat}{d:Array Int}(h:SrtI W g c d){i j:Nat}(hi:i<d.size)(hj:j<d.size){x y:Int}(hx:x=(d[j]!))(hy:y=(d[i]!)):SrtI ((W.setCell ⟨g,i,none⟩ (.int .i64 x)).setCell ⟨g,j,none⟩ (.int .i64 y)).drew g c (swp d i j):=h.swap hi hj hx hy
theorem qjq{w W:World}{g:Nat}(h:Below g w W)(i j:Nat)(x y:Value):Below g w ((W.setCell ⟨g,i,none⟩ x).setCell ⟨g,j,none⟩ y).drew:=((h.setCell (p:=⟨g,i,none⟩) (wah _) _).setCell (p:=⟨g,j,none⟩) (wah _) _).drew
structure Sorts (a b:Nat) (d d':Array Nat):Prop where
 perm:PermIn a b d d'
 rise:∀i j,a<=i->i<j->j<b->d'[i]! <=d'[j]!
structure Part (lo:Nat->Nat->Prop) (d:Array Nat) (a b i j:Nat) (e:Array Nat):Prop where
 perm:PermIn a b d e
 ai:a<i
 ij:i<=j+1
 jb:j<b
 low:∀k,a<k->k<i->lo e[k]! e[a]!
 high:∀k,j<k->k<b->¬lo e[k]! e[a]!
section
variable {lo:Nat->Nat->Prop} {d e:Array Nat} {a b i j:Nat}
end
structure Parted (d:Array Nat) (a b m:Nat) (e:Array Nat):Prop where
 perm:PermIn a b d e
 am:a<=m
 mb:m<b
 low:∀k,a<=k->k<m->e[k]! <e[m]!
 high:∀k,m<k->k<b->e[m]! <=e[k]!
structure AlikeS (d:Array Nat) (a b m:Nat) (e:Array Nat):Prop where
 perm:PermIn a b d e
 am:a<m
 mb:m<=b
 low:∀k,a<=k->k<m->e[k]! <=e[a]!
 high:∀k,m<=k->k<b->e[a]! <e[k]!
end Go.Proofs.YtgjhkafggagniaaGreat
namespace Go.Proofs.YtgjhkafggagniaaGreat
open Go Go.RowKit
theorem qv5:({data:=((([0,1,2,2,3,3,3,3,4,4,4,4,4,4,4,4,5,5,5,5,5,5,5,5,5,5,5,5,5,5,5,5,6,6,6,6,6,6,6,6,6,6,6,6,6,6,6,6,6,6,6,6,6,6,6,6,6,6,6,6,6,6,6,6]:List UInt8).append [7,7,7,7,7,7,7,7,7,7,7,7,7,7,7,7,7,7,7,7,7,7,7,7,7,7,7,7,7,7,7,7,7,7,7,7,7,7,7,7,7,7,7,7,7,7,7,7,7,7,7,7,7,7,7,7,7,7,7,7,7,7,7,7]).append (([8,8,8,8,8,8,8,8,8,8,8,8,8,8,8,8,8,8,8,8,8,8,8,8,8,8,8,8,8,8,8,8,8,8,8,8,8,8,8,8,8,8,8,8,8,8,8,8,8,8,8,8,8,8,8,8,8,8,8,8,8,8,8,8]:List UInt8).append [8,8,8,8,8,8,8,8,8,8,8,8,8,8,8,8,8,8,8,8,8,8,8,8,8,8,8,8,8,8,8,8,8,8,8,8,8,8,8,8,8,8,8,8,8,8,8,8,8,8,8,8,8,8,8,8,8,8,8,8,8,8,8,8])).toArray}:ByteArray)=Lib.len8tab:=by kernel_rfl
theorem qqs:∀n:Fin 256,Lib.len8 (n.val:Int)=(Lib.bitLen n.val:Int)/\Lib.bitLen n.val<=8/\(n.val=0\/2 ^ Lib.bitLen n.val<=2*n.val):=by decide+kernel
theorem qpa(x:Nat)(hx:x<256):∃l:Nat,Lib.len8 (x:Int)=(l:Int)/\l<=8/\(x=0\/2 ^ l<=2*x):=⟨_,qqs ⟨x,hx⟩⟩
theorem qf2:(Lib.len8tab.size:Int)=256:=by rw[Lib.len8tab_size];rfl
theorem qo2(y l:Nat)(h:y<Lib.len8tab.size)(hl:Lib.len8 (y:Int)=(l:Int)):((Lib.len8tab[y]'h).toNat:Int)=(l:Int):=by
 rw[<-hl];unfold Lib.len8;rw[wao,getElem?_pos Lib.len8tab y h];rfl
def qk9(x l:Nat):Prop:=l<=16/\(0<x->2 ^ l<=2*x)
theorem quv(x:Nat)(w:World)(hx:x<65536):
  Calls Tryz.prog 198 #[.int .u64 (x:Int)] w λe w'=>∃l:Nat,qk9 x l/\e= .returned (.int .i64 (l:Int))/\w=w':=by
 by_cases h:x<256
 ·obtain⟨l,hl,hl8,hp⟩:=qpa x h
  have hmod:(x:Int)%256=(x:Int):=Zo
  have hpK:=waa hp;have hfin:=waa (show qk9 x l from⟨Zo,λh0=>by rcases hp with hp|hp<;>omega⟩);clear hp;have hlK:=waa hl;have hmodK:=waa hmod;clear hl hmod;have n3:decide ((256:Int)<=(x:Int))=false:=by simp;omega
  have n1:decide ((4294967296:Int)<=(x:Int))=false:=by simp;omega
  have n2:decide ((65536:Int)<=(x:Int))=false:=by simp;omega
  have hsz:=qf2;go_enter Tryz.func198,Tryz.ntmps198;rw[qv5];go_wp2_with fail;go_ret;refine⟨l,hfin.out,qb2 ?_,rfl⟩;have hg:=qo2 x l (by have:=qf2;omega) hlK.out;show wrap64 (wrap64 _)=_
  unfold wrap64;omega
 ·obtain⟨l,hl,hl8,hp⟩:=qpa (x/256) Zo
  have hmod:(x:Int)/256%256=((x/256:Nat):Int):=Zo
  have hfin:=waa (show qk9 x (8+l) from⟨Zo,λh0=>by
   rw[Nat.pow_add];rcases hp with hp|hp<;>omega⟩)
  clear hp;have hlK:=waa hl;have hmodK:=waa hmod;clear hl hmod;have n3:decide ((256:Int)<=(x:Int))=true:=by simp;omega
  have n1:decide ((4294967296:Int)<=(x:Int))=false:=by simp;omega
  have n2:decide ((65536:Int)<=(x:Int))=false:=by simp;omega
  have hsz:=qf2;go_enter Tryz.func198,Tryz.ntmps198;rw[qv5];go_wp2_with fail;go_ret;refine⟨8+l,hfin.out,qb2 ?_,rfl⟩;have hg:=qo2 (x/256) l (by have:=qf2;omega) hlK.out;show wrap64 (8+wrap64 _)=_
  unfold wrap64;omega
end Go.Proofs.YtgjhkafggagniaaGreat
namespace Go.Proofs.YtgjhkafggagniaaGreat
open Go Go.RowKit
open Go.Sort (SWO PermIn SortedIn swp permIn_refl permIn_trans permIn_all permIn_mono swp_permIn size_swp swp_other swp_left swp_right)
theorem q0o(x:Nat)(w:World)(hx:x<65536):
  Calls Tryz.prog 152 #[.int .u64 (x:Int)] w λe w'=>∃l:Nat,qk9 x l/\e= .returned (.int .i64 (l:Int))/\w=w':=by
 have hl:=quv x;go_enter Tryz.func152,Tryz.ntmps152;go_wp2_with (go_at_call 198;refine(hl _ hx).mono ?_;rintro e w' ⟨l,hL,rfl,rfl⟩)
 go_ret;exact⟨l,hL,rfl,rfl⟩
end Go.Proofs.YtgjhkafggagniaaGreat
namespace Go.Proofs.YtgjhkafggagniaaGreat
open Go Go.RowKit
theorem qqa(w:World):Calls Tryz.prog 371 #[.slice none 0 0] w λq w'=>q= .returned (.tuple #[])/\w=w':=by
 have hi:∀W:World,Calls Tryz.prog 393 #[.slice none 0 0,.int .i64 0,.int .i64 0] W λq w'=>q= .returned (.tuple #[])/\W=w':=λW=>by
  go_enter Tryz.func393,Tryz.ntmps393;go_wp2_with fail;go_loopw [6] (λp wr=>W=wr/\p= .int .i64 1) (λ_ _=>0)
  case atStart=>exact⟨rfl,rfl⟩
  case round=>
   obtain⟨rfl,rfl⟩:=hrel;go_wp2_with fail;go_end0
   exact⟨rfl,rfl⟩
 have hp:∀(l:Nat) (W:World),Calls Tryz.prog 390 #[.slice none 0 0,.int .i64 0,.int .i64 0,.int .i64 (l:Int)] W λq w'=>q= .returned (.tuple #[])/\W=w':=λl W=>by
  have hi2:=waa (hi W);clear hi;go_enter Tryz.func390,Tryz.ntmps390;go_wp2_with fail;go_loopw [1,2,3,8,9] (λp1 p2 p3 p8 p9 wr=>W=wr/\p1= .int .i64 0/\p2= .int .i64 0/\p3= .int .i64 (l:Int)/\p8= .bool true/\p9= .bool true) (λ_ _ _ _ _ _=>0)
  case atStart=>exact⟨rfl,rfl,rfl,rfl,rfl,rfl⟩
  case round=>
   obtain⟨rfl,rfl,rfl,rfl,rfl,rfl⟩:=hrel;go_wp2_with (go_at_call 393;refine hi2.out.mono ?_;rintro q w1 ⟨rfl,rfl⟩)
   (try simp only[Exit.inBlock,Exit.then])
   refine bodyPost_ret (results_none rfl _ _ _) rfl ?_;exact⟨rfl,rfl⟩
 have hl:=waa (q0o 0 w Zo);have hpK:=waa hp;clear hp hi;go_enter Tryz.func371,Tryz.ntmps371;go_wp2_with (first
  |(go_at_call 152;refine hl.out.mono ?_;rintro q w' ⟨l,hL,rfl,rfl⟩;have hL16:=hL.1;have hL:=waa hL)
  |(go_at_call 390;refine(hpK.out _ _).mono ?_;rintro q w1 ⟨rfl,rfl⟩))
 go_end0
 exact⟨rfl,rfl⟩
theorem qzu{w:World}{base g cap:Nat}{xs:List Int}{n:Nat}(h:w.ownsRow base 3 1 (.slice (some ⟨g,0,none⟩) n cap) n (i64V xs)):SrtI w g cap xs.toArray/\xs.length=n/\base<=g:=by
 obtain⟨h1,h2⟩:=h;rw[qbi,wbr] at h1;rcases h2 with ⟨e,_⟩|⟨g',c',cur,e,hb,hg,hn,hc,hs,ht⟩
 ·cases e
 injection e with e1 e2 e3;injection e1 with e1;injection e1 with e1;subst e1 e3;refine⟨⟨cur,hg,Zo,by simpa[h1] using hn,λt ht'=>?_⟩,h1,hb⟩;have ht2:t<xs.length:=by simpa using ht'
 have e1:cur[t]? =(i64V xs)[t]?:=by rw[<-ht,waw,if_pos Zo,wbm]
 rw[e1];simp[i64V,ht2]
theorem q0a{w:World}{base g cap k:Nat}{d:Array Int}(h:SrtI w g cap d)(hb:base<=g)(hc:cap<=maxLen)(hk:k<=d.size):w.ownsRow base 3 1 (.slice (some ⟨g,0,none⟩) k cap) k (i64V (d.toList.take k)):=by
 obtain⟨cur,hg,h1,h2,h3⟩:=h;refine⟨by rw[qbi,war,wex];omega,.inr ⟨g,cap,cur,rfl,hb,hg,Zo,hc,Zo,?_⟩⟩;apply wa2
 intro j;rw[waw,wbr];by_cases hj:j<k
 ·rw[if_pos hj,wbm,h3 j Zo]
  simp[i64V,hj,show j<d.size by omega]
 ·rw[if_neg hj]
  symm
  rw[wff,qbi,war];omega
theorem qu4{w:World}{base n:Nat}{v:Value}{xs:List Int}(h:w.ownsRow base 3 1 v n (i64V xs))(hn:n<=60000):
  Calls Tryz.prog 371 #[v] w λq w'=>q= .returned (.tuple #[])/\∃ys,ys.Perm xs/\ys.Pairwise (·<= ·)/\w'.ownsRow base 3 1 v n (i64V ys)/\Below base w w':=by
 rcases h.2 with ⟨rfl,h0⟩|⟨g,cap,cur,rfl,hb,hg,hn1,hc,hs,ht⟩
 ·have hx:xs=[]:=wet (by have:=h.1;rw[qbi] at this;omega)
  subst hx;refine(qqa w).mono ?_;rintro q w' ⟨rfl,rfl⟩;exact⟨rfl,[],.nil,.nil,h,wai _ _⟩
 ·have hl:xs.length=n:=by have:=h.1;rw[qbi,wbr] at this;exact this
  subst hl;rw[wbr] at ht;have hlt:g<w.heap.size:=(waj.1 hg).1;have hsl:(xs.mergeSort λx y=>decide (x<=y)).length=xs.length:=List.length_mergeSort _;have hso:=Any.slices_Sort_int q2k g 0 cap xs w (holds_of_blockI hg ht) hlt Zo;refine Calls.mono (show Calls Tryz.prog 371 _ w _ from hso) ?_;rintro q w' ⟨rfl,k,os,rfl⟩;refine⟨rfl,xs.mergeSort λx y=>decide (x<=y),List.mergeSort_perm _ _,?_,ownsRow_sortedI hsl hb hg hn1 hc hs,(wai base w).grown (grownBy_sortedI _) Zo (λj e=>by injection e with e;omega)⟩;have hp:=List.pairwise_mergeSort (le:=λx y:Int=>decide (x<=y)) (λa b c h1 h2=>by simp at h1 h2 ⊢;omega) (λa b=>by simp;omega) xs;exact hp.imp (λh=>by simpa using h)
def cmpS(P:List Int)(x:Int):List Int:=if P.getLast? =some x then P else P++[x]
def cmpL(xs:List Int):List Int:=xs.foldl cmpS []
theorem qv0(P:List Int)(x:Int):(cmpS P x).getLast? =some x:=by
 unfold cmpS;split
 ·assumption
 ·simp
theorem qxy(P:List Int)(x:Int):P.length<=(cmpS P x).length/\(cmpS P x).length<=P.length+1:=by
 unfold cmpS;split<;>simp
theorem qef{xs:List Int}{j:Nat}{x:Int}(h:xs[j]? =some x):cmpL (xs.take (j+1))=cmpS (cmpL (xs.take j)) x:=by
 unfold cmpL;rw[wbs,h];simp
theorem qm8(xs:List Int):(cmpL xs).length<=xs.length:=by
 unfold cmpL;suffices h:∀P:List Int,(xs.foldl cmpS P).length<=P.length+xs.length by simpa using h []
 induction xs with
 |nil=>intro P;simp
 |cons x r ih=>
  intro P;have h1:=ih (cmpS P x);have h2:=(qxy P x).2;simp only[wey,waz];omega
theorem qxx(xs:List Int)(x:Int):x∈cmpL xs↔x∈xs:=by
 unfold cmpL;suffices h:∀P:List Int,x∈xs.foldl cmpS P↔x∈P\/x∈xs by simpa using h []
 induction xs with
 |nil=>intro P;simp
 |cons y r ih=>
  intro P;rw[wey,ih];have:x∈cmpS P y↔x∈P\/x=y:=by
   unfold cmpS;split
   ·rename_i h
    constructor
    ·exact .inl
    ·rintro(h'|rfl)
     ·exact h'
     ·exact List.mem_of_getLast? h
   ·simp
  rw[this,wa1];constructor
  ·rintro((h|h)|h)
   ·exact .inl h
   ·exact .inr (.inl h)
   ·exact .inr (.inr h)
  ·rintro(h|h|h)
   ·exact .inl (.inl h)
   ·exact .inl (.inr h)
   ·exact .inr h
theorem qty{xs:List Int}(h:xs.Pairwise (·<= ·)):(cmpL xs).Pairwise (·< ·):=by
 unfold cmpL;suffices hh:∀P:List Int,P.Pairwise (·< ·)->(∀a∈P,∀b∈xs,a<=b)->(xs.foldl cmpS P).Pairwise (·< ·) by exact hh [] .nil Zs
 induction xs with
 |nil=>intro P hP _;exact hP
 |cons y r ih=>
  intro P hP hle;obtain⟨h1,h2⟩:=wez.1 h;rw[wey];refine ih h2 _ ?_ ?_
  ·unfold cmpS
   split
   ·exact hP
   ·rename_i hne
    rw[List.pairwise_append];refine⟨hP,by simp,λa ha b hb=>?_⟩;obtain rfl:b=y:=by simpa using hb
    have h3:=hle a ha b Zs;have hab:a≠b:=by
     rintro rfl;apply hne
     rcases List.eq_nil_or_concat P with rfl|⟨L,z,rfl⟩
     ·cases ha
     ·have hz:z<=a:=hle z Zs a Zs
      rcases wbu.1 (by simpa using ha:a∈L++[z]) with hL|hz2
      ·have:=(List.pairwise_append.1 (by simpa using hP:(L++[z]).Pairwise (·< ·))).2.2 a hL z Zs
       omega
      ·obtain rfl:a=z:=by simpa using hz2
       simp
    omega
  ·intro a ha b hb
   rcases(show a∈P\/a=y from by
    unfold cmpS at ha;split at ha
    ·exact .inl ha
    ·simpa using ha) with h3|rfl
   ·exact hle a h3 b (by simp[hb])
   ·exact h1 b hb
end Go.Proofs.YtgjhkafggagniaaGreat
