/- Parts. No condition. -/
import Derived.Lib.Tables
import Derived.Lib.BitFns
import Derived.Deep.CutBlock
import Derived.Deep.DeepCutAuto
import Derived.Laws.Closers25b
import Derived.Laws.Bits64b
import Derived.Deep.LoopGhost
import Derived.Laws.ShiftsVarLaws
import Derived.Test.YtocncmbeinmiaaaGreatJoinU00
set_option linter.unusedVariables false
set_option maxRecDepth 100000
set_option maxHeartbeats 8000000
namespace Go.Proofs.YtocncmbeinmiaaaGreat
open Go Go.RowKit
open Go.Sort (SWO PermIn SortedIn swp permIn_refl permIn_trans permIn_all permIn_mono swp_permIn size_swp swp_other swp_left swp_right)
def Srt(W:World)(g c:Nat)(d:Array Nat):Prop:=∃cur:Array Value,W.heap[g]? =some (.cells cur 27 (0,0))/\cur.size=c/\d.size<=c/\∀t,t<d.size->cur[t]? =some (.int .u64 ((d[t]! :Nat):Int))
theorem Srt.lt{W:World}{g c:Nat}{d:Array Nat}(h:Srt W g c d):g<W.heap.size:=by
 obtain⟨cur,hb,-⟩:=h;exact(wal.1 hb).1
theorem Srt.cell{W:World}{g c:Nat}{d:Array Nat}(h:Srt W g c d)(t:Nat)(ht:t<d.size):W.cell? ⟨g,t,none⟩=some (.int .u64 ((d[t]! :Nat):Int)):=by
 obtain⟨cur,hb,h1,h2,h3⟩:=h;rw[qaa hb,h3 t ht]
theorem Srt.froz{W:World}{g c:Nat}{d:Array Nat}(h:Srt W g c d)(t:Nat):W.frozen? ⟨g,t,none⟩=false:=by
 obtain⟨cur,hb,-⟩:=h;exact qaj hb t
theorem Srt.below{W W':World}{g c B:Nat}{d:Array Nat}(h:Srt W g c d)(hb:Below B W W')(hg:g<B):Srt W' g c d:=by
 obtain⟨cur,h0,r⟩:=h;exact⟨cur,(hb.block g hg).trans h0,r⟩
theorem Srt.drewN{W:World}{g c:Nat}{d:Array Nat}(h:Srt W g c d)(n:Nat):Srt (W.drewN n) g c d:=h
theorem Srt.alloc{W:World}{g c:Nat}{d:Array Nat}(h:Srt W g c d)(o:Obj):Srt (W.alloc o) g c d:=h.below ((wac _ W).alloc (wab _) o) h.lt
theorem Srt.swap{W:World}{g c:Nat}{d:Array Nat}(h:Srt W g c d){i j:Nat}(hi:i<d.size)(hj:j<d.size){x y:Int}(hx:x=((d[j]! :Nat):Int))(hy:y=((d[i]! :Nat):Int)):Srt ((W.setCell ⟨g,i,none⟩ (.int .u64 x)).setCell ⟨g,j,none⟩ (.int .u64 y)) g c (swp d i j):=by
 obtain⟨cur,hb,h1,h2,h3⟩:=h;refine⟨_,qah (qah hb i _) j _,by simp[h1],by rw[size_swp];exact h2,λt ht=>?_⟩;rw[size_swp] at ht;subst hx hy;by_cases htj:t=j
 ·subst htj
  rw[swp_right _ _ _ ht,wct Zx]
 ·rw[wbw (λe=>htj e.symm)]
  by_cases hti:t=i
  ·subst hti
   rw[swp_left _ _ _ ht htj,wct Zo]
  ·rw[wbw (λe=>hti e.symm),swp_other _ _ _ _ hti htj]
   exact h3 t ht
theorem Srt.words{W:World}{g c:Nat}{d:Array Nat}(h:Srt W g c d):∃G:Nat->Nat,Hid (∀t,G t=d[t]!)/\(∀t,t<d.size->W.cell? ⟨g,t,none⟩=some (.int .u64 ((G t:Nat):Int)))/\(∀t,W.frozen? ⟨g,t,none⟩=false):=
 ⟨λt=>d[t]!,waa (λ_=>rfl),h.cell,h.froz⟩
theorem Srt.swapped{W:World}{g c:Nat}{d:Array Nat}(h:Srt W g c d){i j:Nat}(hi:i<d.size)(hj:j<d.size){x y:Int}(hx:x=((d[j]! :Nat):Int))(hy:y=((d[i]! :Nat):Int)):Srt ((W.setCell ⟨g,i,none⟩ (.int .u64 x)).setCell ⟨g,j,none⟩ (.int .u64 y)).drew g c (swp d i j):=h.swap hi hj hx hy
theorem qa4{w W:World}{g:Nat}(h:Below g w W)(i j:Nat)(x y:Value):Below g w ((W.setCell ⟨g,i,none⟩ x).setCell ⟨g,j,none⟩ y).drew:=((h.setCell (p:=⟨g,i,none⟩) (wab _) _).setCell (p:=⟨g,j,none⟩) (wab _) _).drew
theorem Srt.again{W:World}{g c:Nat}{d:Array Nat}(h:Srt W g c d)(i:Nat){j:Nat}{v:Value}(hv:W.cell? ⟨g,j,none⟩=some v):(W.setCell ⟨g,i,none⟩ v).cell? ⟨g,j,none⟩=some v:=by
 obtain⟨cur,hb,h1,h2,h3⟩:=h;rw[qaa hb] at hv;rw[qaa (qah hb i v)];obtain⟨hj,hjv⟩:=wal.1 hv;by_cases hij:i=j
 ·subst hij
  exact wct hj
 ·rw[wbw hij]
  exact hv
theorem qe7(x y:Nat)(w:World):Calls Tryz.prog 430 #[.int .u64 (x:Int),.int .u64 (y:Int)] w λe w'=>e= .returned (.bool (ltN x y))/\w=w':=by
 have hnan:∀(z:Nat) (W:World),Calls Tryz.prog 437 #[.int .u64 (z:Int)] W λe w'=>e= .returned (.bool false)/\W=w':=by
  intro z W;go_enter Tryz.func437,Tryz.ntmps437;go_wp2_with fail;go_ret;exact⟨rfl,rfl⟩
 have hn1:=hnan x;have hn2:=hnan y;rw[show ltN x y=decide (x<y) from rfl];clear hnan;go_enter Tryz.func430,Tryz.ntmps430;go_wp2_with (go_at_call 437;refine(hn1 _).mono ?_;rintro e w' ⟨rfl,rfl⟩)
 go_ret;exact⟨rfl,rfl⟩
theorem q8k(g c a b:Nat)(d:Array Nat)(w:World)(h:Srt w g c d)(hab:a<=b)(hb:b<=d.size)(hn:d.size<=4611686018427387900):
  Calls Tryz.prog 428 #[.slice (some ⟨g,0,none⟩) d.size c,.int .i64 (a:Int),.int .i64 (b:Int)] w λe w'=>e= .returned (.tuple #[])/\∃d',PermIn a b d d'/\Srt w' g c d'/\Below g w w':=by
 obtain⟨N,hN⟩:∃N,d.size=N:=⟨_,rfl⟩
 rw[hN] at hb hn ⊢;have hlt:=h.lt;go_enter Tryz.func428,Tryz.ntmps428;go_wp2_with fail;go_loopw [6,7] (λp q wr=>∃(i:Nat) (j:Int) (e:Array Nat),p= .int .i64 (i:Int)/\q= .int .i64 j/\a<=i/\i<=b/\-1<=j/\j<b/\Hid (PermIn a b d e)/\Hid (Srt wr g c e)/\Hid (Below g w wr)) (λp q _=>(intOf q+1).toNat)
 case atStart=>exact⟨a,(b:Int) - 1,d,rfl,rfl,wab _,hab,Zo,Zo,waa (permIn_refl _ _ _),waa h,waa (wac _ _)⟩
 case round=>
  obtain⟨i,j,e,rfl,rfl,hi,hib,hj0,hjb,hP,hS,hB⟩:=hrel;have hes:e.size=N:=hP.out.1.trans hN;by_cases hlt:(i:Int)<j
  ·obtain⟨jn,rfl⟩:∃jn:Nat,j=(jn:Int):=⟨j.toNat,Zo⟩
   obtain⟨G,hG,hc,hf⟩:=hS.out.words;rw[hes] at hc;have c1:=hc i Zo;have c2:=hc jn Zo;have f1:=hf i;have f2:=hf jn;have hin:i<N:=Zo
   have hjn:jn<N:=Zo
   clear hc hf;go_wp2_with fail;go_region
   all_goals go_wp2_with fail
   go_roundw
   case rel=>exact⟨i+1,(jn:Int) - 1,swp e i jn,by go_num,rfl,Zo,Zo,Zo,Zo,waa (permIn_trans _ _ _ _ _ hP.out (swp_permIn e a b i jn hi Zo Zo Zo Zo)),waa (hS.out.swapped Zo Zo (by rw[hG.out]) (by rw[hG.out])),waa (qa4 hB.out _ _ _ _)⟩
   case measure=>(simp[intOf];try omega)
  ·go_wp2_with fail
   go_end0
   exact⟨rfl,e,hP.out,hS.out,hB.out⟩
theorem q9j(g c a b:Nat)(d:Array Nat)(w:World)(h:Srt w g c d)(hab:a<=b)(hb:b<=d.size)(hn:d.size<=4611686018427387900):
  Calls Tryz.prog 424 #[.slice (some ⟨g,0,none⟩) d.size c,.int .i64 (a:Int),.int .i64 (b:Int)] w λe w'=>e= .returned (.tuple #[])/\Srt w' g c (Go.Sort.insertionSort ltN d a b)/\Below g w w':=by
 obtain⟨N,hN⟩:∃N,d.size=N:=⟨_,rfl⟩
 rw[hN] at hb hn ⊢;have hless:=qe7;go_enter Tryz.func424,Tryz.ntmps424;go_wp2_with fail;go_loopw [6] (λp wr=>∃(i:Nat) (e:Array Nat),p= .int .i64 (i:Int)/\a<i/\i<=b+1/\Hid (e.size=N)/\Hid (Srt wr g c e)/\Hid (Below g w wr)/\Hid (Go.Sort.insOuter ltN a b i e=Go.Sort.insOuter ltN a b (a+1) d)) (λp _=>b+1 - (intOf p).toNat)
 case atStart=>exact⟨a+1,d,by go_num,Zo,Zo,waa hN,waa h,waa (wac _ _),waa rfl⟩
 case round=>
  obtain⟨i,e,rfl,hai,hib,hes,hS,hB,hO⟩:=hrel;by_cases hlt:i<b
  ·go_wp2_with fail
   go_loopw [7] (λp wr2=>∃(j:Nat) (f:Array Nat),p= .int .i64 (j:Int)/\a<=j/\j<=i/\Hid (f.size=N)/\Hid (Srt wr2 g c f)/\Hid (Below g w wr2)/\Hid (Go.Sort.insInner ltN a j f=Go.Sort.insInner ltN a i e)) (λp _=>(intOf p).toNat)
   case atStart=>exact⟨i,e,rfl,Zo,wab _,hes,hS,hB,waa rfl⟩
   case round=>
    obtain⟨j,f,rfl,haj,hji,hfs,hS2,hB2,hI⟩:=hrel;have hout:=waa (λ(hs:j<=a\/ltN f[j]! f[j - 1]! =false)=>show Go.Sort.insOuter ltN a b (i+1) f=Go.Sort.insOuter ltN a b (a+1) d from by
     have h1:Go.Sort.insInner ltN a j f=f:=by
      cases j with
      |zero=>rfl
      |succ k=>
       rw[Go.Sort.insInner];rcases hs with hs|hs
       ·rw[if_neg];simp;omega
       ·rw[if_neg];simp only[wgr] at hs;simp[hs]
     rw[<-hO.out,<-h1,hI.out];conv=>rhs;rw[Go.Sort.insOuter,if_pos hlt])
    clear hO;obtain⟨G,hG,hc,hf⟩:=hS2.out.words;rw[hfs.out] at hc;have hjN:j<N:=Zo
    by_cases hja:a<j
    ·have c1:=hc j Zo
     have c2:=hc (j - 1) Zo;have f1:=hf j;have f2:=hf (j - 1);have hj1:j - 1<N:=Zo
     clear hc hf;obtain⟨B,hBv⟩:∃B,ltN (G j) (G (j - 1))=B:=⟨_,rfl⟩
     have hl:=waa (λ(W:World)=>show Calls Tryz.prog 430 #[.int .u64 ((G j:Nat):Int),.int .u64 ((G (j - 1):Nat):Int)] W λe w'=>e= .returned (.bool B)/\W=w' from by have:=hless (G j) (G (j - 1)) W;rw[hBv] at this;exact this);have hBv:=waa hBv;go_wp2_with fail;go_quiet (first|(go_at_call 430;exact qau (hl.out _)))
     cases B with
     |true=>
      go_wp2_with fail;go_region
      all_goals go_wp2_with fail
      go_roundw
      case rel=>
       refine⟨j - 1,swp f j (j - 1),by go_num,Zo,Zo,waa (by rw[size_swp];exact hfs.out),waa ((hS2.out.drewN nq).swapped (by rw[hfs.out];exact hjN) (by rw[hfs.out];exact hj1) (by rw[hG.out]) (by rw[hG.out])),waa (qa4 (qad hB2.out nq) _ _ _ _),waa ?_⟩;rw[<-hI.out];obtain⟨k,rfl⟩:∃k,j=k+1:=⟨j - 1,Zo⟩
       conv=>rhs;rw[Go.Sort.insInner]
       rw[if_pos]
       ·rfl
       ·have h2:=hBv.out
        rw[hG.out,hG.out] at h2;simp only[wgr] at h2;simp[h2];omega
      case measure=>simp[intOf];omega
     |false=>
      go_wp2_with fail;go_roundw
      case rel=>exact⟨i+1,f,by go_num,Zo,Zo,hfs,waa (hS2.out.drewN nq),waa (qad hB2.out nq),waa (hout.out (.inr (by rw[<-hG.out,<-hG.out];exact hBv.out)))⟩
      case measure=>simp[intOf];omega
    ·go_wp2_with fail
     go_quiet (fail)
     go_wp2_with fail;go_roundw
     case rel=>exact⟨i+1,f,by go_num,Zo,Zo,hfs,waa (hS2.out.drewN nq),waa (qad hB2.out nq),waa (hout.out (.inl Zo))⟩
     case measure=>simp[intOf];omega
  ·have hO2:=waa (show Go.Sort.insertionSort ltN d a b=e from by
    unfold Go.Sort.insertionSort;rw[<-hO.out,Go.Sort.insOuter,if_neg hlt])
   clear hO;go_wp2_with fail;go_end0
   exact⟨rfl,by rw[hO2.out];exact hS.out,hB.out⟩
end Go.Proofs.YtocncmbeinmiaaaGreat
namespace Go.Proofs.YtocncmbeinmiaaaGreat
open Go Go.RowKit
theorem q2l:({data:=((([0,1,2,2,3,3,3,3,4,4,4,4,4,4,4,4,5,5,5,5,5,5,5,5,5,5,5,5,5,5,5,5,6,6,6,6,6,6,6,6,6,6,6,6,6,6,6,6,6,6,6,6,6,6,6,6,6,6,6,6,6,6,6,6]:List UInt8).append [7,7,7,7,7,7,7,7,7,7,7,7,7,7,7,7,7,7,7,7,7,7,7,7,7,7,7,7,7,7,7,7,7,7,7,7,7,7,7,7,7,7,7,7,7,7,7,7,7,7,7,7,7,7,7,7,7,7,7,7,7,7,7,7]).append (([8,8,8,8,8,8,8,8,8,8,8,8,8,8,8,8,8,8,8,8,8,8,8,8,8,8,8,8,8,8,8,8,8,8,8,8,8,8,8,8,8,8,8,8,8,8,8,8,8,8,8,8,8,8,8,8,8,8,8,8,8,8,8,8]:List UInt8).append [8,8,8,8,8,8,8,8,8,8,8,8,8,8,8,8,8,8,8,8,8,8,8,8,8,8,8,8,8,8,8,8,8,8,8,8,8,8,8,8,8,8,8,8,8,8,8,8,8,8,8,8,8,8,8,8,8,8,8,8,8,8,8,8])).toArray}:ByteArray)=Lib.len8tab:=by kernel_rfl
theorem qyf:∀n:Fin 256,Lib.len8 (n.val:Int)=(Lib.bitLen n.val:Int)/\Lib.bitLen n.val<=8/\(n.val=0\/2 ^ Lib.bitLen n.val<=2*n.val):=by decide+kernel
theorem qxc(x:Nat)(hx:x<256):∃l:Nat,Lib.len8 (x:Int)=(l:Int)/\l<=8/\(x=0\/2 ^ l<=2*x):=⟨_,qyf ⟨x,hx⟩⟩
theorem qil:(Lib.len8tab.size:Int)=256:=by rw[Lib.len8tab_size];rfl
theorem qwb(y l:Nat)(h:y<Lib.len8tab.size)(hl:Lib.len8 (y:Int)=(l:Int)):((Lib.len8tab[y]'h).toNat:Int)=(l:Int):=by
 rw[<-hl];unfold Lib.len8;rw[wam,getElem?_pos Lib.len8tab y h];rfl
def qq4(x l:Nat):Prop:=l<=16/\(0<x->2 ^ l<=2*x)
theorem q17(x:Nat)(w:World)(hx:x<65536):
  Calls Tryz.prog 399 #[.int .u64 (x:Int)] w λe w'=>∃l:Nat,qq4 x l/\e= .returned (.int .i64 (l:Int))/\w=w':=by
 by_cases h:x<256
 ·obtain⟨l,hl,hl8,hp⟩:=qxc x h
  have hmod:(x:Int)%256=(x:Int):=Zo
  have hpK:=waa hp;have hfin:=waa (show qq4 x l from⟨Zo,λh0=>by rcases hp with hp|hp<;>omega⟩);clear hp;have hlK:=waa hl;have hmodK:=waa hmod;clear hl hmod;have n3:decide ((256:Int)<=(x:Int))=false:=by simp;omega
  have n1:decide ((4294967296:Int)<=(x:Int))=false:=by simp;omega
  have n2:decide ((65536:Int)<=(x:Int))=false:=by simp;omega
  have hsz:=qil;go_enter Tryz.func399,Tryz.ntmps399;rw[q2l];go_wp2_with fail;go_ret;refine⟨l,hfin.out,qbz ?_,rfl⟩;have hg:=qwb x l (by have:=qil;omega) hlK.out;show wrap64 (wrap64 _)=_
  unfold wrap64;omega
 ·obtain⟨l,hl,hl8,hp⟩:=qxc (x/256) Zo
  have hmod:(x:Int)/256%256=((x/256:Nat):Int):=Zo
  have hfin:=waa (show qq4 x (8+l) from⟨Zo,λh0=>by
   rw[Nat.pow_add];rcases hp with hp|hp<;>omega⟩)
  clear hp;have hlK:=waa hl;have hmodK:=waa hmod;clear hl hmod;have n3:decide ((256:Int)<=(x:Int))=true:=by simp;omega
  have n1:decide ((4294967296:Int)<=(x:Int))=false:=by simp;omega
  have n2:decide ((65536:Int)<=(x:Int))=false:=by simp;omega
  have hsz:=qil;go_enter Tryz.func399,Tryz.ntmps399;rw[q2l];go_wp2_with fail;go_ret;refine⟨8+l,hfin.out,qbz ?_,rfl⟩;have hg:=qwb (x/256) l (by have:=qil;omega) hlK.out;show wrap64 (8+wrap64 _)=_
  unfold wrap64;omega
end Go.Proofs.YtocncmbeinmiaaaGreat
namespace Go.Proofs.YtocncmbeinmiaaaGreat
open Go Go.RowKit
open Go.Sort (SWO PermIn SortedIn swp permIn_refl permIn_trans permIn_all permIn_mono swp_permIn size_swp swp_other swp_left swp_right)
theorem qkz(x:Nat)(w:World)(hx:x<65536):
  Calls Tryz.prog 353 #[.int .u64 (x:Int)] w λe w'=>∃l:Nat,qq4 x l/\e= .returned (.int .i64 (l:Int))/\w=w':=by
 have hl:=q17 x;go_enter Tryz.func353,Tryz.ntmps353;go_wp2_with (go_at_call 399;refine(hl _ hx).mono ?_;rintro e w' ⟨l,hL,rfl,rfl⟩)
 go_ret;exact⟨l,hL,rfl,rfl⟩
theorem q9h(x:Nat)(w:World)(h0:0<x)(hx:x<65536):
  Calls Tryz.prog 417 #[.int .i64 (x:Int)] w λe w'=>∃m:Nat,(1<=m/\m<=2*x)/\e= .returned (.int .u64 (m:Int))/\w=w':=by
 have hl:=waa (λW=>qkz x W hx);go_enter Tryz.func417,Tryz.ntmps417;go_wp2_with (go_at_call 353;refine(hl.out _).mono ?_;rintro e w' ⟨l,hL,rfl,rfl⟩;have hL:=waa hL)
 go_ret;have hl16:l<=16:=hL.out.1;refine⟨2 ^ l,⟨Nat.one_le_two_pow,hL.out.2 h0⟩,qb9 ?_,rfl⟩;show IntKind.u64.wrap (2 ^ min l 64)=_
 rw[wgs Zo,q6s Zo]
theorem qoe(a b:Int):∃q:Nat,bits BinOp.xor IntKind.u64 a b=(q:Int)/\q<18446744073709551616:=by
 have h:=bits_within BinOp.xor IntKind.u64 a b;have h1:IntKind.u64.min=0:=rfl;have h2:IntKind.u64.max=18446744073709551615:=rfl;rw[h1,h2] at h;exact⟨(bits BinOp.xor IntKind.u64 a b).toNat,Zo,Zo⟩
theorem q7x(b r:Nat)(w:World)(h:w.heap[b]? =some (.cells #[.int .u64 (r:Int)] 393 (0,0)))(hr:r<18446744073709551616):
  Calls Tryz.prog 418 #[.pointer (some ⟨b,0,none⟩)] w λe w'=>∃q:Nat,e= .returned (.int .u64 (q:Int))/\q<18446744073709551616/\w'.heap[b]? =some (.cells #[.int .u64 (q:Int)] 393 (0,0))/\Below b w w':=by
 have c0:=qaa h 0;have f0:=qaj h 0;simp only[wcs,List.getElem?_cons_zero] at c0;obtain⟨q1,e1,hq1⟩:=qoe (r:Int) (IntKind.u64.wrap ((r:Int)*8192))
 obtain⟨q2,e2,hq2⟩:=qoe (q1:Int) ((q1:Int)/128)
 obtain⟨q3,e3,hq3⟩:=qoe (q2:Int) (IntKind.u64.wrap ((q2:Int)*131072))
 have hK:=waa h;clear h;go_enter Tryz.func418,Tryz.ntmps418;go_wp2_with fail;go_region
 go_wp2_with fail;go_region
 go_wp2_with fail;go_region
 have hb3:(((w.setCell ⟨b,0,none⟩ (.int .u64 (q1:Int))).setCell ⟨b,0,none⟩ (.int .u64 (q2:Int))).setCell ⟨b,0,none⟩ (.int .u64 (q3:Int))).drew.drew.drew.heap[b]? =some (.cells #[.int .u64 (q3:Int)] 393 (0,0)):=qah (qah (qah hK.out 0 _) 0 _) 0 _;have hB3:Below b w (((w.setCell ⟨b,0,none⟩ (.int .u64 (q1:Int))).setCell ⟨b,0,none⟩ (.int .u64 (q2:Int))).setCell ⟨b,0,none⟩ (.int .u64 (q3:Int))).drew.drew.drew:=((((((wac b w).setCell (p:=⟨b,0,none⟩) (wab _) _).setCell (p:=⟨b,0,none⟩) (wab _) _).setCell (p:=⟨b,0,none⟩) (wab _) _).drew).drew).drew;generalize (((w.setCell ⟨b,0,none⟩ (.int .u64 (q1:Int))).setCell ⟨b,0,none⟩ (.int .u64 (q2:Int))).setCell ⟨b,0,none⟩ (.int .u64 (q3:Int))).drew.drew.drew=W3 at hb3 hB3 ⊢;have c3:=qaa hb3 0;simp only[wcs,List.getElem?_cons_zero] at c3;have hb3:=waa hb3;have hB3:=waa hB3;go_wp2_with fail;go_ret;exact⟨q3,rfl,hq3,hb3.out,hB3.out⟩
theorem q6l(g c a b:Nat)(d:Array Nat)(w:World)(h:Srt w g c d)(hab:a<=b)(hb:b<=d.size)(hn:d.size<=60000):
  Calls Tryz.prog 426 #[.slice (some ⟨g,0,none⟩) d.size c,.int .i64 (a:Int),.int .i64 (b:Int)] w λe w'=>e= .returned (.tuple #[])/\∃d',PermIn a b d d'/\Srt w' g c d'/\Below g w w':=by
 obtain⟨N,hN⟩:∃N,d.size=N:=⟨_,rfl⟩
 rw[hN] at hb hn ⊢;obtain⟨n,hnn⟩:∃n,n=b - a:=⟨_,rfl⟩
 have hnI:(b:Int) - (a:Int)=(n:Int):=Zo
 have han:a+n<=N:=Zo
 have habn:=waa (show b=a+n from by omega);have hNK:=waa hN;have hK:=waa h;have hgw:=h.lt;have hpow:=waa (λW (h8:0<n)=>q9h n W h8 Zo);clear hN h hnn hab hb;by_cases h8:8<=n
 ·have hsh:=waa (show Srt (w.alloc (.cells #[.int .u64 (n:Int)] 393)) g c d from hK.out.alloc _)
  have hbx:=waa (World.alloc_heap_new w (.cells #[.int .u64 (n:Int)] 393));have hB0:=waa (show Below g w (w.alloc (.cells #[.int .u64 (n:Int)] 393)) from(wac g w).alloc Zo _);obtain⟨I0,hI0⟩:∃I0:Nat,I0=a+n/4*2:=⟨_,rfl⟩
  have hI:(a:Int)+(n:Int)/4*2=(I0:Int):=Zo
  have hI1:a+4<=I0:=Zo
  have hI2:I0+1<a+n:=Zo
  clear hI0;have hnx:=waa (λ(W:World) (r:Nat) (hb:W.heap[w.heap.size]? =some (.cells #[.int .u64 (r:Int)] 393 (0,0))) (hr:r<18446744073709551616)=>q7x w.heap.size r W hb hr);have hwr:IntKind.u64.wrap (n:Int)=(n:Int):=by rw[wa5];omega
  go_enter Tryz.func426,Tryz.ntmps426;go_wp2_with (go_at_call 417;refine(hpow.out _ Zo).mono ?_;rintro e w' ⟨m,⟨hm1,hm2⟩,rfl,rfl⟩)
  go_loopg [9] 3 (λk s wr=>∃(t r:Nat) (e:Array Nat),s= .int .i64 (t:Int)/\I0+2 - t<=k/\I0<=t+1/\t<=I0+2/\r<18446744073709551616/\Hid (e.size=N)/\Hid (wr.heap[w.heap.size]? =some (.cells #[.int .u64 (r:Int)] 393 (0,0)))/\Hid (PermIn a b d e)/\Hid (Srt wr g c e)/\Hid (Below g w wr))
  case atStart=>exact⟨I0 - 1,n,d,by go_num,Zo,Zo,Zo,Zo,hNK,hbx,waa (permIn_refl _ _ _),hsh,hB0⟩
  case round=>
   clear hsh hbx hB0;obtain⟨t,r,e,rfl,hk,ht0,ht1,hr,hE,hX,hP,hS,hB⟩:=hrel;by_cases hle:t<=I0+1
   ·have hc1:=waa (hnx.out wr r hX.out hr)
    obtain⟨m1,hm1I⟩:∃m1:Nat,Hid (m=m1+1):=⟨m - 1,waa Zo⟩
    have hm1:(m:Int) - 1=(m1:Int):=by have:=hm1I.out;omega
    have hm1b:m1<2*n:=by have:=hm1I.out;omega
    have hle2:(t:Int)<=(I0:Int)+1:=Zo
    go_upto_if 43 with (go_at_call 418;refine hc1.out.mono ?_;rintro e' w1 ⟨q,rfl,hq,hX2,hBx⟩;have hX2:=waa hX2;have hBx:=waa hBx;obtain⟨o,ho,hom⟩:∃o:Nat,bits .and .u64 (q:Int) (m1:Int)=(o:Int)/\o<=m1:=⟨q&&&m1,bits_and_u64_nat q m1 hq Zo,Nat.and_le_right⟩)
    have hS2:=waa (hS.out.below hBx.out hgw);have hB2:=waa (show Below g w w1 from hB.out.trans (hBx.out.mono Zo));have hX:=hX2;by_cases hno:n<=o
    ·have hnoI:(n:Int)<=(o:Int):=Zo
     obtain⟨p2,hp2⟩:∃p:Nat,Hid (p=a+(o - n)):=⟨_,waa rfl⟩
     have q2:(a:Int)+((o:Int) - (n:Int))=(p2:Int):=by have:=hp2.out;omega
     obtain⟨G,hG,hc,hf⟩:=hS2.out.words;rw[hE.out] at hc;have r1:t<N:=Zo
     have r2:p2<N:=by have:=hp2.out;omega
     have k1:=hc t r1;have k2:=hc p2 r2;have f1:=hf t;have f2:=hf p2;have c3:=Srt.again hS2.out t k2;have hS3:=waa (hS2.out.swapped (i:=t) (j:=p2) (x:=((G p2:Nat):Int)) (y:=((G t:Nat):Int)) (by rw[hE.out];omega) (by rw[hE.out];omega) (by rw[hG.out]) (by rw[hG.out]));have hB3:=waa (qa4 hB2.out t p2 (.int .u64 ((G p2:Nat):Int)) (.int .u64 ((G t:Nat):Int)));have hX3:=waa (show((w1.setCell ⟨g,t,none⟩ (.int .u64 ((G p2:Nat):Int))).setCell ⟨g,p2,none⟩ (.int .u64 ((G t:Nat):Int))).drew.heap[w.heap.size]? =some (.cells #[.int .u64 (q:Int)] 393 (0,0)) from(wat _ _ _ _ Zx).trans ((wat _ _ _ _ Zx).trans hX.out));have hP2:=waa (permIn_trans _ _ _ _ _ hP.out (swp_permIn e a b t p2 Zo (by have:=habn.out;omega) (by have:=hp2.out;omega) (by have:=habn.out;have:=hp2.out;omega) (by rw[hE.out];have:=habn.out;omega)));clear hc hf;go_wp2_with fail;go_region
     go_wp2_with fail;go_roundg (I0+2 - (t+1))
     case measure=>omega
     case rel=>exact⟨t+1,q,swp e t p2,by go_num,wab _,Zo,Zo,hq,waa (by rw[size_swp];exact hE.out),hX3,hP2,hS3,hB3⟩
    ·have hnoI:¬(n:Int)<=(o:Int):=Zo
     obtain⟨p2,hp2⟩:∃p:Nat,Hid (p=a+(o)):=⟨_,waa rfl⟩
     have q2:(a:Int)+(o:Int)=(p2:Int):=by have:=hp2.out;omega
     obtain⟨G,hG,hc,hf⟩:=hS2.out.words;rw[hE.out] at hc;have r1:t<N:=Zo
     have r2:p2<N:=by have:=hp2.out;omega
     have k1:=hc t r1;have k2:=hc p2 r2;have f1:=hf t;have f2:=hf p2;have c3:=Srt.again hS2.out t k2;have hS3:=waa (hS2.out.swapped (i:=t) (j:=p2) (x:=((G p2:Nat):Int)) (y:=((G t:Nat):Int)) (by rw[hE.out];omega) (by rw[hE.out];omega) (by rw[hG.out]) (by rw[hG.out]));have hB3:=waa (qa4 hB2.out t p2 (.int .u64 ((G p2:Nat):Int)) (.int .u64 ((G t:Nat):Int)));have hX3:=waa (show((w1.setCell ⟨g,t,none⟩ (.int .u64 ((G p2:Nat):Int))).setCell ⟨g,p2,none⟩ (.int .u64 ((G t:Nat):Int))).drew.heap[w.heap.size]? =some (.cells #[.int .u64 (q:Int)] 393 (0,0)) from(wat _ _ _ _ Zx).trans ((wat _ _ _ _ Zx).trans hX.out));have hP2:=waa (permIn_trans _ _ _ _ _ hP.out (swp_permIn e a b t p2 Zo (by have:=habn.out;omega) (by have:=hp2.out;omega) (by have:=habn.out;have:=hp2.out;omega) (by rw[hE.out];have:=habn.out;omega)));clear hc hf;go_wp2_with fail;go_region
     go_wp2_with fail;go_roundg (I0+2 - (t+1))
     case measure=>omega
     case rel=>exact⟨t+1,q,swp e t p2,by go_num,wab _,Zo,Zo,hq,waa (by rw[size_swp];exact hE.out),hX3,hP2,hS3,hB3⟩
   ·go_wp2_with fail
    go_end0
    exact⟨rfl,e,hP.out,hS.out,hB.out⟩
 ·go_enter Tryz.func426,Tryz.ntmps426
  go_wp2_with fail;go_end0
  exact⟨rfl,d,permIn_refl _ _ _,hK.out,wac _ _⟩
end Go.Proofs.YtocncmbeinmiaaaGreat
namespace Go.Proofs.YtocncmbeinmiaaaGreat
open Go Go.RowKit
theorem qcz{w:World}{base n:Nat}{e:TypeId}{v:Value}{xs:List Value}(h:w.ownsRow base e 1 v n xs):∃A cap,v= .slice A n cap/\n<=cap/\Rd w A n xs:=by
 obtain⟨A,cap,rfl,hR⟩:=Rd.of_own h;rcases h.2 with ⟨h1,h2⟩|⟨g,cap',cur,h1,_,_,hn,_⟩
 ·injection h1 with _ _ h3
  exact⟨A,cap,rfl,Zo,hR⟩
 ·injection h1 with _ _ h3
  exact⟨A,cap,rfl,Zo,hR⟩
theorem qhm{W:World}{b1 b2 s1 s2 n1 n2:Nat}{e1 e2:TypeId}{u v:Value}{xs ys:List Value}(h1:W.ownsRow b1 e1 s1 u n1 xs)(h2:W.ownsRow b2 e2 s2 v n2 ys)(hne:e1≠e2):u.ownBlock=none\/u.ownBlock≠v.ownBlock:=by
 rcases h1.2 with ⟨rfl,_⟩|⟨g,cap,cur,rfl,_,hg,_⟩
 ·exact .inl rfl
 ·exact .inr (λe=>qaz hg hne h2 (by rw[<-e];rfl))
theorem qbn{W:World}{a b:Nat}{C C':Array Value}{t t':TypeId}{fr fr':Nat×Nat}(h:W.heap[a]? =some (.cells C t fr))(h':W.heap[b]? =some (.cells C' t' fr'))(hne:t≠t'):a≠b:=λe=>by
 subst e;rw[h] at h';injection h' with h';injection h' with h1 h2;exact hne h2
end Go.Proofs.YtocncmbeinmiaaaGreat
namespace Go.Proofs.YtocncmbeinmiaaaGreat
open Go
def half(x:Nat):Nat:=if x%2=1 then(x/2) ^^^ 3988292384 else x/2
def qcx:Nat->Nat->Nat
 |0,x=>x
 |n+1,x=>qcx n (half x)
def addB(x b:Nat):Nat:=qcx 8 (x ^^^ b)
def sumL:Nat->List Nat->Nat
 |x,[]=>x
 |x,b::l=>sumL (addB x b) l
def crcB(l:List Nat):Nat:=4294967295 - sumL 4294967295 l
def qf8:Nat->Nat->List Nat
 |0,_=>[]
 |n+1,x=>x%256::qf8 n (x/256)
def qcp(ws:List Nat):List Nat:=ws.flatMap (qf8 8)
def crcW(ws:List Nat):Nat:=crcB (qcp ws)
def qbo(ws:List Nat):Nat:=9223372036854775808+ws.length%2147483648*4294967296+crcW ws
theorem qmc{x:Nat}(h:x%2=1):half x=(x/2) ^^^ 3988292384:=by unfold half;rw[if_pos h]
theorem qjy{x:Nat}(h:x%2=0):half x=x/2:=by unfold half;rw[if_neg Zo]
theorem qla{x:Nat}(h:x<4294967296):half x<4294967296:=by
 unfold half;split
 ·exact wfc (n:=32) Zo Zo
 ·omega
theorem qru{n x:Nat}(h:x<4294967296):qcx n x<4294967296:=by
 induction n generalizing x with
 |zero=>exact h
 |succ n ih=>exact ih (qla h)
theorem qle{x b:Nat}(h:x<4294967296)(hb:b<256):x ^^^ b<4294967296:=wfc (n:=32) Zo Zo
theorem qaau{x b:Nat}(h:x<4294967296)(hb:b<256):addB x b<4294967296:=qru (qle h hb)
theorem qaaq(l:List Nat):crcB l<4294967296:=by unfold crcB;omega
theorem qf0(l:List Nat):crcW l<4294967296:=qaaq _
theorem q5w(l:List Nat):qbo l<18446744073709551616:=by unfold qbo;have:=qf0 l;have:=wcn l.length (show 2147483648>0 by omega);omega
theorem qts{x:Nat}(h:x<4294967296):x ^^^ 4294967295=4294967295 - x:=by
 apply wdy
 intro k;have h1:=whk (n:=32) (x:=x) h k;have e:2 ^ 32 - (x+1)=4294967295 - x:=Zo
 rw[e] at h1;rw[h1,wdj,show(4294967295:Nat)=2 ^ 32 - 1 from rfl,whl];by_cases hk:k<32
 ·simp[hk]
 ·have:x.testBit k=false:=weq (waw h (wc1 (n:=2) Zo (by omega:32<=k)))
  simp[hk,this]
theorem q0y(n x:Nat):∀b∈qf8 n x,b<256:=by
 induction n generalizing x with
 |zero=>intro b hb;cases hb
 |succ n ih=>
  intro b hb;rcases wbg.1 hb with rfl|hb
  ·exact wcn _ Zo
  ·exact ih _ b hb
theorem q7a(ws:List Nat):∀b∈qcp ws,b<256:=by
 intro b hb;obtain⟨v,_,hv⟩:=wdk.1 hb;exact q0y 8 v b hv
theorem q0v:qcp []=[]:=rfl
theorem qnt(v:Nat)(ws:List Nat):qcp (v::ws)=qf8 8 v++qcp ws:=by simp[qcp]
theorem qsy(v t:Nat):(v ^^^ t)/2=v/2 ^^^ t/2:=by
 apply wdy
 intro k;rw[wdj,show(2:Nat)=2 ^ 1 from rfl,wer,wer,wer,wdj]
theorem q8w(v t:Nat):(v ^^^ t)%2=(v%2+t%2)%2:=by
 have:=Nat.xor_mod_two_pow (a:=v) (b:=t) (n:=1)
 rw[show(2:Nat) ^ 1=2 from rfl] at this;rw[this];rcases(by omega:v%2=0\/v%2=1) with h|h<;>rcases(by omega:t%2=0\/t%2=1) with g|g<;>rw[h,g]<;>rfl
theorem qqo(x:Nat){y:Nat}(hy:y%2=0):half (x ^^^ y)=half x ^^^ y/2:=by
 have hm:=q8w x y;rcases(by omega:x%2=0\/x%2=1) with h|h
 ·rw[qjy h,qjy Zo,qsy]
 ·rw[qmc h,qmc Zo,qsy,Nat.xor_assoc,Nat.xor_assoc,Nat.xor_comm (y/2)]
theorem q03(n x q:Nat):qcx n (x ^^^ (2 ^ n*q))=qcx n x ^^^ q:=by
 induction n generalizing x with
 |zero=>simp[qcx]
 |succ n ih=>
  show qcx n (half (x ^^^ (2 ^ (n+1)*q)))=qcx n (half x) ^^^ q
  have e:2 ^ (n+1)*q=2*(2 ^ n*q):=by rw[Nat.pow_succ,wfd (2 ^ n) 2,Nat.mul_assoc]
  rw[qqo x (by rw[e];exact Nat.mul_mod_right _ _),e,Nat.mul_div_cancel_left _ Zo,ih]
theorem q4u(x b:Nat)(hb:b<256):addB x b=x/256 ^^^ qcx 8 (x%256 ^^^ b):=by
 unfold addB;have e:x ^^^ b=(x%256 ^^^ b) ^^^ (2 ^ 8*(x/256)):=by
  apply wdy
  intro k;rw[wdj,wdj,wdj,show(256:Nat)=2 ^ 8 from rfl,Nat.testBit_mod_two_pow,Nat.testBit_two_pow_mul,wer];by_cases hk:k<8
  ·simp[hk,Nat.not_le.2 hk]
  ·have h8:8<=k:=Zo
   have hz:b.testBit k=false:=weq (waw hb (wc1 (n:=2) Zo h8));simp[hk,h8,hz,Nat.sub_add_cancel h8]
 rw[e,q03,Nat.xor_comm]
theorem qaba{x b:Nat}(hb:b<256):qcx 8 (x%256 ^^^ b)<4294967296:=
 qru (waw (wfc (n:=8) (wcn _ Zo) hb) Zo)
end Go.Proofs.YtocncmbeinmiaaaGreat
namespace Go.Proofs.YtocncmbeinmiaaaGreat
open Go Go.RowKit
def entB(e:Int×Nat):Bool:=decide (0<=e.1/\e.1<=16383)
def logB(l:List (Int×Nat)):Bool:=decide (1<=l.length)&&decide (l.length<=16)&&l.all entB
def qbe:Nat->List (Int×Nat)->List Nat
 |_,[]=>[]
 |k,e::r=>(e.1.toNat+4294967296*k)::e.2::qbe (k+1) r
def qa2:List Nat->List (Int×Nat)
 |a::x::r=>(((a%4294967296:Nat):Int),x)::qa2 r
 |_=>[]
def logW(l:List (Int×Nat)):List Nat:=if logB l=true then qbe 0 l else[]
def qiz(l:List (Int×Nat)):Nat:=if logB l=true then qbo (qbe 0 l) else 0
def qa9(s:Nat):Nat:=s/4294967296%2147483648
def okF:Nat->List Nat->Bool
 |k,a::_::r=>decide (a/4294967296=k)&&okF (k+1) r
 |_,_=>true
def qe2(ws:List Nat):Bool:=logB (qa2 ws)&&decide (qbe 0 (qa2 ws)=ws)
def qbh(s:Nat)(ws:List Nat):Option (List (Int×Nat)):=
 if s=0 then some [] else if qa9 s<=ws.length/\qa9 s<=32/\qe2 (ws.take (qa9 s))=true/\qbo (ws.take (qa9 s))=s then some (qa2 (ws.take (qa9 s))) else none
theorem logB_iff{l:List (Int×Nat)}:logB l=true↔1<=l.length/\l.length<=16/\l.all entB=true:=by
 unfold logB;simp[and_assoc]
theorem entB_iff{e:Int×Nat}:entB e=true↔0<=e.1/\e.1<=16383:=by unfold entB;simp
theorem qgu(k:Nat)(l:List (Int×Nat)):(qbe k l).length=2*l.length:=by
 induction l generalizing k with
 |nil=>rfl
 |cons e r ih=>simp only[qbe,way,ih];omega
theorem q8m{l:List (Int×Nat)}{k:Nat}(h:l.all entB=true)(hx:∀e∈l,e.2<18446744073709551616)(hk:k+l.length<=4294967296):∀v∈qbe k l,v<18446744073709551616:=by
 induction l generalizing k with
 |nil=>intro v hv;cases hv
 |cons e r ih=>
  rw[wdc,wce,entB_iff] at h;rw[way] at hk;intro v hv;rw[qbe] at hv;rcases wbg.1 hv with rfl|hv
  ·omega
  ·rcases wbg.1 hv with rfl|hv
   ·exact hx e (wfe ..)
   ·exact ih h.2 (λf hf=>hx f (wes _ hf)) Zo v hv
theorem qgf(ws:List Nat):qbh 0 ws=some []:=by unfold qbh;rw[if_pos rfl]
theorem qk3{s:Nat}{ws:List Nat}{l:List (Int×Nat)}(h0:s≠0)(h:qbh s ws=some l):logB l=true/\ws.take (qa9 s)=qbe 0 l/\qbo (qbe 0 l)=s/\qa9 s=2*l.length/\qa9 s<=ws.length:=by
 unfold qbh at h;rw[if_neg h0] at h;split at h
 ·rename_i c
  obtain⟨c1,c2,c3,c4⟩:=c;obtain rfl:=wco h;unfold qe2 at c3;rw[wce,decide_eq_true_eq] at c3;refine⟨c3.1,c3.2.symm,by rw[c3.2];exact c4,?_,c1⟩;have:=qgu 0 (qa2 (ws.take (qa9 s)))
  rw[c3.2,war] at this;omega
 ·cases h
theorem q6o{s:Nat}{ws:List Nat}(h0:s≠0)(h:ws.length<qa9 s\/32<qa9 s):qbh s ws=none:=by
 unfold qbh;rw[if_neg h0,if_neg (λc=>by omega)]
theorem q4r{s:Nat}{ws:List Nat}(h0:s≠0)(h1:qa9 s<=ws.length)(h2:qa9 s<=32)(hg:qe2 (ws.take (qa9 s))=true)(hs:qbo (ws.take (qa9 s))=s):qbh s ws=some (qa2 (ws.take (qa9 s))):=by
 unfold qbh;rw[if_neg h0,if_pos ⟨h1,h2,hg,hs⟩]
theorem qsn{s:Nat}{ws:List Nat}(h0:s≠0)(h:¬(qe2 (ws.take (qa9 s))=true/\qbo (ws.take (qa9 s))=s)):qbh s ws=none:=by
 unfold qbh;rw[if_neg h0,if_neg (λc=>h c.2.2)]
theorem qlv{ws:List Nat}(h:∀b∈ws,b<18446744073709551616):∀e∈qa2 ws,e.2<18446744073709551616:=by
 match ws with
 |[]=>intro e he;cases he
 |[a]=>intro e he;simp[qa2] at he
 |a::x::r=>
  intro e he;rw[qa2] at he;rcases wbg.1 he with rfl|he
  ·exact h x Zs
  ·exact qlv (λb hb=>h b (by simp[hb])) e he
theorem qlu(ws:List Nat):(qa2 ws).length=ws.length/2:=by
 match ws with
 |[]=>rfl
 |[a]=>simp[qa2]
 |a::x::r=>rw[qa2,way,qlu r];simp only[way];omega
theorem qkj{ws r:List Nat}{j a x:Nat}(h:ws.drop (2*j)=a::x::r):qa2 (ws.take (2*(j+1)))=qa2 (ws.take (2*j))++[(((a%4294967296:Nat):Int),x)]/\ws.drop (2*(j+1))=r:=by
 induction j generalizing ws with
 |zero=>
  rw[Nat.mul_zero,wgt] at h;subst h;exact⟨rfl,rfl⟩
 |succ k ih=>
  match ws with
  |[]=>rw[List.drop_nil] at h;cases h
  |[b]=>rw[show 2*(k+1)=2*k+1+1 by omega,wet,List.drop_nil] at h;cases h
  |b::y::t=>
   rw[show 2*(k+1)=2*k+1+1 by omega,wet,wet] at h;obtain⟨i1,i2⟩:=ih h;rw[show 2*(k+1+1)=2*(k+1)+1+1 by omega,wcf,wcf,qa2,i1,wet,wet,i2,show 2*(k+1)=2*k+1+1 by omega,wcf,wcf,qa2];exact⟨rfl,rfl⟩
theorem qt7(ws:List Nat):qa2 (ws.take (2*(ws.length/2)))=qa2 ws:=by
 match ws with
 |[]=>rfl
 |[a]=>simp[qa2]
 |a::x::r=>
  have e:2*((a::x::r).length/2)=2*(r.length/2)+1+1:=by simp only[way];omega
  rw[e,wcf,wcf,qa2,qa2,qt7 r]
theorem qrv{ws:List Nat}{j:Nat}(h:2*j+1<ws.length):∃a x,ws[2*j]? =some a/\ws[2*j+1]? =some x/\ws.drop (2*j)=a::x::ws.drop (2*(j+1)):=by
 refine⟨ws[2*j],ws[2*j+1],waj Zo,waj h,?_⟩;rw[wbc (show 2*j<ws.length by omega),wbc h,show 2*j+1+1=2*(j+1) by omega]
theorem qzh{l t:List (Int×Nat)}{j:Nat}{e:Int×Nat}{out:List Nat}{g:Nat}(h:out++qbe j (l.drop j)=qbe g l)(hd:l.drop j=e::t)(ht:l.drop (j+1)=t):(out++[e.1.toNat+4294967296*j,e.2])++qbe (j+1) (l.drop (j+1))=qbe g l:=by
 rw[<-h,hd,ht,qbe];simp
end Go.Proofs.YtocncmbeinmiaaaGreat
namespace Go.Proofs.YtocncmbeinmiaaaGreat
open Go
def only(i:Int):Nat:=if i<0\/64<=i then 0 else 2 ^ i.toNat
def hasB(m:Nat)(i:Int):Bool:=decide (0<=i/\i<64)&&m.testBit i.toNat
def qcy(m:Nat)(i:Int):Nat:=m|||only i
def qacv(n:Int):Nat:=2 ^ (min (max n 0) 64).toNat - 1
theorem qir{k:Nat}(h:k<64):2 ^ k<18446744073709551616:=Nat.pow_lt_pow_of_lt (a:=2) (n:=k) (m:=64) Zo h
theorem qob(i:Int):only i<18446744073709551616:=by
 unfold only;split
 ·omega
 ·exact qir Zo
theorem ql9{i:Int}(h:i<0\/64<=i):only i=0:=by unfold only;rw[if_pos h]
theorem qh7{i:Int}(h0:0<=i)(h:i<64):only i=2 ^ i.toNat:=by unfold only;rw[if_neg Zo]
theorem qtu(m:Nat){k:Nat}(h:k<64):hasB m (k:Int)=m.testBit k:=by
 unfold hasB;rw[decide_eq_true (by omega:(0:Int)<=k/\(k:Int)<64)];simp
theorem ql2(m:Nat){i:Int}(h:i<0\/64<=i):hasB m i=false:=by
 unfold hasB;rw[decide_eq_false Zo];rfl
theorem qom(m:Nat){i:Int}(h0:0<=i)(h:i<64):hasB m i=m.testBit i.toNat:=by
 unfold hasB;rw[decide_eq_true ⟨h0,h⟩];rfl
theorem q7y(m:Nat)(i:Int):(m&&&only i !=0)=hasB m i:=by
 by_cases h:i<0\/64<=i
 ·rw[ql9 h,ql2 m h];simp
 ·rw[qom m Zo Zo,qh7 Zo Zo,nat_bit,wgu]
  have hp:0<2 ^ i.toNat:=weu _;have h2:m/2 ^ i.toNat%2=0\/m/2 ^ i.toNat%2=1:=Zo
  rcases h2 with h2|h2
  ·rw[h2];simp
  ·rw[h2];simp
theorem qr4(x:Nat)(hx:x<18446744073709551616)(k:Nat):(18446744073709551615 - x).testBit k=(decide (k<64)&&!x.testBit k):=by
 have:=whk (n:=64) (x:=x) hx k
 have e:2 ^ 64 - (x+1)=18446744073709551615 - x:=Zo
 rw[e] at this;exact this
theorem qyj(m x:Nat)(hm:m<18446744073709551616)(hx:x<18446744073709551616)(k:Nat):(m&&&(18446744073709551615 - x)).testBit k=(m.testBit k&&!x.testBit k):=by
 rw[Nat.testBit_and,qr4 x hx];by_cases h:k<64
 ·simp[h]
 ·have:m.testBit k=false:=weq (waw hm (wc1 (n:=2) Zo (by omega:64<=k)))
  simp[this]
theorem qsx(m:Nat)(hm:m<18446744073709551616)(i:Int):qcy m i<18446744073709551616:=
 Nat.or_lt_two_pow (n:=64) hm (qob i)
def qac4(m:Nat)(n:Int):Nat:=qacv n&&&(18446744073709551615 - m)
end Go.Proofs.YtocncmbeinmiaaaGreat
namespace Go.Proofs.YtocncmbeinmiaaaGreat
open Go Go.RowKit
theorem q4y{i:Int}(h0:0<=i)(h:i<64):IntKind.u64.wrap ((2:Int) ^ i.toNat)=(only i:Int):=by
 have hl:=qir (k:=i.toNat) Zo;have e:((2:Int) ^ i.toNat)=((2 ^ i.toNat:Nat):Int):=by simp
 rw[qh7 h0 h,wa5,e];generalize 2 ^ i.toNat=y at hl ⊢;omega
theorem qrt(i:Int)(w:World)(h0:-9223372036854775808<=i)(h1:i<=9223372036854775807):
  Calls Tryz.prog 105 #[.int .i64 i] w λe w'=>e= .returned (.int .u64 (only i:Nat))/\w=w':=by
 by_cases hi:i<0
 ·go_enter Tryz.func105,Tryz.ntmps105
  go_wp2
  go_ret;exact⟨qb9 (by rw[ql9 (.inl hi)];rfl),rfl⟩
 ·by_cases hj:i<64
  ·go_enter Tryz.func105,Tryz.ntmps105
   go_wp2
   go_ret;exact⟨qb9 (q4y hi hj),rfl⟩
  ·go_enter Tryz.func105,Tryz.ntmps105
   go_wp2
   go_ret;exact⟨qb9 (by rw[ql9 (.inr hj)];rfl),rfl⟩
theorem qw9(m:Nat)(i:Int)(w:World)(hm:m<18446744073709551616)(h0:-9223372036854775808<=i)(h1:i<=9223372036854775807):
  Calls Tryz.prog 66 #[.int .u64 (m:Int),.int .i64 i] w λe w'=>e= .returned (.bool (hasB m i))/\w=w':=by
 have hl:=qob i;go_enter Tryz.func66,Tryz.ntmps66;go_wp2_with (go_at_call 105;refine(qrt _ _ h0 h1).mono ?_;rintro e w' ⟨rfl,rfl⟩)
 go_ret;refine⟨qab ?_,rfl⟩;rw[u64_and_nat m _ hm hl,<-q7y];by_cases e:m&&&only i=0
 ·rw[e];rfl
 ·have h:((m&&&only i:Nat):Int)≠0:=Zo
  rw[bne_iff_ne.2 h,bne_iff_ne.2 e]
theorem q60(m:Nat)(i:Int)(w:World)(hm:m<18446744073709551616)(h0:-9223372036854775808<=i)(h1:i<=9223372036854775807):
  Calls Tryz.prog 308 #[.int .u64 (m:Int),.int .i64 i] w λe w'=>e= .returned (.int .u64 (qcy m i:Nat))/\w=w':=by
 have hl:=qob i;go_enter Tryz.func308,Tryz.ntmps308;go_wp2_with (go_at_call 105;refine(qrt _ _ h0 h1).mono ?_;rintro e w' ⟨rfl,rfl⟩)
 go_ret;exact⟨qb9 (by rw[u64_or_nat m _ hm hl];rfl),rfl⟩
theorem qre(m j:Nat):m/2 ^ j/2=m/2 ^ (j+1):=by rw[Nat.div_div_eq_div_mul,Nat.pow_succ]
theorem q6n(m n:Nat)(w:World)(hm:m<18446744073709551616)(hn:n<64):
  Calls Tryz.prog 95 #[.int .u64 (m:Int),.int .i64 (n:Int)] w λe w'=>e= .returned (.bool (hasB m n))/\w=w':=by
 go_enter Tryz.func95,Tryz.ntmps95;go_wp2
 go_loop [0,5] (λx k=>∃j y:Nat,j<=n/\Hid (y=m/2 ^ j)/\y<18446744073709551616/\k= .int .i64 j/\x= .int .u64 y) (λ_ k=>n - (intOf k).toNat)
 case atStart=>exact⟨0,m,wau _,waa Zs,hm,rfl,rfl⟩
 case round=>
  obtain⟨j,y,hj,hy,hl,rfl,rfl⟩:=hrel;by_cases hlt:j<n
  ·go_wp2
   go_round
   case rel=>exact⟨j+1,y/2,Zo,waa (by rw[hy.out,qre]),Zo,by go_num,by go_num⟩
   case measure=>simp[intOf];omega
  ·have e:j=n:=Zo
   have e':=waa e;clear e;go_wp2
   go_ret;refine⟨qab ?_,rfl⟩;rw[qtu m hn,wgu,<-e'.out,<-hy.out];apply wb8.2
   simp
   omega
theorem qjk(m:Nat)(i:Int)(w:World)(hm:m<18446744073709551616)(h0:-9223372036854775808<=i)(h1:i<=9223372036854775807):
  Calls Tryz.prog 95 #[.int .u64 (m:Int),.int .i64 i] w λe w'=>e= .returned (.bool (hasB m i))/\w=w':=by
 by_cases hi:i<0
 ·go_enter Tryz.func95,Tryz.ntmps95
  go_wp2
  go_ret;exact⟨qab (by rw[ql2 m (.inl hi)]),rfl⟩
 ·by_cases hj:i<64
  ·obtain⟨n,rfl⟩:=waz (by omega:0<=i)
   exact q6n m n w hm Zo
  ·go_enter Tryz.func95,Tryz.ntmps95
   go_wp2
   go_ret;exact⟨qab (by rw[ql2 m (.inr Zo)]),rfl⟩
end Go.Proofs.YtocncmbeinmiaaaGreat
