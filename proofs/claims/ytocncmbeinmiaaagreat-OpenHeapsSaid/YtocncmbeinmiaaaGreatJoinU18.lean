/- Parts. No condition. -/
import Derived.Test.YtocncmbeinmiaaaGreatJoinU01
set_option linter.unusedVariables false
set_option maxRecDepth 100000
set_option maxHeartbeats 8000000
namespace Go.Proofs.YtocncmbeinmiaaaGreat
open Go Go.RowKit
open Go.Sort (SWO PermIn SortedIn swp permIn_refl permIn_trans permIn_all permIn_mono swp_permIn size_swp swp_other swp_left swp_right)
theorem q64(g c a b pv:Nat)(d:Array Nat)(w:World)(h:Srt w g c d)(h1:a<=pv)(h2:pv<b)(hb:b<=d.size)(hn:d.size<=4611686018427387900):
  Calls Tryz.prog 432 #[.slice (some ⟨g,0,none⟩) d.size c,.int .i64 (a:Int),.int .i64 (b:Int),.int .i64 (pv:Int)] w λe w'=>∃(m:Nat) (f:Array Nat) (k:Bool),e= .returned (.tuple #[.int .i64 (m:Int),.bool k])/\Parted d a b m f/\Srt w' g c f/\Below g w w':=by
 obtain⟨N,hN⟩:∃N,d.size=N:=⟨_,rfl⟩
 rw[hN] at hb hn ⊢;have hless:=qe7;obtain⟨G,hG,hc,hf⟩:=h.words;rw[hN] at hc;have c1:=hc a Zo;have c2:=hc pv Zo;have f1:=hf a;have f2:=hf pv;have haN:a<N:=Zo
 have hpN:pv<N:=Zo
 have c3:=Srt.again h a c2;obtain⟨E,hEE⟩:∃E,swp d a pv=E:=⟨_,rfl⟩
 have hE:=waa (show E.size=N from by rw[<-hEE,size_swp];exact hN);have hP0:=waa (show Part (λx p=>x<p) d a b (a+1) (b - 1) E from by rw[<-hEE];exact qmp h1 h2 Zo);have hS0:=waa (λ(x y:Int) (hx:x=((d[pv]! :Nat):Int)) (hy:y=((d[a]! :Nat):Int))=>show Srt ((w.setCell ⟨g,a,none⟩ (.int .u64 x)).setCell ⟨g,pv,none⟩ (.int .u64 y)).drew g c E from by rw[<-hEE];exact h.swapped Zo Zo hx hy);have hB0:=waa (wac g w);have hhm:=waa h;have hNd:=waa hN;clear hc hf hEE h;go_enter Tryz.func432,Tryz.ntmps432;go_wp2_with fail;go_region
 go_upto_region 2 with fail
 go_cut [10,11] (λs t wx=>∃(i j:Nat),s= .int .i64 (i:Int)/\t= .int .i64 (j:Int)/\Hid (Part (λx p=>x<p) d a b i j E)/\a<i/\i<=j+1/\j<b/\Hid (Srt wx g c E)/\Hid (Below g w wx))
 case first=>
  go_wp2_with fail;go_meet
  exact⟨a+1,b - 1,by go_num,by go_num,hP0,Zo,Zo,Zo,waa (hS0.out _ _ (by rw[hG.out]) (by rw[hG.out])),waa (qa4 hB0.out _ _ _ _)⟩
 case rest=>
  obtain⟨i,j,rfl,rfl,hP,hai,hij,hjb,hS,hB⟩:=hcut;clear hP0 hS0 c1 c2 c3 f1 f2 hpN haN hG G;go_upto_block 0 with fail
  go_cut [10] from 30 to 45 (λs wx=>∃q:Nat,s= .int .i64 (q:Int)/\i<=q/\Hid (Part (λx p=>x<p) d a b q j E)/\a<q/\q<=j+1/\j<b/\Hid (q<=j->¬(λx p=>x<p) E[q]! E[a]!)/\Hid (Srt wx g c E)/\Hid (Below g w wx))
  case first=>
   go_wp2_with fail;go_loopg [10] (j+1 - i) (λk s wr=>∃q:Nat,s= .int .i64 (q:Int)/\j+1 - q<=k/\i<=q/\Hid (Part (λx p=>x<p) d a b q j E)/\a<q/\q<=j+1/\j<b/\Hid (Srt wr g c E)/\Hid (Below g w wr))
   case atStart=>exact⟨i,rfl,wab _,wab _,hP,hai,hij,hjb,hS,hB⟩
   case round=>
    clear hP hai hij hS hB hjb;obtain⟨i,rfl,hk,hiq,hP,hai,hij,hjb,hS,hB⟩:=hrel;obtain⟨G,hG,hc,hf⟩:=hS.out.words;rw[hE.out] at hc;have hiN:i<=N:=Zo
    have hjN:j<N:=Zo
    have haN:a<N:=Zo
    by_cases hle:i<=j
    ·have c1:=hc i Zo
     have c2:=hc a Zo;have hiN:i<N:=Zo
     clear hc hf;obtain⟨B,hBv⟩:∃B,ltN (G i) (G a)=B:=⟨_,rfl⟩
     have hl:=waa (λ(W:World)=>show Calls Tryz.prog 430 #[.int .u64 ((G i:Nat):Int),.int .u64 ((G a:Nat):Int)] W λe w'=>e= .returned (.bool B)/\W=w' from by have:=hless (G i) (G a) W;rw[hBv] at this;exact this);have hBv:=waa hBv;go_wp2_with fail;go_quiet (first|(go_at_call 430;exact qau (hl.out _)))
     cases B with
     |true=>
      have hl:(λx p=>x<p) E[i]! E[a]! :=by
       have h2:=hBv.out;rw[hG.out,hG.out] at h2
       first|(have h3:=ltN_yes.1 h2;omega)|(have h3:=ltN_no.1 h2;omega)
      have hP2:=waa (hP.out.up hle hl);go_wp2_with fail;go_roundg (j+1 - (i+1))
      case measure=>omega
      case rel=>exact⟨i+1,by go_num,wab _,Zo,hP2,Zo,Zo,Zo,waa (hS.out.drewN nq),waa (qad hB.out nq)⟩
     |false=>
      have hl:¬(λx p=>x<p) E[i]! E[a]! :=by
       have h2:=hBv.out;rw[hG.out,hG.out] at h2
       first|(have h3:=ltN_yes.1 h2;omega)|(have h3:=ltN_no.1 h2;omega)
      have hl:=waa hl;go_wp2_with fail;go_meet
      exact⟨i,rfl,hiq,hP,hai,hij,hjb,waa (λ_=>hl.out),waa (hS.out.drewN nq),waa (qad hB.out nq)⟩
    ·go_wp2_with fail
     go_quiet (fail)
     go_wp2_with fail;go_meet
     exact⟨i,rfl,hiq,hP,hai,hij,hjb,waa (λh=>absurd h hle),waa (hS.out.drewN nq),waa (qad hB.out nq)⟩
  case rest=>
   clear hP hai hij hS hB hjb;obtain⟨i,rfl,hiq,hP,hai,hij,hjb,hstop,hS,hB⟩:=hcut;go_upto_block 2 with fail
   go_cut [11] from 46 to 62 (λs wx=>∃q:Nat,s= .int .i64 (q:Int)/\q<=j/\Hid (Part (λx p=>x<p) d a b i q E)/\a<i/\i<=q+1/\q<b/\Hid (i<=q->(λx p=>x<p) E[q]! E[a]!)/\Hid (Srt wx g c E)/\Hid (Below g w wx))
   case first=>
    go_wp2_with fail;go_loopg [11] (j+1 - i) (λk s wr=>∃q:Nat,s= .int .i64 (q:Int)/\q+1 - i<=k/\q<=j/\Hid (Part (λx p=>x<p) d a b i q E)/\a<i/\i<=q+1/\q<b/\Hid (Srt wr g c E)/\Hid (Below g w wr))
    case atStart=>exact⟨j,rfl,wab _,wab _,hP,hai,hij,hjb,hS,hB⟩
    case round=>
     clear hP hai hij hS hB hjb;obtain⟨j,rfl,hk,hqj,hP,hai,hij,hjb,hS,hB⟩:=hrel;obtain⟨G,hG,hc,hf⟩:=hS.out.words;rw[hE.out] at hc;have hiN:i<=N:=Zo
     have hjN:j<N:=Zo
     have haN:a<N:=Zo
     by_cases hle:i<=j
     ·have c1:=hc j Zo
      have c2:=hc a Zo;have hiN:i<N:=Zo
      clear hc hf;obtain⟨B,hBv⟩:∃B,ltN (G j) (G a)=B:=⟨_,rfl⟩
      have hl:=waa (λ(W:World)=>show Calls Tryz.prog 430 #[.int .u64 ((G j:Nat):Int),.int .u64 ((G a:Nat):Int)] W λe w'=>e= .returned (.bool B)/\W=w' from by have:=hless (G j) (G a) W;rw[hBv] at this;exact this);have hBv:=waa hBv;go_wp2_with fail;go_quiet (first|(go_at_call 430;exact qau (hl.out _)))
      cases B with
      |false=>
       have hl:¬(λx p=>x<p) E[j]! E[a]! :=by
        have h2:=hBv.out;rw[hG.out,hG.out] at h2
        first|(have h3:=ltN_yes.1 h2;omega)|(have h3:=ltN_no.1 h2;omega)
       have hP2:=waa (hP.out.down hle hl);go_wp2_with fail;go_roundg ((j - 1)+1 - i)
       case measure=>omega
       case rel=>exact⟨j - 1,by go_num,wab _,Zo,hP2,Zo,Zo,Zo,waa (hS.out.drewN nq),waa (qad hB.out nq)⟩
      |true=>
       have hl:(λx p=>x<p) E[j]! E[a]! :=by
        have h2:=hBv.out;rw[hG.out,hG.out] at h2
        first|(have h3:=ltN_yes.1 h2;omega)|(have h3:=ltN_no.1 h2;omega)
       have hl:=waa hl;go_wp2_with fail;go_meet
       exact⟨j,rfl,hqj,hP,hai,hij,hjb,waa (λ_=>hl.out),waa (hS.out.drewN nq),waa (qad hB.out nq)⟩
     ·go_wp2_with fail
      go_quiet (fail)
      go_wp2_with fail;go_meet
      exact⟨j,rfl,hqj,hP,hai,hij,hjb,waa (λh=>absurd h hle),waa (hS.out.drewN nq),waa (qad hB.out nq)⟩
   case rest=>
    clear hP hai hij hS hB hjb;obtain⟨j,rfl,hqj,hP,hai,hij,hjb,hstop2,hS,hB⟩:=hcut;have hstop:=waa (show i<=j->¬(λx p=>x<p) E[i]! E[a]! from λh=>hstop.out Zo);by_cases hgt:j<i
    ·obtain⟨G,hG,hc,hf⟩:=hS.out.words
     rw[hE.out] at hc;have c1:=hc j Zo;have c2:=hc a Zo;have f1:=hf j;have f2:=hf a;have hjN:j<N:=Zo
     have haN:a<N:=Zo
     have c3:=Srt.again hS.out j c2;have hfin:=waa (hP.out.done (by rw[hNd.out];exact hb) hgt);clear hc hf;go_wp2_with fail;go_region
     go_wp2_with fail;go_ret2;exact⟨j,swp E j a,true,rfl,hfin.out,hS.out.swapped (by rw[hE.out];omega) (by rw[hE.out];omega) (by rw[hG.out]) (by rw[hG.out]),qa4 hB.out _ _ _ _⟩
    ·obtain⟨G,hG,hc,hf⟩:=hS.out.words
     rw[hE.out] at hc;have c1:=hc i Zo;have c2:=hc j Zo;have f1:=hf i;have f2:=hf j;have hiN:i<N:=Zo
     have hjN:j<N:=Zo
     have hle:i<=j:=Zo
     have hP2:=waa (hP.out.swap (by rw[hNd.out];exact hb) hle (hstop.out hle) (hstop2.out hle));have hP2b:=hP2.out.ij;have hP2a:=hP2.out.jb;have hE2:=waa (show(swp E i j).size=N from by rw[size_swp];exact hE.out);have hS2:=waa (λ(x y:Int) (hx:x=((E[j]! :Nat):Int)) (hy:y=((E[i]! :Nat):Int))=>hS.out.swapped (i:=i) (j:=j) (by rw[hE.out];omega) (by rw[hE.out];omega) hx hy);clear hc hf hP hstop hstop2;go_wp2_with fail;go_region
     go_wp2_with fail;go_loopg [10,11] (j+1 - i) (λk s t wr=>∃(i j:Nat) (e:Array Nat),s= .int .i64 (i:Int)/\t= .int .i64 (j:Int)/\j+1 - i<=k/\Hid (e.size=N)/\Hid (Part (λx p=>x<p) d a b i j e)/\a<i/\i<=j+1/\j<b/\Hid (Srt wr g c e)/\Hid (Below g w wr))
     case atStart=>exact⟨i+1,j - 1,swp E i j,by go_num,by go_num,Zo,hE2,hP2,Zo,Zo,Zo,waa (hS2.out _ _ (by rw[hG.out]) (by rw[hG.out])),waa (qa4 hB.out _ _ _ _)⟩
     case round=>
      clear hE hS hB hE2 hP2 hS2 hG hai hij hjb hgt hle c1 c2 f1 f2 hiN hjN hP2a hP2b;obtain⟨i,j,e,rfl,rfl,hk,hE,hP,hai,hij,hjb,hS,hB⟩:=hrel;go_upto_block 6 with fail
      go_cut [10] from 99 to 152 (λs wx=>∃q:Nat,s= .int .i64 (q:Int)/\i<=q/\Hid (Part (λx p=>x<p) d a b q j e)/\a<q/\q<=j+1/\j<b/\Hid (q<=j->¬(λx p=>x<p) e[q]! e[a]!)/\Hid (Srt wx g c e)/\Hid (Below g w wx))
      case first=>
       go_wp2_with fail;go_loopg [10] (j+1 - i) (λk s wr=>∃q:Nat,s= .int .i64 (q:Int)/\j+1 - q<=k/\i<=q/\Hid (Part (λx p=>x<p) d a b q j e)/\a<q/\q<=j+1/\j<b/\Hid (Srt wr g c e)/\Hid (Below g w wr))
       case atStart=>exact⟨i,rfl,wab _,wab _,hP,hai,hij,hjb,hS,hB⟩
       case round=>
        clear hP hai hij hS hB hjb;obtain⟨i,rfl,hk,hiq,hP,hai,hij,hjb,hS,hB⟩:=hrel;obtain⟨G,hG,hc,hf⟩:=hS.out.words;rw[hE.out] at hc;have hiN:i<=N:=Zo
        have hjN:j<N:=Zo
        have haN:a<N:=Zo
        by_cases hle:i<=j
        ·have c1:=hc i Zo
         have c2:=hc a Zo;have hiN:i<N:=Zo
         clear hc hf;obtain⟨B,hBv⟩:∃B,ltN (G i) (G a)=B:=⟨_,rfl⟩
         have hl:=waa (λ(W:World)=>show Calls Tryz.prog 430 #[.int .u64 ((G i:Nat):Int),.int .u64 ((G a:Nat):Int)] W λe w'=>e= .returned (.bool B)/\W=w' from by have:=hless (G i) (G a) W;rw[hBv] at this;exact this);have hBv:=waa hBv;go_wp2_with fail;go_quiet (first|(go_at_call 430;exact qau (hl.out _)))
         cases B with
         |true=>
          have hl:(λx p=>x<p) e[i]! e[a]! :=by
           have h2:=hBv.out;rw[hG.out,hG.out] at h2
           first|(have h3:=ltN_yes.1 h2;omega)|(have h3:=ltN_no.1 h2;omega)
          have hP2:=waa (hP.out.up hle hl);go_wp2_with fail;go_roundg (j+1 - (i+1))
          case measure=>omega
          case rel=>exact⟨i+1,by go_num,wab _,Zo,hP2,Zo,Zo,Zo,waa (hS.out.drewN nq),waa (qad hB.out nq)⟩
         |false=>
          have hl:¬(λx p=>x<p) e[i]! e[a]! :=by
           have h2:=hBv.out;rw[hG.out,hG.out] at h2
           first|(have h3:=ltN_yes.1 h2;omega)|(have h3:=ltN_no.1 h2;omega)
          have hl:=waa hl;go_wp2_with fail;go_meet
          exact⟨i,rfl,hiq,hP,hai,hij,hjb,waa (λ_=>hl.out),waa (hS.out.drewN nq),waa (qad hB.out nq)⟩
        ·go_wp2_with fail
         go_quiet (fail)
         go_wp2_with fail;go_meet
         exact⟨i,rfl,hiq,hP,hai,hij,hjb,waa (λh=>absurd h hle),waa (hS.out.drewN nq),waa (qad hB.out nq)⟩
      case rest=>
       clear hP hai hij hS hB hjb;obtain⟨i,rfl,hiq,hP,hai,hij,hjb,hstop,hS,hB⟩:=hcut;go_upto_block 8 with fail
       go_cut [11] from 99 to 152 (λs wx=>∃q:Nat,s= .int .i64 (q:Int)/\q<=j/\Hid (Part (λx p=>x<p) d a b i q e)/\a<i/\i<=q+1/\q<b/\Hid (i<=q->(λx p=>x<p) e[q]! e[a]!)/\Hid (Srt wx g c e)/\Hid (Below g w wx))
       case first=>
        go_wp2_with fail;go_loopg [11] (j+1 - i) (λk s wr=>∃q:Nat,s= .int .i64 (q:Int)/\q+1 - i<=k/\q<=j/\Hid (Part (λx p=>x<p) d a b i q e)/\a<i/\i<=q+1/\q<b/\Hid (Srt wr g c e)/\Hid (Below g w wr))
        case atStart=>exact⟨j,rfl,wab _,wab _,hP,hai,hij,hjb,hS,hB⟩
        case round=>
         clear hP hai hij hS hB hjb;obtain⟨j,rfl,hk,hqj,hP,hai,hij,hjb,hS,hB⟩:=hrel;obtain⟨G,hG,hc,hf⟩:=hS.out.words;rw[hE.out] at hc;have hiN:i<=N:=Zo
         have hjN:j<N:=Zo
         have haN:a<N:=Zo
         by_cases hle:i<=j
         ·have c1:=hc j Zo
          have c2:=hc a Zo;have hiN:i<N:=Zo
          clear hc hf;obtain⟨B,hBv⟩:∃B,ltN (G j) (G a)=B:=⟨_,rfl⟩
          have hl:=waa (λ(W:World)=>show Calls Tryz.prog 430 #[.int .u64 ((G j:Nat):Int),.int .u64 ((G a:Nat):Int)] W λe w'=>e= .returned (.bool B)/\W=w' from by have:=hless (G j) (G a) W;rw[hBv] at this;exact this);have hBv:=waa hBv;go_wp2_with fail;go_quiet (first|(go_at_call 430;exact qau (hl.out _)))
          cases B with
          |false=>
           have hl:¬(λx p=>x<p) e[j]! e[a]! :=by
            have h2:=hBv.out;rw[hG.out,hG.out] at h2
            first|(have h3:=ltN_yes.1 h2;omega)|(have h3:=ltN_no.1 h2;omega)
           have hP2:=waa (hP.out.down hle hl);go_wp2_with fail;go_roundg ((j - 1)+1 - i)
           case measure=>omega
           case rel=>exact⟨j - 1,by go_num,wab _,Zo,hP2,Zo,Zo,Zo,waa (hS.out.drewN nq),waa (qad hB.out nq)⟩
          |true=>
           have hl:(λx p=>x<p) e[j]! e[a]! :=by
            have h2:=hBv.out;rw[hG.out,hG.out] at h2
            first|(have h3:=ltN_yes.1 h2;omega)|(have h3:=ltN_no.1 h2;omega)
           have hl:=waa hl;go_wp2_with fail;go_meet
           exact⟨j,rfl,hqj,hP,hai,hij,hjb,waa (λ_=>hl.out),waa (hS.out.drewN nq),waa (qad hB.out nq)⟩
         ·go_wp2_with fail
          go_quiet (fail)
          go_wp2_with fail;go_meet
          exact⟨j,rfl,hqj,hP,hai,hij,hjb,waa (λh=>absurd h hle),waa (hS.out.drewN nq),waa (qad hB.out nq)⟩
       case rest=>
        clear hP hai hij hS hB hjb;obtain⟨j,rfl,hqj,hP,hai,hij,hjb,hstop2,hS,hB⟩:=hcut;have hstop:=waa (show i<=j->¬(λx p=>x<p) e[i]! e[a]! from λh=>hstop.out Zo);by_cases hgt:j<i
        ·obtain⟨G,hG,hc,hf⟩:=hS.out.words
         rw[hE.out] at hc;have c1:=hc j Zo;have c2:=hc a Zo;have f1:=hf j;have f2:=hf a;have hjN:j<N:=Zo
         have haN:a<N:=Zo
         have c3:=Srt.again hS.out j c2;have hfin:=waa (hP.out.done (by rw[hNd.out];exact hb) hgt);clear hc hf;go_wp2_with fail;go_region
         go_wp2_with fail;go_ret2;exact⟨j,swp e j a,false,rfl,hfin.out,hS.out.swapped (by rw[hE.out];omega) (by rw[hE.out];omega) (by rw[hG.out]) (by rw[hG.out]),qa4 hB.out _ _ _ _⟩
        ·obtain⟨G,hG,hc,hf⟩:=hS.out.words
         rw[hE.out] at hc;have c1:=hc i Zo;have c2:=hc j Zo;have f1:=hf i;have f2:=hf j;have hiN:i<N:=Zo
         have hjN:j<N:=Zo
         have hle:i<=j:=Zo
         have hP2:=waa (hP.out.swap (by rw[hNd.out];exact hb) hle (hstop.out hle) (hstop2.out hle));have hP2b:=hP2.out.ij;have hP2a:=hP2.out.jb;have hE2:=waa (show(swp e i j).size=N from by rw[size_swp];exact hE.out);have hS2:=waa (λ(x y:Int) (hx:x=((e[j]! :Nat):Int)) (hy:y=((e[i]! :Nat):Int))=>hS.out.swapped (i:=i) (j:=j) (by rw[hE.out];omega) (by rw[hE.out];omega) hx hy);clear hc hf hP hstop hstop2;go_wp2_with fail;go_region
         go_wp2_with fail;go_roundg (j - 1+1 - (i+1))
         case measure=>omega
         case rel=>exact⟨i+1,j - 1,swp e i j,by go_num,by go_num,wab _,hE2,hP2,Zo,Zo,Zo,waa (hS2.out _ _ (by rw[hG.out]) (by rw[hG.out])),waa (qa4 hB.out _ _ _ _)⟩
theorem qzu(d:Array Nat){a p:Nat}(ha:a<d.size)(hp:p<d.size):(swp d a p)[a]! =d[p]! :=by
 by_cases h:a=p
 ·subst h;exact swp_right _ _ _ hp
 ·exact swp_left _ _ _ ha h
theorem q76(g c a b pv P:Nat)(d:Array Nat)(w:World)(h:Srt w g c d)(hPv:d[pv]! =P)(h1:a<=pv)(h2:pv<b)(hb:b<=d.size)(hn:d.size<=4611686018427387900):
  Calls Tryz.prog 431 #[.slice (some ⟨g,0,none⟩) d.size c,.int .i64 (a:Int),.int .i64 (b:Int),.int .i64 (pv:Int)] w λe w'=>∃(m:Nat) (f:Array Nat),e= .returned (.int .i64 (m:Int))/\AlikeS d a b m f/\f[a]! =P/\Srt w' g c f/\Below g w w':=by
 obtain⟨N,hN⟩:∃N,d.size=N:=⟨_,rfl⟩
 rw[hN] at hb hn ⊢;have hless:=qe7;obtain⟨G,hG,hc,hf⟩:=h.words;rw[hN] at hc;have c1:=hc a Zo;have c2:=hc pv Zo;have f1:=hf a;have f2:=hf pv;have haN:a<N:=Zo
 have hpN:pv<N:=Zo
 have c3:=Srt.again h a c2;obtain⟨E,hEE⟩:∃E,swp d a pv=E:=⟨_,rfl⟩
 have hE:=waa (show E.size=N from by rw[<-hEE,size_swp];exact hN);have hP0:=waa (show Part (λx p=>x<=p) d a b (a+1) (b - 1) E from by rw[<-hEE];exact qmp h1 h2 Zo);have hS0:=waa (λ(x y:Int) (hx:x=((d[pv]! :Nat):Int)) (hy:y=((d[a]! :Nat):Int))=>show Srt ((w.setCell ⟨g,a,none⟩ (.int .u64 x)).setCell ⟨g,pv,none⟩ (.int .u64 y)).drew g c E from by rw[<-hEE];exact h.swapped Zo Zo hx hy);have hEa:=waa (show E[a]! =P from by rw[<-hEE,<-hPv];exact qzu _ Zo Zo);have hB0:=waa (wac g w);have hhm:=waa h;have hNd:=waa hN;clear hc hf hEE h;clear hPv;go_enter Tryz.func431,Tryz.ntmps431;go_wp2_with fail;go_region
 go_wp2_with fail;go_loopg [9,10] (b - 1+1 - (a+1)) (λk s t wr=>∃(i j:Nat) (e:Array Nat),s= .int .i64 (i:Int)/\t= .int .i64 (j:Int)/\j+1 - i<=k/\Hid (e.size=N)/\Hid (Part (λx p=>x<=p) d a b i j e)/\Hid (e[a]! =P)/\a<i/\i<=j+1/\j<b/\Hid (Srt wr g c e)/\Hid (Below g w wr))
 case atStart=>exact⟨a+1,b - 1,E,by go_num,by go_num,Zo,hE,hP0,hEa,Zo,Zo,Zo,waa (hS0.out _ _ (by rw[hG.out]) (by rw[hG.out])),waa (qa4 hB0.out _ _ _ _)⟩
 case round=>
  clear hE hP0 hS0 hB0 hG c1 c2 c3 f1 f2 hEa;obtain⟨i,j,e,rfl,rfl,hk,hE,hP,hEa,hai,hij,hjb,hS,hB⟩:=hrel;go_upto_block 2 with fail
  go_cut [9] from 29 to 82 (λs wx=>∃q:Nat,s= .int .i64 (q:Int)/\i<=q/\Hid (Part (λx p=>x<=p) d a b q j e)/\a<q/\q<=j+1/\j<b/\Hid (q<=j->¬(λx p=>x<=p) e[q]! e[a]!)/\Hid (Srt wx g c e)/\Hid (Below g w wx))
  case first=>
   go_wp2_with fail;go_loopg [9] (j+1 - i) (λk s wr=>∃q:Nat,s= .int .i64 (q:Int)/\j+1 - q<=k/\i<=q/\Hid (Part (λx p=>x<=p) d a b q j e)/\a<q/\q<=j+1/\j<b/\Hid (Srt wr g c e)/\Hid (Below g w wr))
   case atStart=>exact⟨i,rfl,wab _,wab _,hP,hai,hij,hjb,hS,hB⟩
   case round=>
    clear hP hai hij hS hB hjb;obtain⟨i,rfl,hk,hiq,hP,hai,hij,hjb,hS,hB⟩:=hrel;obtain⟨G,hG,hc,hf⟩:=hS.out.words;rw[hE.out] at hc;have hiN:i<=N:=Zo
    have hjN:j<N:=Zo
    have haN:a<N:=Zo
    by_cases hle:i<=j
    ·have c1:=hc i Zo
     have c2:=hc a Zo;have hiN:i<N:=Zo
     clear hc hf;obtain⟨B,hBv⟩:∃B,ltN (G a) (G i)=B:=⟨_,rfl⟩
     have hl:=waa (λ(W:World)=>show Calls Tryz.prog 430 #[.int .u64 ((G a:Nat):Int),.int .u64 ((G i:Nat):Int)] W λe w'=>e= .returned (.bool B)/\W=w' from by have:=hless (G a) (G i) W;rw[hBv] at this;exact this);have hBv:=waa hBv;go_wp2_with fail;go_quiet (first|(go_at_call 430;exact qau (hl.out _)))
     cases B with
     |false=>
      have hl:(λx p=>x<=p) e[i]! e[a]! :=by
       have h2:=hBv.out;rw[hG.out,hG.out] at h2
       first|(have h3:=ltN_yes.1 h2;omega)|(have h3:=ltN_no.1 h2;omega)
      have hP2:=waa (hP.out.up hle hl);go_wp2_with fail;go_roundg (j+1 - (i+1))
      case measure=>omega
      case rel=>exact⟨i+1,by go_num,wab _,Zo,hP2,Zo,Zo,Zo,waa (hS.out.drewN nq),waa (qad hB.out nq)⟩
     |true=>
      have hl:¬(λx p=>x<=p) e[i]! e[a]! :=by
       have h2:=hBv.out;rw[hG.out,hG.out] at h2
       first|(have h3:=ltN_yes.1 h2;omega)|(have h3:=ltN_no.1 h2;omega)
      have hl:=waa hl;go_wp2_with fail;go_meet
      exact⟨i,rfl,hiq,hP,hai,hij,hjb,waa (λ_=>hl.out),waa (hS.out.drewN nq),waa (qad hB.out nq)⟩
    ·go_wp2_with fail
     go_quiet (fail)
     go_wp2_with fail;go_meet
     exact⟨i,rfl,hiq,hP,hai,hij,hjb,waa (λh=>absurd h hle),waa (hS.out.drewN nq),waa (qad hB.out nq)⟩
  case rest=>
   clear hP hai hij hS hB hjb;obtain⟨i,rfl,hiq,hP,hai,hij,hjb,hstop,hS,hB⟩:=hcut;go_upto_block 4 with fail
   go_cut [10] from 29 to 82 (λs wx=>∃q:Nat,s= .int .i64 (q:Int)/\q<=j/\Hid (Part (λx p=>x<=p) d a b i q e)/\a<i/\i<=q+1/\q<b/\Hid (i<=q->(λx p=>x<=p) e[q]! e[a]!)/\Hid (Srt wx g c e)/\Hid (Below g w wx))
   case first=>
    go_wp2_with fail;go_loopg [10] (j+1 - i) (λk s wr=>∃q:Nat,s= .int .i64 (q:Int)/\q+1 - i<=k/\q<=j/\Hid (Part (λx p=>x<=p) d a b i q e)/\a<i/\i<=q+1/\q<b/\Hid (Srt wr g c e)/\Hid (Below g w wr))
    case atStart=>exact⟨j,rfl,wab _,wab _,hP,hai,hij,hjb,hS,hB⟩
    case round=>
     clear hP hai hij hS hB hjb;obtain⟨j,rfl,hk,hqj,hP,hai,hij,hjb,hS,hB⟩:=hrel;obtain⟨G,hG,hc,hf⟩:=hS.out.words;rw[hE.out] at hc;have hiN:i<=N:=Zo
     have hjN:j<N:=Zo
     have haN:a<N:=Zo
     by_cases hle:i<=j
     ·have c1:=hc j Zo
      have c2:=hc a Zo;have hiN:i<N:=Zo
      clear hc hf;obtain⟨B,hBv⟩:∃B,ltN (G a) (G j)=B:=⟨_,rfl⟩
      have hl:=waa (λ(W:World)=>show Calls Tryz.prog 430 #[.int .u64 ((G a:Nat):Int),.int .u64 ((G j:Nat):Int)] W λe w'=>e= .returned (.bool B)/\W=w' from by have:=hless (G a) (G j) W;rw[hBv] at this;exact this);have hBv:=waa hBv;go_wp2_with fail;go_quiet (first|(go_at_call 430;exact qau (hl.out _)))
      cases B with
      |true=>
       have hl:¬(λx p=>x<=p) e[j]! e[a]! :=by
        have h2:=hBv.out;rw[hG.out,hG.out] at h2
        first|(have h3:=ltN_yes.1 h2;omega)|(have h3:=ltN_no.1 h2;omega)
       have hP2:=waa (hP.out.down hle hl);go_wp2_with fail;go_roundg ((j - 1)+1 - i)
       case measure=>omega
       case rel=>exact⟨j - 1,by go_num,wab _,Zo,hP2,Zo,Zo,Zo,waa (hS.out.drewN nq),waa (qad hB.out nq)⟩
      |false=>
       have hl:(λx p=>x<=p) e[j]! e[a]! :=by
        have h2:=hBv.out;rw[hG.out,hG.out] at h2
        first|(have h3:=ltN_yes.1 h2;omega)|(have h3:=ltN_no.1 h2;omega)
       have hl:=waa hl;go_wp2_with fail;go_meet
       exact⟨j,rfl,hqj,hP,hai,hij,hjb,waa (λ_=>hl.out),waa (hS.out.drewN nq),waa (qad hB.out nq)⟩
     ·go_wp2_with fail
      go_quiet (fail)
      go_wp2_with fail;go_meet
      exact⟨j,rfl,hqj,hP,hai,hij,hjb,waa (λh=>absurd h hle),waa (hS.out.drewN nq),waa (qad hB.out nq)⟩
   case rest=>
    clear hP hai hij hS hB hjb;obtain⟨j,rfl,hqj,hP,hai,hij,hjb,hstop2,hS,hB⟩:=hcut;have hstop:=waa (show i<=j->¬(λx p=>x<=p) e[i]! e[a]! from λh=>hstop.out Zo);by_cases hgt:j<i
    ·have hfin:=waa (hP.out.alike hgt)
     go_wp2_with fail;go_ret;exact⟨i,rfl,e,hfin.out,hEa.out,hS.out,hB.out⟩
    ·obtain⟨G,hG,hc,hf⟩:=hS.out.words
     rw[hE.out] at hc;have c1:=hc i Zo;have c2:=hc j Zo;have f1:=hf i;have f2:=hf j;have hiN:i<N:=Zo
     have hjN:j<N:=Zo
     have hle:i<=j:=Zo
     have hP2:=waa (hP.out.swap (by rw[hNd.out];exact hb) hle (hstop.out hle) (hstop2.out hle));have hP2b:=hP2.out.ij;have hP2a:=hP2.out.jb;have hE2:=waa (show(swp e i j).size=N from by rw[size_swp];exact hE.out);have hEa2:=waa (show(swp e i j)[a]! =P from by rw[swp_other _ _ _ _ Zo Zo];exact hEa.out);have hS2:=waa (λ(x y:Int) (hx:x=((e[j]! :Nat):Int)) (hy:y=((e[i]! :Nat):Int))=>hS.out.swapped (i:=i) (j:=j) (by rw[hE.out];omega) (by rw[hE.out];omega) hx hy);clear hc hf hP hstop hstop2;go_wp2_with fail;go_region
     go_wp2_with fail;go_roundg (j - 1+1 - (i+1))
     case measure=>omega
     case rel=>exact⟨i+1,j - 1,swp e i j,by go_num,by go_num,wab _,hE2,hP2,hEa2,Zo,Zo,Zo,waa (hS2.out _ _ (by rw[hG.out]) (by rw[hG.out])),waa (qa4 hB.out _ _ _ _)⟩
end Go.Proofs.YtocncmbeinmiaaaGreat
