/- Parts. No condition. -/
import Derived.RangeFuncKeeps
import Derived.Sort.MapsRangeIn
import Derived.Lib.SlKeysI
import Derived.Test.YtocncmbeinmiaaaGreatJoinU18
import Derived.Test.YtocncmbeinmiaaaGreatJoinU19
import Derived.Test.YtocncmbeinmiaaaGreatJoinU17
set_option linter.unusedVariables false
set_option maxRecDepth 100000
set_option maxHeartbeats 8000000
namespace Go.Proofs.YtocncmbeinmiaaaGreat
open Go Go.RowKit
open Go.Sort (SWO PermIn SortedIn swp permIn_refl permIn_trans permIn_all permIn_mono swp_permIn size_swp swp_other swp_left swp_right)
def Rest(a b:Nat)(d:Array Nat)(a' b':Nat)(e:Array Nat):Prop:=∀f,Sorts a' b' e f->Sorts a b d f
theorem Rest.perm{a b a' b':Nat}{d e e2:Array Nat}(h:Rest a b d a' b' e)(hp:PermIn a' b' e e2):Rest a b d a' b' e2:=λf hf=>h f (hf.perm_left hp)
theorem Rest.alike{a b a' b' m:Nat}{d e f:Array Nat}(h:Rest a b d a' b' e)(hb:b'<=e.size)(hA:AlikeS e a' b' m f)(hm:∀i,a'<=i->i<b'->f[a']! <=f[i]!):Rest a b d m b' f:=λf' hf=>h f' (hA.sorts hb hm hf)
theorem Rest.left{a b a' b' m:Nat}{d e f f2:Array Nat}(h:Rest a b d a' b' e)(hb:b'<=e.size)(hA:Parted e a' b' m f)(hs:Sorts a' m f f2):Rest a b d (m+1) b' f2:=λf' hf=>h f' (hA.left hb hs hf)
theorem Rest.right{a b a' b' m:Nat}{d e f f2:Array Nat}(h:Rest a b d a' b' e)(hb:b'<=e.size)(hA:Parted e a' b' m f)(hs:Sorts (m+1) b' f f2):Rest a b d a' m f2:=λf' hf=>h f' (hA.right hb hs hf)
theorem qvj{a b m p:Nat}{e f:Array Nat}(hb:b<=e.size)(hA:AlikeS e a b m f)(h0:0<a)(hF:Fore a b e)(hp:e[p]! <=e[a - 1]!)(hf:f[a]! =e[p]!):∀i,a<=i->i<b->f[a]! <=f[i]! :=by
 intro i h1 h2;rw[hf];refine wap hp ?_;exact qe6 hb hA.perm (p:=λx=>e[a - 1]! <=x) (hF h0) i h1 h2
theorem qyb{a b m:Nat}{f f2:Array Nat}(hF:Fore a m f)(hs:PermIn (m+1) b f f2):Fore a m f2:=λh0 i h1 h2=>by
 rw[hs.2.1 (a - 1) (.inl Zo),hs.2.1 i (.inl Zo)];exact hF h0 i h1 h2
theorem fore_left{a b m:Nat}{e f f2:Array Nat}(hb:b<=e.size)(hA:Parted e a b m f)(hs:PermIn a m f f2):Fore (m+1) b f2:=λh0 i h1 h2=>by
 rw[show m+1 - 1=m by omega,hs.2.1 m (.inr Zo),hs.2.1 i (.inr Zo)];exact hA.high i Zo h2
theorem qqv{a b:Nat}{d:Array Nat}(h:Fore a b d):Go.Sort.Below ltN a b d:=by
 by_cases h0:a=0
 ·exact .inl h0
 ·exact .inr λi h1 h2=>ltN_no.2 (h Zo i h1 h2)
def qm8(g c N a b:Nat)(lim:Int)(e:Array Nat)(W:World):Prop:=Calls Tryz.prog 415 #[.slice (some ⟨g,0,none⟩) N c,.int .i64 (a:Int),.int .i64 (b:Int),.int .i64 lim] W λq w'=>q= .returned (.tuple #[])/\∃f,Sorts a b e f/\Srt w' g c f/\Below g W w'
theorem q39(n g c a b N:Nat)(lim:Int)(d:Array Nat)(w:World)(hn:b - a=n)(ih:∀(a1 b1:Nat) (lim1:Int) (e1:Array Nat) (W1:World),b1 - a1<n->Srt W1 g c e1->e1.size=N->a1<=b1->b1<=N->Fore a1 b1 e1->0<=lim1->lim1<=1000->qm8 g c N a1 b1 lim1 e1 W1)(h:Srt w g c d)(hN:d.size=N)(hab:a<=b)(hb:b<=N)(hNb:N<=60000)(hF:Fore a b d)(hl0:0<=lim)(hl1:lim<=1000):qm8 g c N a b lim d w:=by
 have hih:=waa ih;have hless:=waa qe7;have hins:=waa (λ(W:World) (e:Array Nat) (a b:Nat) (hW:Srt W g c e) (he:e.size=N) (h1:a<=b) (h2:b<=N)=>show Calls Tryz.prog 424 #[.slice (some ⟨g,0,none⟩) N c,.int .i64 (a:Int),.int .i64 (b:Int)] W λq w'=>q= .returned (.tuple #[])/\∃f,Sorts a b e f/\Srt w' g c f/\Below g W w' from by
  rw[<-he];refine(q9j g c a b e W hW h1 Zo Zo).mono ?_;rintro q w' ⟨rfl,hs,hB⟩;exact⟨rfl,_,Sorts.of (Go.Sort.insertionSort_holds swoN e a b h1 Zo),hs,hB⟩)
 have hheap:=waa (λ(W:World) (e:Array Nat) (a b:Nat) (hW:Srt W g c e) (he:e.size=N) (h1:a<=b) (h2:b<=N)=>show Calls Tryz.prog 425 #[.slice (some ⟨g,0,none⟩) N c,.int .i64 (a:Int),.int .i64 (b:Int)] W λq w'=>q= .returned (.tuple #[])/\∃f,Sorts a b e f/\Srt w' g c f/\Below g W w' from by
  rw[<-he];refine(q3b g c a b e W hW h1 Zo Zo).mono ?_;rintro q w' ⟨rfl,hs,hB⟩;exact⟨rfl,_,Sorts.of (Go.Sort.heapSort_holds swoN e a b h1 Zo),hs,hB⟩)
 have hbrk:=waa (λ(W:World) (e:Array Nat) (a b:Nat) (hW:Srt W g c e) (he:e.size=N) (h1:a<=b) (h2:b<=N)=>show Calls Tryz.prog 426 #[.slice (some ⟨g,0,none⟩) N c,.int .i64 (a:Int),.int .i64 (b:Int)] W λq w'=>q= .returned (.tuple #[])/\∃d',PermIn a b e d'/\Srt w' g c d'/\Below g W w' from by
  rw[<-he];exact q6l g c a b e W hW h1 Zo Zo)
 have hpick:=waa (λ(W:World) (e:Array Nat) (a b:Nat) (hW:Srt W g c e) (he:e.size=N) (h1:a+12<b) (h2:b<=N)=>show Calls Tryz.prog 427 #[.slice (some ⟨g,0,none⟩) N c,.int .i64 (a:Int),.int .i64 (b:Int)] W λr w'=>∃(x:Nat) (z:Int),r= .returned (.tuple #[.int .i64 (x:Int),.int .i64 z])/\a<=x/\x<b/\Below W.heap.size W w' from by
  rw[<-he];exact q2c g c a b e W hW h1 Zo Zo)
 have hrev:=waa (λ(W:World) (e:Array Nat) (a b:Nat) (hW:Srt W g c e) (he:e.size=N) (h1:a<=b) (h2:b<=N)=>show Calls Tryz.prog 428 #[.slice (some ⟨g,0,none⟩) N c,.int .i64 (a:Int),.int .i64 (b:Int)] W λq w'=>q= .returned (.tuple #[])/\∃d',PermIn a b e d'/\Srt w' g c d'/\Below g W w' from by
  rw[<-he];exact q8k g c a b e W hW h1 Zo Zo)
 have hpart:=waa (λ(W:World) (e:Array Nat) (a b:Nat) (hW:Srt W g c e) (he:e.size=N) (h1:a<b) (h2:b<=N) (hF:Fore a b e)=>show Calls Tryz.prog 429 #[.slice (some ⟨g,0,none⟩) N c,.int .i64 (a:Int),.int .i64 (b:Int)] W λq w'=>∃(k:Bool) (f:Array Nat),q= .returned (.bool k)/\PermIn a b e f/\(k=true->Sorts a b e f)/\Srt w' g c f/\Below g W w' from by
  rw[<-he];refine(q2b g c a b e W hW h1 Zo Zo).mono ?_;rintro q w' ⟨rfl,hs,hB⟩;have h4:=Go.Sort.partialInsertionSort_holds swoN e a b h1 Zo (qqv hF);exact⟨_,_,rfl,h4.1,λhk=>Sorts.of ⟨h4.1,h4.2 hk⟩,hs,hB⟩)
 have hprt:=waa (λ(W:World) (e:Array Nat) (a b p:Nat) (hW:Srt W g c e) (he:e.size=N) (h1:a<=p) (h2:p<b) (h3:b<=N)=>show Calls Tryz.prog 432 #[.slice (some ⟨g,0,none⟩) N c,.int .i64 (a:Int),.int .i64 (b:Int),.int .i64 (p:Int)] W λq w'=>∃(m:Nat) (f:Array Nat) (k:Bool),q= .returned (.tuple #[.int .i64 (m:Int),.bool k])/\Parted e a b m f/\Srt w' g c f/\Below g W w' from by
  rw[<-he];exact q64 g c a b p e W hW h1 h2 Zo Zo)
 have hpeq:=waa (λ(W:World) (e:Array Nat) (a b p:Nat) (hW:Srt W g c e) (he:e.size=N) (h1:a<=p) (h2:p<b) (h3:b<=N)=>show Calls Tryz.prog 431 #[.slice (some ⟨g,0,none⟩) N c,.int .i64 (a:Int),.int .i64 (b:Int),.int .i64 (p:Int)] W λq w'=>∃(m:Nat) (f:Array Nat),q= .returned (.int .i64 (m:Int))/\AlikeS e a b m f/\Hid (f[a]! =e[p]!)/\Srt w' g c f/\Below g W w' from by
  rw[<-he];refine(q76 g c a b p _ e W hW rfl h1 h2 Zo Zo).mono ?_;rintro q w' ⟨m,f,rfl,r1,r2,r3,r4⟩;exact⟨m,f,rfl,r1,waa r2,r3,r4⟩)
 have hK:=waa h;have hNK:=waa hN;have hFK:=waa hF;have hnK:=waa hn;clear h hN hF hn ih;unfold qm8;go_enter Tryz.func415,Tryz.ntmps415;go_wp2_with fail;go_loopg [1,2,3,8,9] (b - a) (λk s1 s2 s3 s8 s9 wr=>∃(a' b':Nat) (lim':Int) (wb wp:Bool) (e:Array Nat),s1= .int .i64 (a':Int)/\s2= .int .i64 (b':Int)/\s3= .int .i64 lim'/\s8= .bool wb/\s9= .bool wp/\b' - a'<=k/\a<=a'/\a'<=b'/\b'<=b/\0<=lim'/\lim'<=1000/\Hid (e.size=N)/\Hid (Fore a' b' e)/\Hid (Rest a b d a' b' e)/\Hid (Srt wr g c e)/\Hid (Below g w wr))
 case atStart=>exact⟨a,b,lim,true,true,d,rfl,rfl,rfl,rfl,rfl,wab _,wab _,hab,wab _,hl0,hl1,hNK,hFK,waa (λf hf=>hf),hK,waa (wac _ _)⟩
 case round=>
  clear hK hNK hFK hl0 hl1 hab;obtain⟨a',b',lim',wb,wp,e,rfl,rfl,rfl,rfl,rfl,hk,haa,hab,hbb,hl0,hl1,hE,hF,hR,hS,hB⟩:=hrel;by_cases h12:b'<=a'+12
  ·have h12i:(b':Int) - (a':Int)<=12:=Zo
   have hc1:=waa (hins.out wr e a' b' hS.out hE.out hab Zo);go_wp2_with (go_at_call 424;refine hc1.out.mono ?_;rintro q w1 ⟨rfl,f,hf,hS1,hB1⟩;have hf:=waa hf;have hS1:=waa hS1;have hB1:=waa hB1)
   (try simp only[Exit.inBlock,Exit.then])
   refine bodyPost_ret (results_none rfl _ _ _) rfl ?_;exact⟨rfl,f,hR.out f hf.out,hS1.out,hB.out.trans hB1.out⟩
  ·have h12i:¬(b':Int) - (a':Int)<=12:=Zo
   by_cases hz:lim'=0
   ·subst hz
    have hc1:=waa (hheap.out wr e a' b' hS.out hE.out hab Zo);go_wp2_with (go_at_call 425;refine hc1.out.mono ?_;rintro q w1 ⟨rfl,f,hf,hS1,hB1⟩;have hf:=waa hf;have hS1:=waa hS1;have hB1:=waa hB1)
    (try simp only[Exit.inBlock,Exit.then])
    refine bodyPost_ret (results_none rfl _ _ _) rfl ?_;exact⟨rfl,f,hR.out f hf.out,hS1.out,hB.out.trans hB1.out⟩
   ·go_upto_if 35 with fail
    go_cut [3] from 19 to 133 (λs wx=>∃(l2:Int) (e2:Array Nat),s= .int .i64 l2/\0<=l2/\l2<=1000/\Hid (e2.size=N)/\Hid (PermIn a' b' e e2)/\Hid (Srt wx g c e2)/\Hid (Below g w wx))
    case first=>
     cases wb with
     |true=>
      go_wp2_with fail;go_meet
      exact⟨lim',e,rfl,hl0,hl1,hE,waa (permIn_refl _ _ _),hS,hB⟩
     |false=>
      have hc1:=waa (hbrk.out wr e a' b' hS.out hE.out hab Zo);go_wp2_with (go_at_call 426;refine hc1.out.mono ?_;rintro q w1 ⟨rfl,f,hf,hS1,hB1⟩;have hf:=waa hf;have hS1:=waa hS1;have hB1:=waa hB1)
      go_meet
      exact⟨lim' - 1,f,rfl,Zo,Zo,waa (hf.out.1.trans hE.out),hf,hS1,waa (hB.out.trans hB1.out)⟩
    case rest=>
     have hF2:=hF;have hR2:=hR;have hE0:=hE;clear hl0 hl1 hz hS hB hE;obtain⟨l2,e2,rfl,hl0,hl1,hE,hP,hS,hB⟩:=hcut;have hF:=waa (hF2.out.perm (by rw[hE0.out];omega) hP.out);have hR:=waa (hR2.out.perm hP.out);clear hF2 hR2 hE0 hP;have hc1:=waa (hpick.out wc e2 a' b' hS.out hE.out Zo Zo);go_upto_if 50 with (go_at_call 427;refine hc1.out.mono ?_;rintro q w1 ⟨x,z,rfl,hx1,hx2,hB1⟩;have hB1:=waa hB1)
     have hS1:=waa (hS.out.below hB1.out hS.out.lt);have hB2:=waa (show Below g w w1 from hB.out.trans (hB1.out.mono (wbb hS.out.lt)));clear hS hB hB1 hc1;go_cut [11,12] from 19 to 133 (λs t wx=>∃(p:Nat) (y:Int) (e3:Array Nat),s= .int .i64 (p:Int)/\t= .int .i64 y/\a'<=p/\p<b'/\Hid (e3.size=N)/\Hid (PermIn a' b' e2 e3)/\Hid (Srt wx g c e3)/\Hid (Below g w wx))
     case first=>
      by_cases hz2:z=2
      ·subst hz2
       have hc1:=waa (hrev.out w1 e2 a' b' hS1.out hE.out hab Zo);go_wp2_with (go_at_call 428;refine hc1.out.mono ?_;rintro q w2 ⟨rfl,f,hf,hS3,hB3⟩;have hf:=waa hf;have hS3:=waa hS3;have hB3:=waa hB3)
       go_meet
       exact⟨b' - 1 - (x - a'),1,f,by go_num,rfl,Zo,Zo,waa (hf.out.1.trans hE.out),hf,hS3,waa (hB2.out.trans hB3.out)⟩
      ·go_wp2_with fail
       go_meet
       exact⟨x,z,e2,rfl,rfl,hx1,hx2,hE,waa (permIn_refl _ _ _),hS1,hB2⟩
     case rest=>
      have hF2:=hF;have hR2:=hR;have hE0:=hE;clear hx1 hx2 hS1 hB2 hF hR hE;obtain⟨p,y,e3,rfl,rfl,hp1,hp2,hE,hP,hS,hB⟩:=hcut;have hF:=waa (hF2.out.perm (by rw[hE0.out];omega) hP.out);have hR:=waa (hR2.out.perm hP.out);clear hF2 hR2 hE0 hP;go_upto_region 15 with fail
      go_cut [68] from 19 to 133 (λs wx=>∃B:Bool,s= .bool B/\Hid (Srt wx g c e3)/\Hid (Below g w wx))
      case first=>
       by_cases hy1:y=1
       ·subst hy1
        cases wb<;>cases wp<;>(go_wp2_with fail;go_meet;exact⟨_,rfl,hS,hB⟩)
       ·cases wb<;>cases wp<;>(go_wp2_with fail;go_meet;exact⟨_,rfl,hS,hB⟩)
      case rest=>
       clear hS hB;obtain⟨B,rfl,hS,hB⟩:=hcut;go_upto_if 68 with fail
       go_cut [] from 19 to 133 (λwx=>∃e4:Array Nat,Hid (e4.size=N)/\Hid (PermIn a' b' e3 e4)/\Hid (Srt wx g c e4)/\Hid (Below g w wx))
       case first=>
        cases B with
        |true=>
         have hc1:=waa (hpart.out wc e3 a' b' hS.out hE.out Zo Zo hF.out);go_upto_if 72 with (go_at_call 429;refine hc1.out.mono ?_;rintro q w2 ⟨kk,f,rfl,hf,hff,hS3,hB3⟩;have hf:=waa hf;have hff:=waa hff;have hS3:=waa hS3;have hB3:=waa hB3)
         cases kk with
         |true=>
          go_wp2_with fail
          (try simp only[Exit.inBlock,Exit.then])
          refine bodyPost_ret (results_none rfl _ _ _) rfl ?_;exact⟨rfl,f,hR.out f (hff.out (by trivial)),hS3.out,hB.out.trans hB3.out⟩
         |false=>
          go_wp2_with fail;go_meet
          exact⟨f,waa (hf.out.1.trans hE.out),hf,hS3,waa (hB.out.trans hB3.out)⟩
        |false=>
         go_wp2_with fail;go_meet
         exact⟨e3,hE,waa (permIn_refl _ _ _),hS,hB⟩
       case rest=>
        have hF2:=hF;have hR2:=hR;have hE0:=hE;clear hS hB hF hR hE;obtain⟨e4,hE,hP,hS,hB⟩:=hcut;have hF:=waa (hF2.out.perm (by rw[hE0.out];omega) hP.out);have hR:=waa (hR2.out.perm hP.out);clear hF2 hR2 hE0 hP;go_upto_region 17 with fail
        go_cut [87] from 19 to 133 (λs wx=>∃B2:Bool,s= .bool B2/\Hid (B2=true->0<a'/\e4[p]! <=e4[a' - 1]!)/\Hid (Srt wx g c e4)/\Hid (Below g w wx))
        case first=>
         by_cases ha0:0<a'
         ·obtain⟨G,hG,hc,hf⟩:=hS.out.words
          rw[hE.out] at hc;have r1:a' - 1<N:=Zo
          have r2:p<N:=Zo
          have k1:=hc (a' - 1) r1;have k2:=hc p r2;obtain⟨B3,hB3⟩:∃B,Hid (ltN (G (a' - 1)) (G p)=B):=⟨_,waa rfl⟩
          have hl:=waa (λ(W:World)=>show Calls Tryz.prog 430 #[.int .u64 ((G (a' - 1):Nat):Int),.int .u64 ((G p:Nat):Int)] W λe w'=>e= .returned (.bool B3)/\W=w' from by rw[<-hB3.out];exact hless.out (G (a' - 1)) (G p) W);have hB4:=waa (show ltN e4[a' - 1]! e4[p]! =B3 from by rw[<-hG.out,<-hG.out];exact hB3.out);clear hc hf;go_wp2_with fail;go_quiet (first|(go_at_call 430;exact qau (hl.out _))|(go_at_call 430;exact qcu (hl.out _)))
          go_wp2_with fail;go_meet
          exact⟨!B3,rfl,waa (λh=>⟨ha0,ltN_no.1 (by rw[hB4.out];simpa using h)⟩),waa (hS.out.drewN nq),waa (qad hB.out nq)⟩
         ·go_wp2_with fail
          go_quiet (fail)
          go_wp2_with fail;go_meet
          exact⟨false,rfl,waa (λh=>by cases h),waa (hS.out.drewN nq),waa (qad hB.out nq)⟩
        case rest=>
         clear hS hB;obtain⟨B2,rfl,hB2,hS,hB⟩:=hcut;cases B2 with
         |true=>
          have hc1:=waa (hpeq.out wc e4 a' b' p hS.out hE.out hp1 hp2 Zo);go_wp2_with (go_at_call 431;refine hc1.out.mono ?_;rintro q w2 ⟨m,f,rfl,hA,hfa,hS3,hB3⟩;have hm1:=hA.am;have hm2:=hA.mb;have hA:=waa hA;have hS3:=waa hS3;have hB3:=waa hB3)
          go_roundg (b' - m)
          case measure=>omega
          case rel=>
           have h0:=hB2.out (by trivial);exact⟨m,b',l2,wb,wp,f,rfl,rfl,rfl,rfl,rfl,wab _,Zo,hm2,hbb,hl0,hl1,waa (hA.out.perm.1.trans hE.out),waa hA.out.fore,waa (hR.out.alike (by rw[hE.out];omega) hA.out (qvj (by rw[hE.out];omega) hA.out h0.1 hF.out h0.2 hfa.out)),hS3,waa (hB.out.trans hB3.out)⟩
         |false=>
          clear hB2;have hc1:=waa (hprt.out wc e4 a' b' p hS.out hE.out hp1 hp2 Zo);go_upto_if 113 with (go_at_call 432;refine hc1.out.mono ?_;rintro q w2 ⟨m,f,kk,rfl,hA,hS3,hB3⟩;have hm1:=hA.am;have hm2:=hA.mb;have hA:=waa hA;have hS3:=waa hS3;have hB3:=waa hB3)
          have hfs:=waa (show f.size=N from hA.out.perm.1.trans hE.out);by_cases hlr:m - a'<b' - m
          ·have hlrI:(m:Int) - (a':Int)<(b':Int) - (m:Int):=Zo
           have hc2:=waa (show Calls Tryz.prog 415 #[.slice (some ⟨g,0,none⟩) N c,.int .i64 (a':Int),.int .i64 (m:Int),.int .i64 l2] w2 λq w'=>q= .returned (.tuple #[])/\∃f2,Sorts a' m f f2/\Srt w' g c f2/\Below g w2 w' from hih.out a' m l2 f w2 (by have:=hnK.out;omega) hS3.out hfs.out hm1 Zo (hA.out.fore_left (by rw[hE.out];omega) hF.out) hl0 hl1);go_wp2_with (go_at_call 415;refine hc2.out.mono ?_;rintro q w3 ⟨rfl,f2,hf2,hS4,hB4⟩;have hf2:=waa hf2;have hS4:=waa hS4;have hB4:=waa hB4)
           go_roundg (b' - (m+1))
           case measure=>omega
           case rel=>exact⟨m+1,b',l2,_,kk,f2,by go_num,rfl,rfl,rfl,rfl,wab _,Zo,Zo,hbb,hl0,hl1,waa (hf2.out.perm.1.trans hfs.out),waa (fore_left (by rw[hE.out];omega) hA.out hf2.out.perm),waa (hR.out.left (by rw[hE.out];omega) hA.out hf2.out),hS4,waa (hB.out.trans (hB3.out.trans hB4.out))⟩
          ·have hlrI:¬(m:Int) - (a':Int)<(b':Int) - (m:Int):=Zo
           have hc2:=waa (show Calls Tryz.prog 415 #[.slice (some ⟨g,0,none⟩) N c,.int .i64 ((m:Int)+1),.int .i64 (b':Int),.int .i64 l2] w2 λq w'=>q= .returned (.tuple #[])/\∃f2,Sorts (m+1) b' f f2/\Srt w' g c f2/\Below g w2 w' from by
            have h1:=hih.out (m+1) b' l2 f w2 (by have:=hnK.out;omega) hS3.out hfs.out Zo Zo hA.out.fore hl0 hl1;unfold qm8 at h1;rw[show((m+1:Nat):Int)=(m:Int)+1 by omega] at h1;exact h1)
           go_wp2_with (go_at_call 415;refine hc2.out.mono ?_;rintro q w3 ⟨rfl,f2,hf2,hS4,hB4⟩;have hf2:=waa hf2;have hS4:=waa hS4;have hB4:=waa hB4)
           go_roundg (m - a')
           case measure=>omega
           case rel=>exact⟨a',m,l2,_,kk,f2,rfl,rfl,rfl,rfl,rfl,wab _,haa,hm1,Zo,hl0,hl1,waa (hf2.out.perm.1.trans hfs.out),waa (qyb (hA.out.fore_left (by rw[hE.out];omega) hF.out) hf2.out.perm),waa (hR.out.right (by rw[hE.out];omega) hA.out hf2.out),hS4,waa (hB.out.trans (hB3.out.trans hB4.out))⟩
theorem q5z(g c N:Nat)(hNb:N<=60000):∀(n a b:Nat) (lim:Int) (d:Array Nat) (w:World),b - a=n->Srt w g c d->d.size=N->a<=b->b<=N->Fore a b d->0<=lim->lim<=1000->qm8 g c N a b lim d w:=by
 intro n;induction n using Nat.strongRecOn with
 |ind n ih=>
  intro a b lim d w hn h hN hab hb hF hl0 hl1;exact q39 n g c a b N lim d w hn (λa1 b1 lim1 e1 W1 hlt h1 h2 h3 h4 h5 h6 h7=>ih (b1 - a1) hlt a1 b1 lim1 e1 W1 rfl h1 h2 h3 h4 h5 h6 h7) h hN hab hb hNb hF hl0 hl1
theorem q26(g c:Nat)(d:Array Nat)(w:World)(h:Srt w g c d)(hn:d.size<=60000):
  Calls Tryz.prog 385 #[.slice (some ⟨g,0,none⟩) d.size c] w λq w'=>q= .returned (.tuple #[])/\∃f,Sorts 0 d.size d f/\Srt w' g c f/\Below g w w':=by
 obtain⟨N,hN⟩:∃N,d.size=N:=⟨_,rfl⟩
 have hp:=waa (λ(l:Nat) (hl:l<=16)=>show Calls Tryz.prog 415 #[.slice (some ⟨g,0,none⟩) N c,.int .i64 0,.int .i64 (N:Int),.int .i64 (l:Int)] w λq w'=>q= .returned (.tuple #[])/\∃f,Sorts 0 N d f/\Srt w' g c f/\Below g w w' from q5z g c N Zo (N - 0) 0 N l d w rfl h hN (wau _) (wab _) (λh0=>absurd h0 (wd8 _)) Zo Zo);rw[hN] at hn ⊢;have hl:=waa (qkz N w Zo);clear hN h;go_enter Tryz.func385,Tryz.ntmps385;go_wp2_with (first
  |(go_at_call 353;refine hl.out.mono ?_;rintro q w' ⟨l,hL,rfl,rfl⟩;have hL16:=hL.1;have hL:=waa hL)
  |(go_at_call 415;refine(hp.out _ hL16).mono ?_;rintro q w1 ⟨rfl,f,hf,hS1,hB1⟩;have hf:=waa hf;have hS1:=waa hS1;have hB1:=waa hB1))
 go_end0
 exact⟨rfl,f,hf.out,hS1.out,hB1.out⟩
end Go.Proofs.YtocncmbeinmiaaaGreat
namespace Go.Proofs.YtocncmbeinmiaaaGreat
open Go Go.RowKit Go.Shelf Go.Maps
attribute [local go_sem] wcy
section
variable {H:Type}
def Came(D0:DataW H)(left:Lit->Bool)(ss:List Nat):Prop:=ss.Nodup/\∀x:Nat,x∈ss↔(has D0 (.int .u64 (x:Int))=true/\left (.int .u64 (x:Int))=false)
theorem Came.start(D0:DataW H):Came D0 (has D0) []:=⟨List.nodup_nil,λx=>by cases has D0 (.int .u64 (x:Int))<;>simp⟩
theorem Came.step{D0:DataW H}{left:Lit->Bool}{ss:List Nat}(h:Came D0 left ss){x:Nat}{y:DataW H}(hlk:left (.int .u64 (x:Int))=true)(hat:∀zd,D0.atKey (.int .u64 (x:Int)) zd=y):Came D0 (λz=>left z&&!z.sameKey (.int .u64 (x:Int))) (ss++[x]):=by
 have hhas:has D0 (.int .u64 (x:Int))=true:=has_true_of_atKey hat
 have hnew:x∉ss:=λhx=>by have:=((h.2 x).1 hx).2;rw[hlk] at this;cases this
 refine⟨List.nodup_append.2 ⟨h.1,by simp,λa ha b hb=>by simp at hb;subst hb;exact λe=>hnew (e▸ha)⟩,λy=>?_⟩;by_cases hy:y=x
 ·subst hy;simp[hhas,Lit.sameKey]
 ·have hyi:¬(y:Int)=(x:Int):=Zo
  simp[h.2 y,hy,hyi,Lit.sameKey]
theorem qjs{P:Program}{k:TypeId}(hk:P.underlying k=some (.int .u64)){key:Value}{kl:Lit}(h:keyOf P k key=some kl):∃x:Nat,key= .int .u64 (x:Int)/\kl= .int .u64 (x:Int)/\x<18446744073709551616:=by
 cases key<;>simp[keyOf,hk,mapKey] at h
 rename_i q a
 obtain⟨⟨rfl,hw⟩,rfl⟩:=h;have h1:0<=a/\a<18446744073709551616:=by
  simp[Lit.wf,IntKind.min,IntKind.max,IntKind.signed,IntKind.bits] at hw
  omega
 obtain⟨n,rfl⟩:=waz h1.1;exact⟨n,rfl,rfl,Zo⟩
theorem q70(n:Nat)(hn:1<=n)(l Bm b nn:Nat)(D0:DataW H){R:Value->Option (DataW H×List MemPlace)}(J Jx:List Nat->World->Prop)(hY:∀pre x W,J pre W->pre.length<Maps.size D0->YieldAt Fence.wide (n - 1) Tryz.prog l #[.int .u64 ((x:Nat):Int)] W λe W'=>
   (e= .returned (.bool true)/\J (pre++[x]) W'/\KeepsWalks W W')\/(e= .returned (.bool false)/\Jx (pre++[x]) W'))(W:World)(hJ:AbidesFrom W.heap.size J)(hm:W.cell? ⟨Bm,0,none⟩=some (.map (some b)))(hown:W.ownsMap Tryz.prog 27 R b nn D0)(h0:J [] W):
  CallsIn Fence.wide n Tryz.prog 386 #[.func (.yield l) #[] #[],.pointer (some ⟨Bm,0,none⟩)] W λe W'=>(∃v,e= .returned v)/\
   ((∃ss:List Nat,(ss.Nodup/\∀x:Nat,x∈ss↔has D0 (.int .u64 (x:Int))=true)/\J ss W')\/(∃pre:List Nat,True/\Jx pre W')):=by
 refine callsIn_of_wp Tryz.func386 rfl trivial ?_ rfl;simp only[Tryz.ntmps386,wbj,way,wbq,Nat.reduceAdd,Nat.reduceSub,wci,wcj,wck,wcl,wba,wcb];gi_wp2_with (first
  |(gi_at_range;refine wpListIn_range_own _ rfl _ 342 rfl 27 166 (int_keyed wc6) we6 _ b nn _ rfl hown ?_;intro w0 hrg0 hg0 hs0)
  |gi_in)
 go_frame
 gi_loopw [3] (λ_ wr=>∃(left:Lit->Bool) (cnt:Nat) (ss:List Nat),wr.ranges Tryz.prog 27 R b W.heap.size nn D0 left cnt/\ss.length+cnt<=Maps.size D0/\Came D0 left ss/\J ss wr)
  (λ_ wr=>wr.rangeLeft b W.heap.size)
 case atStart=>
  exact⟨_,_,[],hrg0,by simp,Came.start D0,hJ [] W w0 none h0 hg0 (λr e=>by cases e)⟩
 case round=>
  obtain⟨left,cnt,ss,hrg,hcs,hC,hJs⟩:=hrel;gi_wp2_with (first
   |(gi_at_next;refine wpListIn_next_ranges _ rfl _ rfl 27 (int_keyed wc6) R (λx:Nat=>Value.int .u64 (x:Int)) id (λkey kl hk=>by obtain⟨x,hx,_⟩:=qjs wc6 hk;exact⟨x,hx⟩) (λv _ _=>⟨v,rfl⟩) b W.heap.size nn _ _ _ rfl hrg ?_ ?_)
   |gi_in)
  ·intro hc0 hl0
   gi_wp2
   go_end0
   exact⟨⟨_,rfl⟩,.inl ⟨ss,⟨hC.1,λx=>by rw[hC.2 x,hl0];simp⟩,hJs⟩⟩
  ·intro x c kl yd yp w2 cnt2 hkey hlk hv hat hrg2 hlt hg2 hs2 hen
   obtain⟨x',ex,rfl,_⟩:=qjs wc6 hkey;obtain rfl:x=x':=by injection ex with _ ex;exact Int.ofNat.inj ex
   have hJ2:J ss w2:=hJ ss wr w2 (some W.heap.size) hJs hg2 (λr e=>by cases e;exact⟨wab _,hrg.iter_walk⟩);obtain⟨fn,tmps,assign,body,hy,hR⟩:=hY ss x w2 hJ2 Zo;have hC2:=hC.step hlk hat
   clear hs2;gi_wp2
   refine hR.mono ?_;rintro e W3 (⟨rfl,hJ3,hk3⟩|⟨rfl,hJx3⟩)
   ·gi_wp2
    have hrg3:=hrg2.of_walks hk3;go_roundw
    case rel=>exact⟨_,cnt2,ss++[x],hrg3,by simp;omega,hC2,hJ3⟩
    case measure=>rw[hrg3.left_eq,hrg.left_eq];exact hlt
   ·gi_wp2
    refine bodyPost_ret (results_none rfl _ _ _) rfl ?_;exact⟨⟨_,rfl⟩,.inr ⟨ss++[x],trivial,hJx3⟩⟩
theorem qz7(n:Nat)(hn:1<=n)(Bm b nn:Nat)(D0:DataW H){R:Value->Option (DataW H×List MemPlace)}(w:World)(hBm:Bm<w.heap.size)(hm:w.cell? ⟨Bm,0,none⟩=some (.map (some b)))(hown:w.ownsMap Tryz.prog 27 R b nn D0):
  SeqStopsK Fence.wide n Tryz.prog 386 #[.pointer (some ⟨Bm,0,none⟩)] (λx:Nat=>#[Value.int .u64 (x:Int)]) KeepsWalks (λss=>ss.Nodup/\∀x:Nat,x∈ss↔has D0 (.int .u64 (x:Int))=true) (λ_=>True) (Maps.size D0) w:=λl J Jx W hW hJ _ hY h0=>by
 have hown':W.ownsMap Tryz.prog 27 R b nn D0:=by
  have hbl:=hown.lt;obtain⟨es,clock,hb,Ft,hs,hD⟩:=hown;exact⟨es,clock,(hW.block b hbl).trans hb,Ft,hs,hD⟩
 exact q70 n hn l Bm b nn D0 J Jx hY W hJ ((hW.cell (p:=⟨Bm,0,none⟩) hBm).trans hm) hown' h0
theorem q7g(mb:Option Nat)(w:World):Calls Tryz.prog 343 #[.map mb] w λe w'=>e= .returned (.func (.func 386) #[] #[.pointer (some ⟨w.heap.size,0,none⟩)])/\w.alloc (.cells #[.map mb] 342)=w':=by
 have hmf:∀(fn:Fn) (first cap:Array Value) (w:World),(Instr.makeFunc fn first cap).run Tryz.prog w= .ok (.func fn first cap) w:=λ_ _ _ _=>rfl
 go_enter Tryz.func343,Tryz.ntmps343;go_wp2
 go_ret;exact⟨rfl,rfl⟩
theorem q3h:(Tryz.prog.info? 27).map (λi=>(i.zero,i.size,i.bytes))=some (some (.int .u64 0),1,8):=by kernel_rfl
theorem qy9(l:List Nat)(x:Nat):u64V (l++[x])=u64V l++[.int .u64 (x:Int)]:=by simp[u64V]
theorem qt8{W:World}{base size n:Nat}{e:TypeId}{v:Value}{xs:List Value}(h:W.ownsRow base e size v n xs){o':Obj}:∀(j:Nat) (o:Obj),v.ownBlock=some j->(W.alloc o').heap[j]? =some o->o.isWalk=false:=by
 intro j o hj ho;rcases h.2 with ⟨rfl,_⟩|⟨g,cap,cur,rfl,_,hgb,_⟩
 ·simp[Value.ownBlock] at hj
 ·obtain rfl:g=j:=by simpa[Value.ownBlock] using hj
  rw[qag hgb] at ho;cases ho
  rfl
theorem qym(S:List Nat->Prop)(N Bm:Nat)(hN:N<=60000)(w:World)(hseq:SeqStopsK Fence.wide 2 Tryz.prog 386 #[.pointer (some ⟨Bm,0,none⟩)] (λx:Nat=>#[Value.int .u64 (x:Int)]) KeepsWalks S (λ_=>True) N w):
  Calls Tryz.prog 414 #[.slice none 0 0,.func (.func 386) #[] #[.pointer (some ⟨Bm,0,none⟩)]] w λe w'=>∃v ss,e= .returned v/\S ss/\ss.length<=N/\w'.ownsRow w.heap.size 27 1 v ss.length (u64V ss)/\Below w.heap.size w w':=by
 obtain⟨i0,hi,hz0,hz1,hz2⟩:=info_parts q3h;refine(callsIn_wide (n:=3)).1 ?_;refine callsIn_of_wp_marks Tryz.func414 rfl trivial ?_ rfl;simp only[Tryz.ntmps414,wbj,way,wbq,Nat.reduceAdd,Nat.reduceSub,wci,wcj,wck,wcl,wba,wcb];gi_wp2_with fail
 have bO:=Boxed.new w 40 (.slice none 0 0);have hB0:Below w.heap.size w (w.alloc (.cells #[.slice none 0 0] 40)):=(wac _ w).alloc (wab _) _;refine wpIn_rangeFunc_ownG rfl Zo (gf:=386) (lb:=#[.pointer (some ⟨Bm,0,none⟩)]) rfl trivial (enters_of Tryz.func386 Zk rfl)
  hseq walksK_t walksK_b hB0 (λ_=>rfl)
  (λpre W=>(∃v,Boxed W w.heap.size 40 v/\W.ownsRow w.heap.size 27 1 v pre.length (u64V pre)/\True)/\(Below w.heap.size w W/\pre.length<=N))
  (λ_ _ _=>False)
  (OwnFrom.and (Own.from (holdsRow_own w.heap.size w.heap.size 40 27 1 (λpre=>pre.length) u64V (λpre v=>True)) _) (OwnFrom.and (ownFrom_below (wab _) Zs) (λ_ _ _ _ hs _ _=>hs)))
  (λ_ _ _ _ _ hs _ _=>hs)
  ⟨⟨_,bO,wa9 _ _ _ _,trivial⟩,hB0,wau _⟩
  (λx=>{tmps:=#[.slice none 0 0,.func (.func 386) #[] #[.pointer (some ⟨Bm,0,none⟩)],.pointer (some ⟨w.heap.size,0,none⟩),undef,.slice none 0 0,.int .u64 (x:Int),.func (.func 386) #[] #[.pointer (some ⟨Bm,0,none⟩)],.int .u64 (x:Int),undef,undef,undef,undef,undef],defers:=[]}) ?assign ?body ?done ?stop
 case assign=>
  intro l x W K hK;gi_wp2
  exact hK
 case body=>
  rintro l pre x W ⟨⟨v,hv,hrow,_⟩,hB,hpN⟩ hlt;have hc:=hv.cell;gi_wp2_with (gi_at_builtin;refine wpListIn_append_own _ rfl _ _ 40 rfl w.heap.size 27 i0 (.int .u64 0) 1 8 wbi hi hz0 hz1 hz2 rfl Zd _ _ _ rfl (hrow.alloc _) ⟨W.heap.size,0,none⟩ 1 1 [.int .u64 (x:Int)] rfl rfl (cell_one_new _ _ _) (by simp[Value.oneCell']) (by simp only[maxLen];omega) Zo (by have:=hB.size;simp;omega) ?_;intro v' w1 hown' hgrow _;obtain⟨g',cap',rfl⟩:=ownsRow_succ hown';obtain⟨hv1,hv2,hr2,hk2,hb2⟩:=hv.appended Zd hrow hB.size (wab _) hown' hgrow;have hc1:=hv1.cell;have hf1:=hv1.frozen)
  exact⟨hk2.from _,((KeepsWalks.alloc _ _).trans (KeepsWalks.of_grownBy hgrow (qt8 hrow))).trans (KeepsWalks.setCell _ _ _),⟨_,hv2,by rw[qy9];simpa using hr2,trivial⟩,hB.trans hb2,by simp;omega⟩
 case done=>
  rintro D ys W hD hS ⟨⟨v,hv,hrow,_⟩,hB,hyN⟩ hK;have hc:=hv.cell;gi_wp2
  refine⟨by simp,.inl ⟨_,_,rfl,run_takeDeferred hK,?_⟩⟩;exact⟨_,results_tmp rfl _ _ _,v,ys,rfl,hS,hyN,ownsRow_putObj hrow _ hK rfl,hB.trans (belowK_b (w:=w) (wab _) W D _ _ (by simp at hD;omega) hK rfl rfl)⟩
 case stop=>
  rintro D c pre W _ _ h _;exact h.elim
theorem qvf(S:List Nat->Prop)(N Bm:Nat)(hN:N<=60000)(w:World)(hseq:SeqStopsK Fence.wide 2 Tryz.prog 386 #[.pointer (some ⟨Bm,0,none⟩)] (λx:Nat=>#[Value.int .u64 (x:Int)]) KeepsWalks S (λ_=>True) N w):
  Calls Tryz.prog 384 #[.func (.func 386) #[] #[.pointer (some ⟨Bm,0,none⟩)]] w λe w'=>∃v ss,e= .returned v/\S ss/\ss.length<=N/\w'.ownsRow w.heap.size 27 1 v ss.length (u64V ss)/\Below w.heap.size w w':=by
 have ha:=waa (qym S N Bm hN w hseq);clear hseq;go_enter Tryz.func384,Tryz.ntmps384;go_wp2_with (go_at_call 414;refine ha.out.mono ?_;rintro e w' ⟨v,ss,rfl,h1,h2,h3,h4⟩;have h1:=waa h1;have h3:=waa h3;have h4:=waa h4)
 go_ret;exact⟨v,ss,rfl,h1.out,h2,h3.out,h4.out⟩
theorem qyi(w:World):Calls Tryz.prog 385 #[.slice none 0 0] w λq w'=>q= .returned (.tuple #[])/\Below w.heap.size w w':=by
 have hi:∀W:World,Calls Tryz.prog 424 #[.slice none 0 0,.int .i64 0,.int .i64 0] W λq w'=>q= .returned (.tuple #[])/\W=w':=λW=>by
  go_enter Tryz.func424,Tryz.ntmps424;go_wp2_with fail;go_loopw [6] (λp wr=>W=wr/\p= .int .i64 1) (λ_ _=>0)
  case atStart=>exact⟨rfl,rfl⟩
  case round=>
   obtain⟨rfl,rfl⟩:=hrel;go_wp2_with fail;go_end0
   exact⟨rfl,rfl⟩
 have hp:∀(l:Nat) (W:World),Calls Tryz.prog 415 #[.slice none 0 0,.int .i64 0,.int .i64 0,.int .i64 (l:Int)] W λq w'=>q= .returned (.tuple #[])/\W=w':=λl W=>by
  have hi2:=waa (hi W);clear hi;go_enter Tryz.func415,Tryz.ntmps415;go_wp2_with fail;go_loopw [1,2,3,8,9] (λp1 p2 p3 p8 p9 wr=>W=wr/\p1= .int .i64 0/\p2= .int .i64 0/\p3= .int .i64 (l:Int)/\p8= .bool true/\p9= .bool true) (λ_ _ _ _ _ _=>0)
  case atStart=>exact⟨rfl,rfl,rfl,rfl,rfl,rfl⟩
  case round=>
   obtain⟨rfl,rfl,rfl,rfl,rfl,rfl⟩:=hrel;go_wp2_with (go_at_call 424;refine hi2.out.mono ?_;rintro q w1 ⟨rfl,rfl⟩)
   (try simp only[Exit.inBlock,Exit.then])
   refine bodyPost_ret (results_none rfl _ _ _) rfl ?_;exact⟨rfl,rfl⟩
 have hl:=waa (qkz 0 w Zo);have hpK:=waa hp;clear hp hi;go_enter Tryz.func385,Tryz.ntmps385;go_wp2_with (first
  |(go_at_call 353;refine hl.out.mono ?_;rintro q w' ⟨l,hL,rfl,rfl⟩;have hL16:=hL.1;have hL:=waa hL)
  |(go_at_call 415;refine(hpK.out _ _).mono ?_;rintro q w1 ⟨rfl,rfl⟩))
 go_end0
 exact⟨rfl,wac _ _⟩
theorem qls(d:Array Nat):(d.extract 0 d.size).toList=d.toList:=by simp
theorem qx3{d f:Array Nat}(h:Sorts 0 d.size d f)(hnd:d.toList.Nodup):f.size=d.size/\f.toList.Pairwise (·< ·)/\∀x,x∈f.toList↔x∈d.toList:=by
 have hs:=h.perm.1;have hp:f.toList.Perm d.toList:=by
  have:=h.perm.2.2
  rw[qls] at this;rwa [show f.extract 0 d.size=f.extract 0 f.size from by rw[hs],qls] at this
 have hnf:=hp.nodup_iff.2 hnd;refine⟨hs,?_,λx=>hp.mem_iff⟩;rw[web];intro i j hi hj hij;have h1:=h.rise i j (wau _) hij (by rw[wdt] at hj;omega);have hne:=(web.1 hnf) i j hi hj hij;rw[wdt] at hi hj;rw[getElem!_pos f i hi,getElem!_pos f j hj] at h1;simp only[Array.getElem_toList] at hne ⊢;omega
theorem qx2(N Bm:Nat)(hN:N<=60000)(K:Nat->Prop)(w:World)(hseq:SeqStopsK Fence.wide 2 Tryz.prog 386 #[.pointer (some ⟨Bm,0,none⟩)] (λx:Nat=>#[Value.int .u64 (x:Int)]) KeepsWalks (λss=>ss.Nodup/\∀x:Nat,x∈ss↔K x) (λ_=>True) N w):
  Calls Tryz.prog 342 #[.func (.func 386) #[] #[.pointer (some ⟨Bm,0,none⟩)]] w λe w'=>∃A cap ss,e= .returned (.slice A ss.length cap)/\ss.Pairwise (·< ·)/\(∀x:Nat,x∈ss↔K x)/\ss.length<=N/\Rd w' A ss.length (u64V ss)/\Below w.heap.size w w':=by
 have hc:=waa (qvf _ N Bm hN w hseq);clear hseq;go_enter Tryz.func342,Tryz.ntmps342;go_upto_region 2 with (go_at_call 384;refine hc.out.mono ?_;rintro e w1 ⟨v,ss,rfl,hS,h2,hrow,hB⟩)
 rcases hrow.2 with ⟨rfl,h0⟩|⟨g,cap,cur,rfl,hbg,hgb,hn1,hc1,hs1,ht1⟩
 ·have hs0:ss=[]:=wdu h0
  subst hs0;have hS:=waa hS;have hB:=waa hB;have hso:=waa (qyi w1);clear hrow;go_wp2_with (go_at_call 385;refine hso.out.mono ?_;rintro q w2 ⟨rfl,hB2⟩;have hB2:=waa hB2)
  go_ret;exact⟨none,0,[],rfl,.nil,hS.out.2,h2,⟨rfl,λh=>absurd h Zs⟩,hB.out.trans (hB2.out.mono hB.out.size)⟩
 ·have hl:(u64V ss).length=ss.length:=by simp[u64V]
  have hsrt:Srt w1 g cap ss.toArray:=⟨cur,hgb,Zo,by simpa using hn1,λt ht=>by
   have ht':t<ss.length:=by simpa using ht
   have e1:cur[t]? =(u64V ss)[t]?:=by rw[<-ht1,wbh,if_pos Zo,wb9]
   rw[e1];simp[u64V,ht']⟩
  have hso:=waa (q26 g cap ss.toArray w1 hsrt Zx);have hsz:ss.toArray.size=ss.length:=by simp
  rw[hsz] at hso;have hS:=waa hS;have hB:=waa hB;have hgb:=waa hgb;clear hrow hsrt ht1 hs1 hl hsz;go_wp2_with (go_at_call 385;refine hso.out.mono ?_;rintro q w2 ⟨rfl,f,hf,hs2,hB2⟩;have hf:=waa hf;have hs2:=waa hs2;have hB2:=waa hB2)
  go_ret;obtain⟨l1,l2,l3⟩:=qx3 (by have:=hf.out;rwa [show ss.length=ss.toArray.size from by simp] at this) (by simpa using hS.out.1);have l4:f.toList.length=ss.length:=by rw[wdt,l1];simp
  refine⟨some ⟨g,0,none⟩,cap,f.toList,by rw[l4];rfl,l2,λx=>by rw[l3,List.toList_toArray];exact hS.out.2 x,Zo,⟨by simp[u64V],λhpos=>⟨_,rfl,λj u hu=>?_⟩⟩,hB.out.trans (hB2.out.mono hbg)⟩;have hj:j<f.size:=by
   have:=(wan.1 hu).1
   simpa[u64V] using this
  have e0:(⟨g,0,none⟩:Addr).add j=⟨g,j,none⟩:=by cases j<;>simp[Addr.add]
  rw[e0,hs2.out.cell j hj];rw[<-hu];simp[u64V,hj]
end
end Go.Proofs.YtocncmbeinmiaaaGreat
namespace Go.Proofs.YtocncmbeinmiaaaGreat
open Go Go.RowKit Go.Maps
def lvR:Value->Option (DataW LV×List MemPlace)
 | .agg cs=>match cs.toList with
  |[.int .i64 a,.int .i64 r,.int .i64 s,.int .i64 n,.int .i64 sp,.int .i64 ix,.int .i64 wd]=>some (.held ⟨a,r,s,n,sp,ix,wd⟩,[])
  |_=>none
 |_=>none
theorem q32(o:LV):lvR (.agg (lvV o).toArray)=some (.held o,[]):=rfl
theorem qxd{v:Value}{d:DataW LV}{ps:List MemPlace}(h:lvR v=some (d,ps)):∃o:LV,v= .agg (lvV o).toArray/\d= .held o:=by
 unfold lvR at h;split at h
 ·rename_i cs
  split at h
  ·rename_i a r s n sp ix wd he
   injection h with h;injection h with h1 h2;refine⟨⟨a,r,s,n,sp,ix,wd⟩,?_,h1.symm⟩;congr 1
   rw[<-Array.toArray_toList (xs:=cs),he];rfl
  ·cases h
 ·cases h
def mGet(o:Option LV)(z:DataW LV):DataW LV:=match o with
 |some q=> .held q
 |none=>z
theorem lawW:Keyed Tryz.prog 27:=int_keyed wc6
theorem qq3{x:Nat}(hx:x<18446744073709551616):keyOf Tryz.prog 27 (.int .u64 (x:Int))=some (.int .u64 (x:Int)):=keyOf_int_mk wc6 (by simp[Lit.wf,IntKind.min,IntKind.max,IntKind.signed,IntKind.bits];omega)
def zL:LV:=⟨0,0,0,0,0,0,0⟩
theorem qp0(w:World):(zeroValue 166).run Tryz.prog w= .ok (.agg (lvV zL).toArray) w:=by kernel_rfl
def MpAt(w:World)(B:Nat)(D:DataW LV)(M:Nat->Option LV):Prop:=w.ownsMap Tryz.prog 27 lvR B (Maps.size D) D/\∀(x:Nat) z,D.atKey (.int .u64 (x:Int)) z=mGet (M x) z
section
variable {w w':World} {B:Nat} {D:DataW LV} {M:Nat->Option LV}
theorem q3a{n:Nat}(h:w.ownsMap Tryz.prog 27 lvR B n D):w.ownsMap Tryz.prog 27 lvR B (Maps.size D) D:=by
 obtain⟨es,clock,h1,h2,h3,h4⟩:=h;refine⟨es,clock,h1,h2,?_,h4⟩;rw[h4];simp[Maps.size,length_sorted]
theorem MpAt.made(w:World):MpAt (w.alloc (.map #[] 0)) w.heap.size (.map []) (λ_=>none):=⟨World.ownsMap_made _ _ _ _,λx z=>rfl⟩
theorem MpAt.lt(h:MpAt w B D M):B<w.heap.size:=h.1.lt
theorem MpAt.block(h:MpAt w B D M)(hb:w'.heap[B]? =w.heap[B]?):MpAt w' B D M:=by
 obtain⟨⟨es,clock,h1,r⟩,h2⟩:=h;exact⟨⟨es,clock,hb.trans h1,r⟩,h2⟩
theorem MpAt.below(h:MpAt w B D M)(hb:Below w.heap.size w w'):MpAt w' B D M:=h.block (hb.block B h.lt)
theorem MpAt.notCells(h:MpAt w B D M):∃o,w.heap[B]? =some o/\∀C t fr,o≠ .cells C t fr:=by
 obtain⟨⟨es,clock,h1,r⟩,h2⟩:=h;exact⟨_,h1,λC t fr e=>by cases e⟩
theorem MpAt.has(h:MpAt w B D M)(x:Nat):has D (.int .u64 (x:Int))=(M x).isSome:=by
 cases hM:M x with
 |none=>exact has_false_of_atKey (λz=>by rw[h.2 x z,hM];rfl)
 |some o=>exact has_true_of_atKey (y:= .held o) (λz=>by rw[h.2 x z,hM];rfl)
theorem MpAt.look(h:MpAt w B D M){x:Nat}(hx:x<18446744073709551616):(Instr.lookup 342 (.map (some B)) (.int .u64 (x:Int)) true).run Tryz.prog w= .ok (.tuple #[.agg (lvV ((M x).getD zL)).toArray,.bool (M x).isSome]) w:=by
 obtain⟨v,ps,hrun,hv⟩:=h.1.look_ok lawW we6 (qp0 w) (q32 zL) (qq3 hx);rw[h.has x] at hrun;obtain⟨o,rfl,hd⟩:=qxd hv;rw[h.2 x] at hd;have:(M x).getD zL=o:=by
  cases hM:M x with
  |none=>rw[hM] at hd;injection hd
  |some q=>rw[hM] at hd;injection hd
 rw[this];exact hrun
theorem MpAt.look1(h:MpAt w B D M){x:Nat}(hx:x<18446744073709551616):(Instr.lookup 342 (.map (some B)) (.int .u64 (x:Int)) false).run Tryz.prog w= .ok (.agg (lvV ((M x).getD zL)).toArray) w:=by
 obtain⟨v,ps,hrun,hv⟩:=h.1.lookup lawW we6 (qp0 w) (q32 zL) (qq3 hx);obtain⟨o,rfl,hd⟩:=qxd hv;rw[h.2 x] at hd;have:(M x).getD zL=o:=by
  cases hM:M x with
  |none=>rw[hM] at hd;injection hd
  |some q=>rw[hM] at hd;injection hd
 rw[this];exact hrun
def mPut(M:Nat->Option LV)(x:Nat)(o:LV):Nat->Option LV:=λy=>if y=x then some o else M y
theorem MpAt.put{x:Nat}{o:LV}{n:Nat}(h:MpAt w B D M)(hw:w'.ownsMap Tryz.prog 27 lvR B n (D.put (.int .u64 (x:Int)) (.held o))):MpAt w' B (D.put (.int .u64 (x:Int)) (.held o)) (mPut M x o):=by
 refine⟨q3a hw,λy z=>?_⟩;unfold mPut;by_cases hy:y=x
 ·subst hy
  rw[if_pos rfl,atKey_put_same h.1.isMap (show WideAt.IsKeyLit (.int .u64 (y:Int)) from trivial)];rfl
 ·rw[if_neg hy,atKey_put_other (by intro e;injection e with _ e;omega),h.2 y]
theorem MpAt.size(h:MpAt w B D M){A:List Nat}(hA:∀x,M x≠none->x∈A):Maps.size D<=A.length:=by
 obtain⟨es,hD,hpw,hkey⟩:=h.1.entries lawW;obtain⟨es',hD',hko⟩:=h.1.keysOf;obtain rfl:es=es':=by rw[hD] at hD';simpa using hD'
 have hall:∀p∈es,∃x:Nat,p.1= .int .u64 (x:Int)/\x∈A:=by
  intro p hp;obtain⟨v,hv⟩:=hko p hp;obtain⟨x,-,hx,-⟩:=qjs wc6 hv;refine⟨x,hx,hA x (λe=>?_)⟩;have h1:=h.has x;rw[e,hD,has_eq] at h1;have h2:(es.any λq=>q.1.sameKey (.int .u64 (x:Int)))=true:=wf5.2 ⟨p,hp,by rw[hx];simp[Lit.sameKey]⟩;rw[h2] at h1;cases h1
 have hf:∃f:Lit->Nat,∀p∈es,p.1= .int .u64 ((f p.1:Nat):Int)/\f p.1∈A:=by
  refine⟨λl=>match l with| .int _ a=>a.toNat|_=>0,λp hp=>?_⟩;obtain⟨x,e,hx⟩:=hall p hp;rw[e];simp only[wam];exact⟨trivial,hx⟩
 obtain⟨f,hf⟩:=hf;have hnd:(es.map λp=>f p.1).Nodup:=by
  rw[List.nodup_iff_pairwise_ne,wfx];refine hpw.imp_of_mem ?_;intro p q hp hq hne e;exact hne (by rw[(hf p hp).1,(hf q hq).1,e])
 have:=hnd.length_le_of_subset (l₂:=A) (λy hy=>by
  obtain⟨p,hp,rfl⟩:=wav.1 hy;exact(hf p hp).2)
 rw[hD];simpa[Maps.size] using this
end
structure MapW (M:Nat->Option LV) (F:List LV) (C:List Nat):Prop where
 yes:∀(j:Nat) (o:LV),F[j]? =some o->M o.ad=some (o.withR ((C[j]?.getD 0:Nat):Int))
 no:∀x,x∉F.map LV.ad->M x=none
section
variable {M:Nat->Option LV} {F:List LV} {C:List Nat}
theorem MapW.start:MapW (λ_=>none) [] []:=⟨λj o h=>by simp at h,λ_ _=>rfl⟩
theorem MapW.old(h:MapW M F C)(hnd:(F.map LV.ad).Nodup){j:Nat}{o:LV}(hj:F[j]? =some o)(hC:j<C.length):MapW (mPut M o.ad (o.withR ((C[j]?.getD 0+1:Nat):Int))) F (C.set j (C[j]?.getD 0+1)):=by
 refine⟨λk q hk=>?_,λx hx=>?_⟩
 ·unfold mPut
  by_cases hkj:k=j
  ·subst hkj
   obtain rfl:o=q:=by rw[hj] at hk;exact wco hk
   rw[if_pos rfl,wb3 hC,wa8]
  ·rw[if_neg,h.yes k q hk,wbe (λe=>hkj e.symm)]
   intro e;obtain⟨a1,a2⟩:=wan.1 hk;obtain⟨b1,b2⟩:=wan.1 hj;have hp:=web.1 hnd;have e1:(F.map LV.ad)[k]'(by simpa using a1)=(F.map LV.ad)[j]'(by simpa using b1):=by simp[a2,b2,e]
   rcases wg2 hkj with hlt|hlt
   ·exact hp k j (by simpa using a1) (by simpa using b1) hlt e1
   ·exact hp j k (by simpa using b1) (by simpa using a1) hlt e1.symm
 ·unfold mPut
  rw[if_neg,h.no x hx];intro e;exact hx (by rw[e];exact wav.2 ⟨o,waq hj,rfl⟩)
theorem MapW.new(h:MapW M F C)(hFC:F.length=C.length){q:LV}(hn:q.ad∉F.map LV.ad):MapW (mPut M q.ad (q.withR 1)) (F++[q]) (C++[1]):=by
 refine⟨λk o hk=>?_,λx hx=>?_⟩
 ·unfold mPut
  by_cases hkF:k<F.length
  ·rw[wbk hkF] at hk
   rw[if_neg,h.yes k o hk,wbk Zo];intro e;exact hn (by rw[<-e];exact wav.2 ⟨o,waq hk,rfl⟩)
  ·have hkl:=(wan.1 hk).1
   rw[was,wca] at hkl;obtain rfl:k=F.length:=Zo
   obtain rfl:q=o:=by simpa using hk
   rw[if_pos rfl,hFC];simp
 ·unfold mPut
  rw[wcr,wa6,not_or] at hx;rw[if_neg (λe=>hx.2 (by simp[e])),h.no x hx.1]
theorem MapW.known(h:MapW M F C){x:Nat}(hx:x∈F.map LV.ad):∃(j:Nat) (o:LV),F[j]? =some o/\o.ad=x/\M x=some (o.withR ((C[j]?.getD 0:Nat):Int)):=by
 obtain⟨o,ho,rfl⟩:=wav.1 hx;obtain⟨j,hj⟩:=wc0 ho;exact⟨j,o,hj,rfl,h.yes j o hj⟩
theorem MapW.keys(h:MapW M F C)(x:Nat):(M x).isSome=true↔x∈F.map LV.ad:=by
 constructor
 ·intro hs
  by_cases hx:x∈F.map LV.ad
  ·exact hx
  ·rw[h.no x hx] at hs;cases hs
 ·intro hx
  obtain⟨j,o,-,-,e⟩:=h.known hx;rw[e];rfl
end
end Go.Proofs.YtocncmbeinmiaaaGreat
