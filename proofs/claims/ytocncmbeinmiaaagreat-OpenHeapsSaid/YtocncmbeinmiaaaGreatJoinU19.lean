/- Parts. No condition. -/
import Derived.Test.YtocncmbeinmiaaaGreatJoinU01
set_option linter.unusedVariables false
set_option maxRecDepth 100000
set_option maxHeartbeats 8000000
namespace Go.Proofs.YtocncmbeinmiaaaGreat
open Go Go.RowKit
open Go.Sort (SWO PermIn SortedIn swp permIn_refl permIn_trans permIn_all permIn_mono swp_permIn size_swp swp_other swp_left swp_right siftDown heapBuild heapPop)
theorem qp7(hi F:Nat):∀(n root:Nat) (d:Array Nat),hi - root<=n->(siftDown ltN hi F root d).size=d.size:=by
 intro n;induction n with
 |zero=>intro root d h;rw[siftDown,dif_pos Zo]
 |succ n ih=>
  intro root d h;rw[siftDown];repeat' split
  all_goals(try rfl)
  all_goals rw[ih _ _ Zo,size_swp]
theorem qfi{w W:World}{g:Nat}(h:Below g w W)(i j:Nat)(x y:Value):Below g w ((W.setCell ⟨g,i,none⟩ x).setCell ⟨g,j,none⟩ y):=(h.setCell (p:=⟨g,i,none⟩) (wab _) _).setCell (p:=⟨g,j,none⟩) (wab _) _
theorem Srt.same{W:World}{g c:Nat}{d e:Array Nat}(h:Srt W g c d)(he:d=e):Srt W g c e:=he▸h
theorem q5k(g c lo hi F:Nat)(d:Array Nat)(w:World)(h:Srt w g c d)(hb:F+hi<=d.size)(hlo:lo<=hi)(hn:d.size<=4611686018427387900):
  Calls Tryz.prog 434 #[.slice (some ⟨g,0,none⟩) d.size c,.int .i64 (lo:Int),.int .i64 (hi:Int),.int .i64 (F:Int)] w λe w'=>e= .returned (.tuple #[])/\Srt w' g c (siftDown ltN hi F lo d)/\Below g w w':=by
 obtain⟨N,hN⟩:∃N,d.size=N:=⟨_,rfl⟩
 rw[hN] at hb hn ⊢;have hless:=qe7;go_enter Tryz.func434,Tryz.ntmps434;go_wp2_with fail;go_loopg [8] (hi - lo) (λk s wr=>∃(root:Nat) (e:Array Nat),s= .int .i64 (root:Int)/\hi - root<=k/\root<=hi/\Hid (e.size=N)/\Hid (siftDown ltN hi F root e=siftDown ltN hi F lo d)/\Hid (Srt wr g c e)/\Hid (Below g w wr))
 case atStart=>exact⟨lo,d,rfl,wab _,hlo,waa hN,waa rfl,waa h,waa (wac _ _)⟩
 case round=>
  obtain⟨root,e,rfl,hk,hrh,hE,hO,hS,hB⟩:=hrel;obtain⟨kid,hkid⟩:∃kid:Nat,Hid (kid=2*root+1):=⟨_,waa rfl⟩
  have hkI:2*(root:Int)+1=(kid:Int):=by have:=hkid.out;omega
  have hkr:=waa (show root<kid from by have:=hkid.out;omega);by_cases hge:hi<=kid
  ·have hn2:=waa (show e=siftDown ltN hi F lo d from by rw[<-hO.out,siftDown,dif_pos (by have:=hkid.out;omega)])
   clear hO;go_wp2_with fail;go_end0
   exact⟨rfl,Srt.same hS.out hn2.out,hB.out⟩
  ·obtain⟨G,hG,hc,hf⟩:=hS.out.words
   rw[hE.out] at hc;have hkr:=hkr.out;by_cases hA:kid+1<hi
   ·have hA2:(kid:Int)+1<(hi:Int):=Zo
    have c1:=hc (F+kid) Zo;have c2:=hc (F+kid+1) Zo;have q1:F+kid<N:=Zo
    have q2:F+kid+1<N:=Zo
    obtain⟨B1,hB1⟩:∃B,ltN (G (F+kid)) (G (F+kid+1))=B:=⟨_,rfl⟩
    have hl1:=waa (λ(W:World)=>show Calls Tryz.prog 430 #[.int .u64 ((G (F+kid):Nat):Int),.int .u64 ((G (F+kid+1):Nat):Int)] W λe w'=>e= .returned (.bool B1)/\W=w' from by have:=hless (G (F+kid)) (G (F+kid+1)) W;rw[hB1] at this;exact this);have hB1:=waa (show ltN e[F+kid]! e[F+(kid+1)]! =B1 from by rw[<-hG.out,<-hG.out];exact hB1);cases B1 with
    |true=>
     have hnext:=waa (show ltN e[F+root]! e[F+(kid+1)]! =true->siftDown ltN hi F (kid+1) (swp e (F+root) (F+(kid+1)))=siftDown ltN hi F lo d from λhl=>by
      have hkd:=hkid.out;rw[<-hO.out];conv=>rhs;rw[siftDown,dif_neg Zo]
      subst hkd;rw[if_pos (by rw[show F+(2*root+1)+1=F+(2*root+1+1) from by omega,hB1.out];simp;omega),if_neg (by rw[show F+(2*root+2)=F+(2*root+1+1) from by omega,hl];simp),dif_pos Zo])
     have hstopS:=waa (show ltN e[F+root]! e[F+(kid+1)]! =false->e=siftDown ltN hi F lo d from λhl=>by
      have hkd:=hkid.out;rw[<-hO.out,siftDown,dif_neg Zo];subst hkd;rw[if_pos (by rw[show F+(2*root+1)+1=F+(2*root+1+1) from by omega,hB1.out];simp;omega),if_pos (by rw[show F+(2*root+2)=F+(2*root+1+1) from by omega,hl];rfl)])
     clear hO;have hcK:=waa hc;have hfK:=waa hf;clear hc hf;go_wp2_with fail;go_quiet (first|(go_at_call 430;exact qau (hl1.out _)))
     have hc:=hcK.out;have hf:=hfK.out;clear c1 c2 q1 q2 hl1 hB1 hcK hfK;obtain⟨p1,hp1⟩:∃p:Nat,Hid (p=F+root):=⟨_,waa rfl⟩
     obtain⟨p2,hp2⟩:∃p:Nat,Hid (p=F+(kid+1)):=⟨_,waa rfl⟩
     have r1:p1<N:=by have:=hp1.out;omega
     have r2:p2<N:=by have:=hp2.out;omega
     have k1:=hc p1 r1;have k2:=hc p2 r2;have f1:=hf p1;have f2:=hf p2;have hl2:=waa (λ(W:World)=>hless (G p1) (G p2) W);obtain⟨B2,hB2⟩:∃B,Hid (ltN (G p1) (G p2)=B):=⟨_,waa rfl⟩
     have hl2:=waa (λ(W:World)=>show Calls Tryz.prog 430 #[.int .u64 ((G p1:Nat):Int),.int .u64 ((G p2:Nat):Int)] W λe w'=>e= .returned (.bool B2)/\W=w' from by rw[<-hB2.out];exact hless (G p1) (G p2) W);have hB3:=waa (show ltN e[F+root]! e[F+(kid+1)]! =B2 from by rw[<-hp1.out,<-hp2.out,<-hG.out,<-hG.out];exact hB2.out);have hS2:=waa (λ(W:World) (hW:Srt W g c e) (x y:Int) (hx:x=((G p2:Nat):Int)) (hy:y=((G p1:Nat):Int))=>show Srt ((W.setCell ⟨g,p1,none⟩ (.int .u64 x)).setCell ⟨g,p2,none⟩ (.int .u64 y)).drew g c (swp e (F+root) (F+(kid+1))) from by rw[<-hp1.out,<-hp2.out];exact hW.swapped (by rw[hE.out];omega) (by rw[hE.out];omega) (hx.trans (by rw[hG.out])) (hy.trans (by rw[hG.out])));have hE2:=waa (show(swp e (F+root) (F+(kid+1))).size=N from by rw[size_swp];exact hE.out);have q1:(F:Int)+(root:Int)=(p1:Int):=by have:=hp1.out;omega
     have q2:(F:Int)+((kid:Int)+1)=(p2:Int):=by have:=hp2.out;omega
     clear hc hf hG hkI;go_wp2_with fail;go_quiet (first|(go_at_call 430;exact qau (hl2.out _))|(go_at_call 430;exact qcu (hl2.out _)))
     cases B2 with
     |true=>
      have hn2:=waa (hnext.out hB3.out);clear hnext hstopS;go_wp2_with fail;go_region
      go_wp2_with fail;go_roundg (hi - (kid+1))
      case measure=>omega
      case rel=>exact⟨(kid+1),swp e (F+root) (F+(kid+1)),by go_num,wab _,Zo,hE2,hn2,waa (hS2.out _ (hS.out.drewN _) _ _ rfl rfl),waa (by first|exact qa4 (qad hB.out _) _ _ _ _|exact qfi (qad hB.out _) _ _ _ _)⟩
     |false=>
      have hn2:=waa (hstopS.out hB3.out);clear hnext hstopS;go_wp2_with fail
      (try simp only[Exit.inBlock,Exit.then])
      refine bodyPost_ret (results_none rfl _ _ _) rfl ?_;exact⟨rfl,Srt.same hS.out hn2.out,by first|exact qad hB.out _|exact qad (qad hB.out _) _⟩
    |false=>
     have hnext:=waa (show ltN e[F+root]! e[F+(kid)]! =true->siftDown ltN hi F (kid) (swp e (F+root) (F+(kid)))=siftDown ltN hi F lo d from λhl=>by
      have hkd:=hkid.out;rw[<-hO.out];conv=>rhs;rw[siftDown,dif_neg Zo]
      subst hkd;rw[if_neg (by rw[show F+(2*root+1)+1=F+(2*root+1+1) from by omega,hB1.out];simp),if_neg (by rw[hl];simp)])
     have hstopS:=waa (show ltN e[F+root]! e[F+(kid)]! =false->e=siftDown ltN hi F lo d from λhl=>by
      have hkd:=hkid.out;rw[<-hO.out,siftDown,dif_neg Zo];subst hkd;rw[if_neg (by rw[show F+(2*root+1)+1=F+(2*root+1+1) from by omega,hB1.out];simp),if_pos (by rw[hl];rfl)])
     clear hO;have hcK:=waa hc;have hfK:=waa hf;clear hc hf;go_wp2_with fail;go_quiet (first|(go_at_call 430;exact qau (hl1.out _)))
     have hc:=hcK.out;have hf:=hfK.out;clear c1 c2 q1 q2 hl1 hB1 hcK hfK;obtain⟨p1,hp1⟩:∃p:Nat,Hid (p=F+root):=⟨_,waa rfl⟩
     obtain⟨p2,hp2⟩:∃p:Nat,Hid (p=F+kid):=⟨_,waa rfl⟩
     have r1:p1<N:=by have:=hp1.out;omega
     have r2:p2<N:=by have:=hp2.out;omega
     have k1:=hc p1 r1;have k2:=hc p2 r2;have f1:=hf p1;have f2:=hf p2;have hl2:=waa (λ(W:World)=>hless (G p1) (G p2) W);obtain⟨B2,hB2⟩:∃B,Hid (ltN (G p1) (G p2)=B):=⟨_,waa rfl⟩
     have hl2:=waa (λ(W:World)=>show Calls Tryz.prog 430 #[.int .u64 ((G p1:Nat):Int),.int .u64 ((G p2:Nat):Int)] W λe w'=>e= .returned (.bool B2)/\W=w' from by rw[<-hB2.out];exact hless (G p1) (G p2) W);have hB3:=waa (show ltN e[F+root]! e[F+kid]! =B2 from by rw[<-hp1.out,<-hp2.out,<-hG.out,<-hG.out];exact hB2.out);have hS2:=waa (λ(W:World) (hW:Srt W g c e) (x y:Int) (hx:x=((G p2:Nat):Int)) (hy:y=((G p1:Nat):Int))=>show Srt ((W.setCell ⟨g,p1,none⟩ (.int .u64 x)).setCell ⟨g,p2,none⟩ (.int .u64 y)).drew g c (swp e (F+root) (F+kid)) from by rw[<-hp1.out,<-hp2.out];exact hW.swapped (by rw[hE.out];omega) (by rw[hE.out];omega) (hx.trans (by rw[hG.out])) (hy.trans (by rw[hG.out])));have hE2:=waa (show(swp e (F+root) (F+kid)).size=N from by rw[size_swp];exact hE.out);have q1:(F:Int)+(root:Int)=(p1:Int):=by have:=hp1.out;omega
     have q2:(F:Int)+((kid:Int))=(p2:Int):=by have:=hp2.out;omega
     clear hc hf hG hkI;go_wp2_with fail;go_quiet (first|(go_at_call 430;exact qau (hl2.out _))|(go_at_call 430;exact qcu (hl2.out _)))
     cases B2 with
     |true=>
      have hn2:=waa (hnext.out hB3.out);clear hnext hstopS;go_wp2_with fail;go_region
      go_wp2_with fail;go_roundg (hi - kid)
      case measure=>omega
      case rel=>exact⟨kid,swp e (F+root) (F+kid),by go_num,wab _,Zo,hE2,hn2,waa (hS2.out _ (hS.out.drewN _) _ _ rfl rfl),waa (by first|exact qa4 (qad hB.out _) _ _ _ _|exact qfi (qad hB.out _) _ _ _ _)⟩
     |false=>
      have hn2:=waa (hstopS.out hB3.out);clear hnext hstopS;go_wp2_with fail
      (try simp only[Exit.inBlock,Exit.then])
      refine bodyPost_ret (results_none rfl _ _ _) rfl ?_;exact⟨rfl,Srt.same hS.out hn2.out,by first|exact qad hB.out _|exact qad (qad hB.out _) _⟩
   ·have hA2:decide ((kid:Int)+1<(hi:Int))=false:=by simp;omega
    have hnext:=waa (show ltN e[F+root]! e[F+(kid)]! =true->siftDown ltN hi F (kid) (swp e (F+root) (F+(kid)))=siftDown ltN hi F lo d from λhl=>by
     have hkd:=hkid.out;rw[<-hO.out];conv=>rhs;rw[siftDown,dif_neg Zo]
     subst hkd;rw[if_neg Zx,if_neg (by rw[hl];simp)])
    have hstopS:=waa (show ltN e[F+root]! e[F+(kid)]! =false->e=siftDown ltN hi F lo d from λhl=>by
     have hkd:=hkid.out;rw[<-hO.out,siftDown,dif_neg Zo];subst hkd;rw[if_neg Zx,if_pos (by rw[hl];rfl)])
    clear hO;have hcK:=waa hc;have hfK:=waa hf;clear hc hf;go_wp2_with fail;go_quiet (fail)
    have hc:=hcK.out;have hf:=hfK.out;clear hcK hfK;obtain⟨p1,hp1⟩:∃p:Nat,Hid (p=F+root):=⟨_,waa rfl⟩
    obtain⟨p2,hp2⟩:∃p:Nat,Hid (p=F+kid):=⟨_,waa rfl⟩
    have r1:p1<N:=by have:=hp1.out;omega
    have r2:p2<N:=by have:=hp2.out;omega
    have k1:=hc p1 r1;have k2:=hc p2 r2;have f1:=hf p1;have f2:=hf p2;have hl2:=waa (λ(W:World)=>hless (G p1) (G p2) W);obtain⟨B2,hB2⟩:∃B,Hid (ltN (G p1) (G p2)=B):=⟨_,waa rfl⟩
    have hl2:=waa (λ(W:World)=>show Calls Tryz.prog 430 #[.int .u64 ((G p1:Nat):Int),.int .u64 ((G p2:Nat):Int)] W λe w'=>e= .returned (.bool B2)/\W=w' from by rw[<-hB2.out];exact hless (G p1) (G p2) W);have hB3:=waa (show ltN e[F+root]! e[F+kid]! =B2 from by rw[<-hp1.out,<-hp2.out,<-hG.out,<-hG.out];exact hB2.out);have hS2:=waa (λ(W:World) (hW:Srt W g c e) (x y:Int) (hx:x=((G p2:Nat):Int)) (hy:y=((G p1:Nat):Int))=>show Srt ((W.setCell ⟨g,p1,none⟩ (.int .u64 x)).setCell ⟨g,p2,none⟩ (.int .u64 y)).drew g c (swp e (F+root) (F+kid)) from by rw[<-hp1.out,<-hp2.out];exact hW.swapped (by rw[hE.out];omega) (by rw[hE.out];omega) (hx.trans (by rw[hG.out])) (hy.trans (by rw[hG.out])));have hE2:=waa (show(swp e (F+root) (F+kid)).size=N from by rw[size_swp];exact hE.out);have q1:(F:Int)+(root:Int)=(p1:Int):=by have:=hp1.out;omega
    have q2:(F:Int)+((kid:Int))=(p2:Int):=by have:=hp2.out;omega
    clear hc hf hG hkI;go_wp2_with fail;go_quiet (first|(go_at_call 430;exact qau (hl2.out _))|(go_at_call 430;exact qcu (hl2.out _)))
    cases B2 with
    |true=>
     have hn2:=waa (hnext.out hB3.out);clear hnext hstopS;go_wp2_with fail;go_region
     go_wp2_with fail;go_roundg (hi - kid)
     case measure=>omega
     case rel=>exact⟨kid,swp e (F+root) (F+kid),by go_num,wab _,Zo,hE2,hn2,waa (hS2.out _ (hS.out.drewN _) _ _ rfl rfl),waa (by first|exact qa4 (qad hB.out _) _ _ _ _|exact qfi (qad hB.out _) _ _ _ _)⟩
    |false=>
     have hn2:=waa (hstopS.out hB3.out);clear hnext hstopS;go_wp2_with fail
     (try simp only[Exit.inBlock,Exit.then])
     refine bodyPost_ret (results_none rfl _ _ _) rfl ?_;exact⟨rfl,Srt.same hS.out hn2.out,by first|exact qad hB.out _|exact qad (qad hB.out _) _⟩
theorem q3b(g c a b:Nat)(d:Array Nat)(w:World)(h:Srt w g c d)(hab:a<=b)(hb:b<=d.size)(hn:d.size<=4611686018427387900):
  Calls Tryz.prog 425 #[.slice (some ⟨g,0,none⟩) d.size c,.int .i64 (a:Int),.int .i64 (b:Int)] w λe w'=>e= .returned (.tuple #[])/\Srt w' g c (Go.Sort.heapSort ltN d a b)/\Below g w w':=by
 obtain⟨N,hN⟩:∃N,d.size=N:=⟨_,rfl⟩
 have hs:=waa (λ(lo hi:Nat) (e:Array Nat) (W:World) (hW:Srt W g c e) (he:e.size=N) (h1:a+hi<=e.size) (h2:lo<=hi)=>show Calls Tryz.prog 434 #[.slice (some ⟨g,0,none⟩) N c,.int .i64 (lo:Int),.int .i64 (hi:Int),.int .i64 (a:Int)] W λq w'=>q= .returned (.tuple #[])/\Srt w' g c (siftDown ltN hi a lo e)/\Below g W w' from by rw[<-he];exact q5k g c lo hi a e W hW h1 h2 Zo);rw[hN] at hb hn ⊢;obtain⟨n,hnn⟩:∃n,n=b - a:=⟨_,rfl⟩
 have hnI:(b:Int) - (a:Int)=(n:Int):=Zo
 have hfin:=waa (show Go.Sort.heapSort ltN d a b=heapPop ltN a n (heapBuild ltN n a ((n - 1)/2+1) d) from by rw[Go.Sort.heapSort,hnn]);have hNK:=waa hN;have hK:=waa h;have hgw:=waa (show g<w.heap.size from h.lt);have hNn:n<=N:=Zo
 have han:a+n<=N:=Zo
 have hbK:=waa hnn;have hm0I:=waa (show Value.int .i64 (((n:Int) - 1).tdiv 2)= .int .i64 ((((n - 1)/2+1:Nat):Int) - 1) from by
  congr 1
  rcases Nat.eq_zero_or_pos n with h0|h0
  ·subst h0;decide
  ·rw[wew Zo];omega)
 clear hN h hnn hab hb;go_enter Tryz.func425,Tryz.ntmps425;go_wp2_with fail;go_loopg [9] (n+1) (λk s wr=>∃(j:Nat) (e:Array Nat),s= .int .i64 ((j:Int) - 1)/\j<=k/\j<=n+1/\Hid (e.size=N)/\Hid (heapBuild ltN n a j e=heapBuild ltN n a ((n - 1)/2+1) d)/\Hid (Srt wr g c e)/\Hid (Below g w wr))
 case atStart=>exact⟨(n - 1)/2+1,d,hm0I.out,Zo,Zo,hNK,waa rfl,hK,waa (wac _ _)⟩
 case round=>
  obtain⟨j,e,rfl,hk,hjn,hE,hO,hS,hB⟩:=hrel;cases j with
  |succ i=>
   have hS1:=waa (hS.out);have hc1:=waa (hs.out i n e wr hS.out hE.out (by rw[hE.out];exact han) Zo);have hi1:((i+1:Nat):Int) - 1=(i:Int):=Zo
   rw[hi1];clear hi1;go_wp2_with (go_at_call 434;refine hc1.out.mono ?_;rintro q w1 ⟨rfl,hS2,hB2⟩)
   have hS2:=waa hS2;have hB2:=waa hB2;go_roundg i
   case measure=>omega
   case rel=>exact⟨i,_,rfl,wab _,Zo,waa (by rw[qp7 n a _ _ _ (wab _)];exact hE.out),hO,hS2,waa (hB.out.trans hB2.out)⟩
  |zero=>
   obtain⟨E0,hE0⟩:∃E0,heapBuild ltN n a ((n - 1)/2+1) d=E0:=⟨_,rfl⟩
   have hEe:=waa (show e=E0 from by rw[<-hE0,<-hO.out];rfl);rw[hE0] at hfin;have hfin:=waa hfin;clear hO hE0;go_wp2_with fail;go_loopg [10] n (λk s wr=>∃(j:Nat) (e:Array Nat),s= .int .i64 ((j:Int) - 1)/\j<=k/\j<=n/\Hid (e.size=N)/\Hid (heapPop ltN a j e=heapPop ltN a n E0)/\Hid (Srt wr g c e)/\Hid (Below g w wr))
   case atStart=>exact⟨n,e,rfl,wab _,wab _,hE,waa (by rw[hEe.out]),hS,hB⟩
   case round=>
    clear hE hS hB hEe;obtain⟨j,e,rfl,hk,hjn,hE,hO,hS,hB⟩:=hrel;cases j with
    |succ i=>
     have hi1:((i+1:Nat):Int) - 1=(i:Int):=Zo
     rw[hi1];clear hi1;obtain⟨G,hG,hc,hf⟩:=hS.out.words;rw[hE.out] at hc;obtain⟨p2,hp2⟩:∃p:Nat,Hid (p=a+i):=⟨_,waa rfl⟩
     have r1:a<N:=Zo
     have r2:p2<N:=by have:=hp2.out;omega
     have k1:=hc a r1;have k2:=hc p2 r2;have f1:=hf a;have f2:=hf p2;have c3:=Srt.again hS.out a k2;have q2:(a:Int)+(i:Int)=(p2:Int):=by have:=hp2.out;omega
     have hE2:=waa (show(swp e a p2).size=N from by rw[size_swp];exact hE.out);have hO2:=waa (show heapPop ltN a i (siftDown ltN i a 0 (swp e a p2))=heapPop ltN a n E0 from by rw[hp2.out,<-hO.out];rfl);have hc1:=waa (λ(W:World) (hW:Srt W g c (swp e a p2))=>hs.out 0 i (swp e a p2) W hW hE2.out (by rw[hE2.out];omega) Zo);have hS1:=waa (hS.out.swapped (i:=a) (j:=p2) (x:=((G p2:Nat):Int)) (y:=((G a:Nat):Int)) (by rw[hE.out];omega) (by rw[hE.out];omega) (by rw[hG.out]) (by rw[hG.out]));have hB1:=waa (qa4 hB.out a p2 (.int .u64 ((G p2:Nat):Int)) (.int .u64 ((G a:Nat):Int)));clear hc hf hO;go_wp2_with fail;go_region
     generalize ((wr.setCell ⟨g,a,none⟩ (.int .u64 ((G p2:Nat):Int))).setCell ⟨g,p2,none⟩ (.int .u64 ((G a:Nat):Int))).drew=W1 at hS1 hB1 ⊢;have hc2:=waa (hc1.out W1 hS1.out);go_wp2_with (go_at_call 434;refine hc2.out.mono ?_;rintro q w1 ⟨rfl,hS2,hB2⟩)
     have hS2:=waa hS2;have hB2:=waa hB2;go_roundg i
     case measure=>omega
     case rel=>exact⟨i,_,rfl,wab _,Zo,waa (by rw[qp7 i a _ _ _ (wab _)];exact hE2.out),hO2,hS2,waa (hB1.out.trans hB2.out)⟩
    |zero=>
     have hEq:=waa (show e=Go.Sort.heapSort ltN d a b from by rw[hfin.out,<-hO.out];rfl);clear hO;go_wp2_with fail;go_end0
     exact⟨rfl,Srt.same hS.out hEq.out,hB.out⟩
end Go.Proofs.YtocncmbeinmiaaaGreat
namespace Go.Proofs.YtocncmbeinmiaaaGreat
open Go Go.RowKit
open Go.Sort (SWO PermIn SortedIn swp permIn_refl permIn_trans permIn_all permIn_mono swp_permIn size_swp swp_other swp_left swp_right scanSorted shiftDown shiftUp partialIns partialInsertionSort)
theorem q2b(g c a b:Nat)(d:Array Nat)(w:World)(h:Srt w g c d)(hab:a<b)(hb:b<=d.size)(hn:d.size<=4611686018427387900):
  Calls Tryz.prog 429 #[.slice (some ⟨g,0,none⟩) d.size c,.int .i64 (a:Int),.int .i64 (b:Int)] w λe w'=>e= .returned (.bool (partialInsertionSort ltN d a b).2)/\Srt w' g c (partialInsertionSort ltN d a b).1/\Below g w w':=by
 obtain⟨N,hN⟩:∃N,d.size=N:=⟨_,rfl⟩
 rw[hN] at hb hn ⊢;have hless:=qe7;obtain⟨R,hR⟩:∃R,partialInsertionSort ltN d a b=R:=⟨_,rfl⟩
 rw[hR];have hRK:=waa (show partialIns ltN a b 5 (a+1) d=R from hR);have hNK:=waa hN;have hK:=waa h;clear hR hN h;go_enter Tryz.func429,Tryz.ntmps429;go_wp2_with fail;go_loopg [7,8] 5 (λk s7 s8 wr=>∃(t i:Nat) (e:Array Nat),s7= .int .i64 (i:Int)/\s8= .int .i64 (5 - (t:Int))/\t<=k/\t<=5/\a<i/\i<=b/\Hid (e.size=N)/\Hid (partialIns ltN a b t i e=R)/\Hid (Srt wr g c e)/\Hid (Below g w wr))
 case atStart=>exact⟨5,a+1,d,by go_num,by go_num,wab _,wab _,Zo,Zo,hNK,hRK,hK,waa (wac _ _)⟩
 case round=>
  obtain⟨t,i,e,rfl,rfl,hk,ht,hai,hib,hE,hO,hS,hB⟩:=hrel;cases t with
  |zero=>
   have hEq:=waa (show R=(e,false) from by rw[<-hO.out];rfl);clear hO;go_wp2_with fail;go_ret;exact⟨by rw[hEq.out];rfl,by rw[hEq.out];exact hS.out,hB.out⟩
  |succ t=>
   have ht5:(5:Int) - ((t+1:Nat):Int)<5:=Zo
   go_upto_block 2 with fail
   go_cut [7] from 13 to 132 (λs wx=>∃q:Nat,s= .int .i64 (q:Int)/\i<=q/\q<=b/\Hid (scanSorted ltN e b i=q)/\Hid (Srt wx g c e)/\Hid (Below g w wx))
   case first=>
    go_wp2_with fail;go_loopg [7] (b - i) (λk s wr=>∃q:Nat,s= .int .i64 (q:Int)/\b - q<=k/\i<=q/\q<=b/\Hid (scanSorted ltN e b q=scanSorted ltN e b i)/\Hid (Srt wr g c e)/\Hid (Below g w wr))
    case atStart=>exact⟨i,rfl,wab _,wab _,hib,waa rfl,hS,hB⟩
    case round=>
     clear hS hB hO;obtain⟨q,rfl,hk2,hiq,hqb,hQ,hS,hB⟩:=hrel;obtain⟨G,hG,hc,hf⟩:=hS.out.words;rw[hE.out] at hc;by_cases hlt:q<b
     ·have r1:q<N:=Zo
      have r2:q - 1<N:=Zo
      have k1:=hc q r1;have k2:=hc (q - 1) r2;clear hc hf;obtain⟨B,hB1⟩:∃B,Hid (ltN (G (q)) (G (q - 1))=B):=⟨_,waa rfl⟩
      have hl:=waa (λ(W:World)=>show Calls Tryz.prog 430 #[.int .u64 ((G (q):Nat):Int),.int .u64 ((G (q - 1):Nat):Int)] W λe w'=>e= .returned (.bool B)/\W=w' from by rw[<-hB1.out];exact hless (G (q)) (G (q - 1)) W);have hB2:=waa (show ltN e[q]! e[q - 1]! =B from by rw[<-hG.out,<-hG.out];exact hB1.out);go_wp2_with fail;go_quiet (first|(go_at_call 430;exact qau (hl.out _))|(go_at_call 430;exact qcu (hl.out _)))
      cases B with
      |true=>
       have hQ2:=waa (show scanSorted ltN e b i=q from by rw[<-hQ.out,scanSorted,if_neg (by rw[hB2.out];simp)]);clear hQ;go_wp2_with fail;go_meet
       exact⟨q,rfl,hiq,hqb,hQ2,waa (hS.out.drewN nq),waa (qad hB.out nq)⟩
      |false=>
       have hQ2:=waa (show scanSorted ltN e b (q+1)=scanSorted ltN e b i from by rw[<-hQ.out];conv=>rhs;rw[scanSorted,if_pos (by rw[hB2.out];simp;omega)]);clear hQ;go_wp2_with fail;go_roundg (b - (q+1))
       case measure=>omega
       case rel=>exact⟨q+1,by go_num,wab _,Zo,Zo,hQ2,waa (hS.out.drewN nq),waa (qad hB.out nq)⟩
     ·have hQ2:=waa (show scanSorted ltN e b i=q from by rw[<-hQ.out,scanSorted,if_neg Zx])
      clear hQ;go_wp2_with fail;go_quiet (fail)
      go_wp2_with fail;go_meet
      exact⟨q,rfl,hiq,hqb,hQ2,waa (hS.out.drewN nq),waa (qad hB.out nq)⟩
   case rest=>
    clear hS hB;obtain⟨q,rfl,hiq,hqb,hQ,hS,hB⟩:=hcut;by_cases hqe:q=b
    ·have hEq:=waa (show R=(e,true) from by
      rw[<-hO.out,partialIns,hQ.out];exact if_pos hqe)
     clear hO hQ;subst hqe;go_wp2_with fail;go_ret;exact⟨by rw[hEq.out];rfl,by rw[hEq.out];exact hS.out,hB.out⟩
    ·by_cases h50:b - a<50
     ·have hEq:=waa (show R=(e,false) from by
       rw[<-hO.out,partialIns,hQ.out];exact(if_neg hqe).trans (if_pos h50))
      clear hO hQ;have hqe2:¬(q:Int)=(b:Int):=Zo
      have h502:(b:Int) - (a:Int)<50:=Zo
      go_wp2_with fail;go_ret;exact⟨by rw[hEq.out];rfl,by rw[hEq.out];exact hS.out,hB.out⟩
     ·have hqe2:¬(q:Int)=(b:Int):=Zo
      have h502:¬(b:Int) - (a:Int)<50:=Zo
      obtain⟨G,hG,hc,hf⟩:=hS.out.words;rw[hE.out] at hc;have r1:q<N:=Zo
      have r2:q - 1<N:=Zo
      have k1:=hc q r1;have k2:=hc (q - 1) r2;have f1:=hf q;have f2:=hf (q - 1);obtain⟨e2,he2⟩:∃e2,swp e q (q - 1)=e2:=⟨_,rfl⟩
      have hE2:=waa (show e2.size=N from by rw[<-he2,size_swp];exact hE.out);have hS2:=waa (λ(W:World) (hW:Srt W g c e)=>show Srt ((W.setCell ⟨g,q,none⟩ (.int .u64 ((G (q - 1):Nat):Int))).setCell ⟨g,q - 1,none⟩ (.int .u64 ((G q:Nat):Int))).drew g c e2 from by rw[<-he2];exact hW.swapped (by rw[hE.out];omega) (by rw[hE.out];omega) (by rw[hG.out]) (by rw[hG.out]));have hO2:=waa (show partialIns ltN a b t q (if b - q>=2 then shiftUp ltN b (q+1) (if q - a>=2 then shiftDown ltN (q - 1) e2 else e2) else(if q - a>=2 then shiftDown ltN (q - 1) e2 else e2))=R from by
       rw[<-hO.out];conv=>rhs;rw[partialIns,hQ.out]
       rw[<-he2];exact((if_neg hqe).trans (if_neg h50)).symm)
      clear hc hf hO hQ he2;go_wp2_with fail;go_region
      have hS:=waa (hS2.out _ hS.out);have hB:=waa (qa4 hB.out q (q - 1) (.int .u64 ((G (q - 1):Nat):Int)) (.int .u64 ((G q:Nat):Int)));generalize ((wc.setCell ⟨g,q,none⟩ (.int .u64 ((G (q - 1):Nat):Int))).setCell ⟨g,q - 1,none⟩ (.int .u64 ((G q:Nat):Int))).drew=W1 at hS hB ⊢;clear k1 k2 f1 f2 hS2 hG;go_upto_if 61 with fail
      go_cut [9] from 13 to 132 (λs wx=>∃e3:Array Nat,Hid (e3.size=N)/\Hid (e3=if q - a>=2 then shiftDown ltN (q - 1) e2 else e2)/\Hid (Srt wx g c e3)/\Hid (Below g w wx))
      case first=>
       by_cases h2:2<=q - a
       ·have h2i:(2:Int)<=(q:Int) - (a:Int):=Zo
        go_wp2_with fail;go_loopg [9] (q - 1) (λk s wr=>∃(j:Nat) (f:Array Nat),s= .int .i64 (j:Int)/\j<=k/\j<=q - 1/\Hid (f.size=N)/\Hid (shiftDown ltN j f=shiftDown ltN (q - 1) e2)/\Hid (Srt wr g c f)/\Hid (Below g w wr))
        case atStart=>exact⟨q - 1,e2,by go_num,wab _,wab _,hE2,waa rfl,hS,hB⟩
        case round=>
         clear hS hB hE2 hE hO2;obtain⟨j,f,rfl,hk2,hjq,hE,hO,hS,hB⟩:=hrel;cases j with
         |zero=>
          have hEq:=waa (show f=if q - a>=2 then shiftDown ltN (q - 1) e2 else e2 from by rw[if_pos h2,<-hO.out];rfl);clear hO;go_wp2_with fail;go_meet
          exact⟨f,hE,hEq,hS,hB⟩
         |succ j=>
          obtain⟨G,hG,hc,hf⟩:=hS.out.words;rw[hE.out] at hc;have r1:j+1<N:=Zo
          have r2:j<N:=Zo
          have k1:=hc (j+1) r1;have k2:=hc j r2;have f1:=hf (j+1);have f2:=hf j;clear hc hf;obtain⟨B,hB1⟩:∃B,Hid (ltN (G (j+1)) (G (j))=B):=⟨_,waa rfl⟩
          have hl:=waa (λ(W:World)=>show Calls Tryz.prog 430 #[.int .u64 ((G (j+1):Nat):Int),.int .u64 ((G (j):Nat):Int)] W λe w'=>e= .returned (.bool B)/\W=w' from by rw[<-hB1.out];exact hless (G (j+1)) (G (j)) W);have hB2:=waa (show ltN f[j+1]! f[j]! =B from by rw[<-hG.out,<-hG.out];exact hB1.out);go_wp2_with fail;go_quiet (first|(go_at_call 430;exact qau (hl.out _))|(go_at_call 430;exact qcu (hl.out _)))
          cases B with
          |true=>
           have hO3:=waa (show shiftDown ltN j (swp f (j+1) j)=shiftDown ltN (q - 1) e2 from by rw[<-hO.out];conv=>rhs;rw[shiftDown,if_neg (by rw[hB2.out];simp)]);clear hO;go_wp2_with fail;go_region
           go_wp2_with fail;go_roundg j
           case measure=>omega
           case rel=>exact⟨j,swp f (j+1) j,by go_num,wab _,Zo,waa (by rw[size_swp];exact hE.out),hO3,waa ((hS.out.drewN _).swapped (by rw[hE.out];omega) (by rw[hE.out];omega) (by rw[hG.out]) (by rw[hG.out])),waa (by first|exact qa4 (qad hB.out _) _ _ _ _|exact qfi (qad hB.out _) _ _ _ _)⟩
          |false=>
           have hEq:=waa (show f=if q - a>=2 then shiftDown ltN (q - 1) e2 else e2 from by rw[if_pos h2,<-hO.out,shiftDown,if_pos (by rw[hB2.out];rfl)]);clear hO;go_wp2_with fail;go_meet
           exact⟨f,hE,hEq,waa (hS.out.drewN _),waa (qad hB.out _)⟩
       ·have h2i:¬(2:Int)<=(q:Int) - (a:Int):=Zo
        go_wp2_with fail;go_meet
        exact⟨e2,hE2,waa (if_neg h2).symm,hS,hB⟩
      case rest=>
       clear hS hB hE2;obtain⟨e3,hE3,he3,hS,hB⟩:=hcut;have hO3:=waa (show partialIns ltN a b t q (if b - q>=2 then shiftUp ltN b (q+1) e3 else e3)=R from by rw[he3.out];exact hO2.out);clear hO2 he3;by_cases h2:2<=b - q
       ·have h2i:(2:Int)<=(b:Int) - (q:Int):=Zo
        go_wp2_with fail;go_loopg [10] (b - (q+1)) (λk s wr=>∃(j:Nat) (f:Array Nat),s= .int .i64 (j:Int)/\b - j<=k/\q<j/\j<=b/\Hid (f.size=N)/\Hid (shiftUp ltN b j f=shiftUp ltN b (q+1) e3)/\Hid (Srt wr g c f)/\Hid (Below g w wr))
        case atStart=>exact⟨q+1,e3,by go_num,wab _,Zo,Zo,hE3,waa rfl,hS,hB⟩
        case round=>
         clear hS hB hE3 hE;obtain⟨j,f,rfl,hk2,hqj,hjb,hE,hO,hS,hB⟩:=hrel;by_cases hjlt:j<b
         ·obtain⟨G,hG,hc,hf⟩:=hS.out.words
          rw[hE.out] at hc;have r1:j<N:=Zo
          have r2:j - 1<N:=Zo
          have k1:=hc j r1;have k2:=hc (j - 1) r2;have f1:=hf j;have f2:=hf (j - 1);clear hc hf;obtain⟨B,hB1⟩:∃B,Hid (ltN (G (j)) (G (j - 1))=B):=⟨_,waa rfl⟩
          have hl:=waa (λ(W:World)=>show Calls Tryz.prog 430 #[.int .u64 ((G (j):Nat):Int),.int .u64 ((G (j - 1):Nat):Int)] W λe w'=>e= .returned (.bool B)/\W=w' from by rw[<-hB1.out];exact hless (G (j)) (G (j - 1)) W);have hB2:=waa (show ltN f[j]! f[j - 1]! =B from by rw[<-hG.out,<-hG.out];exact hB1.out);go_wp2_with fail;go_quiet (first|(go_at_call 430;exact qau (hl.out _))|(go_at_call 430;exact qcu (hl.out _)))
          cases B with
          |true=>
           have hO4:=waa (show shiftUp ltN b (j+1) (swp f j (j - 1))=shiftUp ltN b (q+1) e3 from by rw[<-hO.out];conv=>rhs;rw[shiftUp,if_pos hjlt,if_neg (by rw[hB2.out];simp)]);clear hO;go_wp2_with fail;go_region
           go_wp2_with fail;go_roundg (b - (j+1))
           case measure=>omega
           case rel=>exact⟨j+1,swp f j (j - 1),by go_num,wab _,Zo,Zo,waa (by rw[size_swp];exact hE.out),hO4,waa ((hS.out.drewN _).swapped (by rw[hE.out];omega) (by rw[hE.out];omega) (by rw[hG.out]) (by rw[hG.out])),waa (by first|exact qa4 (qad hB.out _) _ _ _ _|exact qfi (qad hB.out _) _ _ _ _)⟩
          |false=>
           have hEq:=waa (show f=if b - q>=2 then shiftUp ltN b (q+1) e3 else e3 from by rw[if_pos h2,<-hO.out,shiftUp,if_pos hjlt,if_pos (by rw[hB2.out];rfl)]);have hO4:=waa (show partialIns ltN a b t q f=R from by rw[hEq.out];exact hO3.out);clear hO hEq;go_wp2_with fail;go_roundg t
           case measure=>omega
           case rel=>exact⟨t,q,f,rfl,by go_num,wab _,Zo,Zo,Zo,hE,hO4,waa (hS.out.drewN _),waa (qad hB.out _)⟩
         ·have hEq:=waa (show f=if b - q>=2 then shiftUp ltN b (q+1) e3 else e3 from by rw[if_pos h2,<-hO.out,shiftUp,if_neg hjlt])
          have hO4:=waa (show partialIns ltN a b t q f=R from by rw[hEq.out];exact hO3.out);clear hO hEq;go_wp2_with fail;go_roundg t
          case measure=>omega
          case rel=>exact⟨t,q,f,rfl,by go_num,wab _,Zo,Zo,Zo,hE,hO4,hS,hB⟩
       ·have h2i:¬(2:Int)<=(b:Int) - (q:Int):=Zo
        have hO4:=waa (show partialIns ltN a b t q e3=R from by rw[<-hO3.out,if_neg h2]);have hE:=hE3;go_wp2_with fail;go_roundg t
        case measure=>omega
        case rel=>exact⟨t,q,e3,rfl,by go_num,wab _,Zo,Zo,Zo,hE,hO4,hS,hB⟩
end Go.Proofs.YtocncmbeinmiaaaGreat
namespace Go.Proofs.YtocncmbeinmiaaaGreat
open Go Go.RowKit
open Go.Sort (SWO PermIn SortedIn swp permIn_refl permIn_trans permIn_all permIn_mono swp_permIn size_swp swp_other swp_left swp_right)
def Sw(W:World)(q:Nat)(s:Nat):Prop:=W.heap[q]? =some (.cells #[.int .i64 (s:Int)] 3 (0,0))
theorem Sw.cell{W:World}{q s:Nat}(h:Sw W q s):W.cell? ⟨q,0,none⟩=some (.int .i64 (s:Int)):=by rw[qaa h];rfl
theorem Sw.froz{W:World}{q s:Nat}(h:Sw W q s):W.frozen? ⟨q,0,none⟩=false:=qaj h 0
theorem Sw.more{W:World}{q s:Nat}(h:Sw W q s)(t:Nat)(x:Int)(hx:x=(t:Int)):Sw (W.setCell ⟨q,0,none⟩ (.int .i64 x)) q t:=by subst hx;exact qah h 0 _
theorem q4c(g c q s a b:Nat)(d:Array Nat)(w:World)(h:Srt w g c d)(hs:Sw w q s)(hs1:s<1000)(ha:a<d.size)(hb:b<d.size)(hn:d.size<=60000):
  Calls Tryz.prog 438 #[.slice (some ⟨g,0,none⟩) d.size c,.int .i64 (a:Int),.int .i64 (b:Int),.pointer (some ⟨q,0,none⟩)] w λe w'=>∃(x y t:Nat),e= .returned (.tuple #[.int .i64 (x:Int),.int .i64 (y:Int)])/\((x=a/\y=b)\/(x=b/\y=a))/\t<=s+1/\Sw w' q t/\Below q w w':=by
 obtain⟨N,hN⟩:∃N,d.size=N:=⟨_,rfl⟩
 rw[hN] at ha hb hn ⊢;obtain⟨G,hG,hc,hf⟩:=h.words;rw[hN] at hc;have k1:=hc b hb;have k2:=hc a ha;have s1:=hs.cell;have s2:=hs.froz;obtain⟨B,hB1⟩:∃B,Hid (ltN (G b) (G a)=B):=⟨_,waa rfl⟩
 have hl:=waa (λ(W:World)=>show Calls Tryz.prog 430 #[.int .u64 ((G b:Nat):Int),.int .u64 ((G a:Nat):Int)] W λe w'=>e= .returned (.bool B)/\W=w' from by rw[<-hB1.out];exact qe7 (G b) (G a) W);have hsK:=waa hs;clear hc hf hN h hs;go_enter Tryz.func438,Tryz.ntmps438;go_wp2_with fail;go_quiet (first|(go_at_call 430;exact qau (hl.out _)))
 cases B with
 |true=>
  go_wp2_with fail;go_ret2;exact⟨b,a,s+1,rfl,.inr ⟨rfl,rfl⟩,wab _,Sw.more (W:=w.drewN nq) hsK.out _ _ Zs,(qad (wac q w) nq).setCell (p:=⟨q,0,none⟩) (wab _) _⟩
 |false=>
  go_wp2_with fail;go_ret2;exact⟨a,b,s,rfl,.inl ⟨rfl,rfl⟩,Zo,hsK.out,qad (wac q w) nq⟩
theorem qns(g c q s a b e:Nat)(d:Array Nat)(w:World)(h:Srt w g c d)(hgq:g<q)(hs:Sw w q s)(hs1:s<900)(ha:a<d.size)(hb:b<d.size)(he:e<d.size)(hn:d.size<=60000):
  Calls Tryz.prog 436 #[.slice (some ⟨g,0,none⟩) d.size c,.int .i64 (a:Int),.int .i64 (b:Int),.int .i64 (e:Int),.pointer (some ⟨q,0,none⟩)] w λr w'=>∃(x t:Nat),r= .returned (.int .i64 (x:Int))/\(x=a\/x=b\/x=e)/\t<=s+3/\Sw w' q t/\Below q w w':=by
 have hh:=waa (λ(W:World) (hW:Below q w W) (s' x y:Nat) (hs':Sw W q s') (h1:s'<1000) (hx:x<d.size) (hy:y<d.size)=>q4c g c q s' x y d W (h.below hW hgq) hs' h1 hx hy hn);obtain⟨N,hN⟩:∃N,d.size=N:=⟨_,rfl⟩
 rw[hN] at ha hb he hn hh ⊢;have hsK:=waa hs;have hb0:=waa (wac q w);clear hN h hs;go_enter Tryz.func436,Tryz.ntmps436;go_wp2_with fail;refine(hh.out _ hb0.out s a b hsK.out Zo ha hb).mono ?_;rintro r w1 ⟨x1,y1,t1,rfl,hx1,ht1,hs1',hB1⟩;have hq1:x1<N/\y1<N:=by rcases hx1 with ⟨rfl,rfl⟩|⟨rfl,rfl⟩<;>exact⟨by assumption,by assumption⟩
 have hx1:=waa hx1;have hs1':=waa hs1';have hB1:=waa (hb0.out.trans hB1);have h11:=hq1.1;have h12:=hq1.2;clear hq1;go_wp2_with fail;refine(hh.out _ hB1.out t1 y1 e hs1'.out Zo h12 he).mono ?_;rintro r w2 ⟨x2,y2,t2,rfl,hx2,ht2,hs2',hB2⟩;have hq2:x2<N/\y2<N:=by rcases hx2 with ⟨rfl,rfl⟩|⟨rfl,rfl⟩<;>exact⟨by assumption,by assumption⟩
 have hx2:=waa hx2;have hs2':=waa hs2';have hB2:=waa (hB1.out.trans hB2);have h21:=hq2.1;have h22:=hq2.2;clear hq2;go_wp2_with fail;refine(hh.out _ hB2.out t2 x1 x2 hs2'.out Zo h11 h21).mono ?_;rintro r w3 ⟨x3,y3,t3,rfl,hx3,ht3,hs3',hB3⟩;have hx3:=waa hx3;have hs3':=waa hs3';have hB3:=waa (hB2.out.trans hB3);go_wp2_with fail;go_ret;refine⟨y3,t3,rfl,?_,Zo,hs3'.out,hB3.out⟩;have:=hx1.out
 have:=hx2.out
 have:=hx3.out
 omega
theorem q83(g c q s a:Nat)(d:Array Nat)(w:World)(h:Srt w g c d)(hgq:g<q)(hs:Sw w q s)(hs1:s<900)(ha:0<a)(hb:a+1<d.size)(hn:d.size<=60000):
  Calls Tryz.prog 435 #[.slice (some ⟨g,0,none⟩) d.size c,.int .i64 (a:Int),.pointer (some ⟨q,0,none⟩)] w λr w'=>∃(x t:Nat),r= .returned (.int .i64 (x:Int))/\a<=x+1/\x<=a+1/\t<=s+3/\Sw w' q t/\Below q w w':=by
 have hm:=waa (show Calls Tryz.prog 436 #[.slice (some ⟨g,0,none⟩) d.size c,.int .i64 ((a:Int) - 1),.int .i64 (a:Int),.int .i64 ((a:Int)+1),.pointer (some ⟨q,0,none⟩)] w λr w'=>∃(x t:Nat),r= .returned (.int .i64 (x:Int))/\a<=x+1/\x<=a+1/\t<=s+3/\Sw w' q t/\Below q w w' from by
  have h1:=qns g c q s (a - 1) a (a+1) d w h hgq hs hs1 Zo Zo hb hn;rw[show((a - 1:Nat):Int)=(a:Int) - 1 by omega,show((a+1:Nat):Int)=(a:Int)+1 by omega] at h1;refine h1.mono ?_;rintro r w' ⟨x,t,rfl,hx,r1,r2,r3⟩;exact⟨x,t,rfl,Zo,Zo,r1,r2,r3⟩)
 obtain⟨N,hN⟩:∃N,d.size=N:=⟨_,rfl⟩
 rw[hN] at hb hn hm ⊢;clear hN h hs;go_enter Tryz.func435,Tryz.ntmps435;go_wp2_with fail;refine hm.out.mono ?_;rintro r w' ⟨x,t,rfl,h1,h2,h3,h4,h5⟩;have h4:=waa h4;have h5:=waa h5;go_wp2_with fail;go_ret;exact⟨x,t,rfl,h1,h2,h3,h4.out,h5.out⟩
theorem q2c(g c a b:Nat)(d:Array Nat)(w:World)(h:Srt w g c d)(hab:a+12<b)(hb:b<=d.size)(hn:d.size<=60000):
  Calls Tryz.prog 427 #[.slice (some ⟨g,0,none⟩) d.size c,.int .i64 (a:Int),.int .i64 (b:Int)] w λr w'=>∃(x:Nat) (z:Int),r= .returned (.tuple #[.int .i64 (x:Int),.int .i64 z])/\a<=x/\x<b/\Below w.heap.size w w':=by
 have hgw:=h.lt;have hh:=waa (λ(W:World) (hW:Below w.heap.size w W) (s' x y z:Nat) (hs':Sw W w.heap.size s') (h1:s'<900) (hx:x<d.size) (hy:y<d.size) (hz:z<d.size)=>qns g c w.heap.size s' x y z d W (h.below hW hgw) hgw hs' h1 hx hy hz hn);have hnr:=waa (λ(W:World) (hW:Below w.heap.size w W) (s' x:Nat) (hs':Sw W w.heap.size s') (h1:s'<900) (hx:0<x) (hy:x+1<d.size)=>q83 g c w.heap.size s' x d W (h.below hW hgw) hgw hs' h1 hx hy hn);obtain⟨N,hN⟩:∃N,d.size=N:=⟨_,rfl⟩
 rw[hN] at hb hn hh hnr ⊢;have hs0:=waa (show Sw (w.alloc (.cells #[.int .i64 0] 3)) w.heap.size 0 from World.alloc_heap_new w _);have hb0:=waa (show Below w.heap.size w (w.alloc (.cells #[.int .i64 0] 3)) from(wac _ w).alloc (wab _) _);obtain⟨n,hnn⟩:∃n,n=b - a:=⟨_,rfl⟩
 have hnI:(b:Int) - (a:Int)=(n:Int):=Zo
 obtain⟨I,hI⟩:∃I:Nat,(a:Int)+(n:Int)/4=(I:Int):=⟨a+n/4,Zo⟩
 obtain⟨J,hJ⟩:∃J:Nat,(a:Int)+(n:Int)/4*2=(J:Int):=⟨a+n/4*2,Zo⟩
 obtain⟨K,hK⟩:∃K:Nat,(a:Int)+(n:Int)/4*3=(K:Int):=⟨a+n/4*3,Zo⟩
 have i1:a+3<=I:=Zo
 have i2:I<J:=Zo
 have i3:J<K:=Zo
 have i4:K+3<=b:=Zo
 have hn13:13<=n:=Zo
 clear hN h hnn;by_cases h50:50<=n
 ·have g1:J+12<=K:=Zo
  have g2:I+12<=J:=Zo
  have g3:a+12<=I:=Zo
  have g4:K+12<=b:=Zo
  go_enter Tryz.func427,Tryz.ntmps427;go_wp2_with fail;refine(hnr.out _ hb0.out 0 I hs0.out Zo Zo Zo).mono ?_;rintro r w1 ⟨x1,t1,rfl,p1,q1,ht1,hs1,hB1⟩;have hs1:=waa hs1;have hB1:=waa (hb0.out.trans hB1);go_wp2_with fail;refine(hnr.out _ hB1.out t1 J hs1.out Zo Zo Zo).mono ?_;rintro r w2 ⟨x2,t2,rfl,p2,q2,ht2,hs2,hB2⟩;have hs2:=waa hs2;have hB2:=waa (hB1.out.trans hB2);go_wp2_with fail;refine(hnr.out _ hB2.out t2 K hs2.out Zo Zo Zo).mono ?_;rintro r w3 ⟨x3,t3,rfl,p3,q3,ht3,hs3,hB3⟩;have hs3:=waa hs3;have hB3:=waa (hB2.out.trans hB3);go_wp2_with fail;refine(hh.out _ hB3.out t3 x1 x2 x3 hs3.out Zo Zo Zo Zo).mono ?_;rintro r w9 ⟨x,t,rfl,hx,ht,hsz,hBz⟩;have hx:=waa hx;have hsz:=waa hsz;have hBz:=waa (hB3.out.trans hBz);have s1:=hsz.out.cell;have hx1:a<=x:=by have:=hx.out;omega
  have hx2:x<b:=by have:=hx.out;omega
  by_cases hz0:t=0
  ·subst hz0
   go_wp2_with fail;go_ret2;exact⟨x,1,rfl,hx1,hx2,hBz.out⟩
  ·have e0:¬(t:Int)=0:=Zo
   by_cases hz12:t=12
   ·subst hz12
    go_wp2_with fail;go_ret2;exact⟨x,2,rfl,hx1,hx2,hBz.out⟩
   ·have e12:¬(t:Int)=12:=Zo
    go_wp2_with fail;go_ret2;exact⟨x,0,rfl,hx1,hx2,hBz.out⟩
 ·go_enter Tryz.func427,Tryz.ntmps427
  go_wp2_with fail;refine(hh.out _ hb0.out 0 I J K hs0.out Zo Zo Zo Zo).mono ?_;rintro r w9 ⟨x,t,rfl,hx,ht,hsz,hBz⟩;have hx:=waa hx;have hsz:=waa hsz;have hBz:=waa (hb0.out.trans hBz);have s1:=hsz.out.cell;have hx1:a<=x:=by have:=hx.out;omega
  have hx2:x<b:=by have:=hx.out;omega
  by_cases hz0:t=0
  ·subst hz0
   go_wp2_with fail;go_ret2;exact⟨x,1,rfl,hx1,hx2,hBz.out⟩
  ·have e0:¬(t:Int)=0:=Zo
   by_cases hz12:t=12
   ·subst hz12
    go_wp2_with fail;go_ret2;exact⟨x,2,rfl,hx1,hx2,hBz.out⟩
   ·have e12:¬(t:Int)=12:=Zo
    go_wp2_with fail;go_ret2;exact⟨x,0,rfl,hx1,hx2,hBz.out⟩
end Go.Proofs.YtocncmbeinmiaaaGreat
