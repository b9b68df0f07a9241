/- Parts. No condition. -/
import Derived.Test.YtocncmbeinmiaaaGreatJoinU32
set_option linter.unusedVariables false
set_option maxRecDepth 100000
set_option maxHeartbeats 8000000
namespace Go.Proofs.YtocncmbeinmiaaaGreat
open Go Go.RowKit
theorem MayI.start{n:Nat}{D:DM}{es:List (Int×Nat)}(h:CleanD n D):MayI n D.S es D:=
 ⟨by rw[h.kept];exact h.len,h.len,h.nlen,by rw[h.none];simp,λi x e=> .inl (by rw[<-h.kept];exact e),λi x e=> .inl e,λi x e _=>by
  rw[h.none,wcu] at e;split at e<;>cases e⟩
theorem q78{N S:List Nat}{o i x:Nat}(hl:N.length=S.length)(h:(qc2 N S o 8)[i]? =some x):(o<=i/\i<o+8/\S[i]? =some x)\/(¬(o<=i/\i<o+8)/\N[i]? =some x):=by
 unfold qc2 at h;rw[wd6] at h;cases hN:N[i]? with
 |none=>rw[hN] at h;cases h
 |some y=>
  rw[hN] at h;simp only[wbo] at h;have hi:i<S.length:=by rw[<-hl];exact(wan.1 hN).1
  by_cases hc:o<=i/\i<o+8
  ·rw[if_pos hc,waj hi] at h
   exact .inl ⟨hc.1,hc.2,by rw[waj hi];exact h⟩
  ·rw[if_neg hc] at h
   exact .inr ⟨hc,h⟩
theorem qaab{K N:List Nat}{B:List Bool}{m i x:Nat}(hl:K.length=N.length)(h:(fenL K N B m)[i]? =some x):(B[i/8]? =some true/\N[i]? =some x)\/K[i]? =some x:=by
 unfold fenL at h;rw[wd6] at h;cases hK:K[i]? with
 |none=>rw[hK] at h;cases h
 |some y=>
  rw[hK] at h;simp only[wbo] at h;have hi:i<N.length:=by rw[<-hl];exact(wan.1 hK).1
  by_cases hc:i<m/\B[i/8]?.getD false=true
  ·rw[if_pos hc,waj hi] at h
   refine .inl ⟨?_,by rw[waj hi];exact h⟩;have h2:=hc.2;cases hb:B[i/8]? with
   |none=>rw[hb] at h2;cases h2
   |some b=>rw[hb] at h2;simpa using h2
  ·rw[if_neg hc] at h
   exact .inr h
theorem MayI.step{n:Nat}{S0:List Nat}{es:List (Int×Nat)}{D:DM}{e:AskT}(h:MayI n S0 es D)(he:e∈qbp es):MayI n S0 es (qei n D e):=by
 obtain⟨h1,h2,h3,h4,h5,h6,h7⟩:=h;simp only[qbp,wa6,wav,wbx] at he;rcases he with ⟨y,hy,rfl⟩|⟨a,-,rfl⟩|rfl
 ·unfold qei
  simp only[if_true];refine⟨h1,?_,h3,h4,h5,?_,h7⟩
  ·show(if qay n y.1=true then D.S.set y.1.toNat y.2 else D.S).length=_
   split<;>simp[h2]
  ·intro i x hx
   have hx:(if qay n y.1=true then D.S.set y.1.toNat y.2 else D.S)[i]? =some x:=hx;split at hx
   ·by_cases hi:y.1.toNat=i
    ·rw[wcx,if_pos hi] at hx
     split at hx
     ·injection hx with hx
      exact .inr ⟨y,hy,hi,hx⟩
     ·cases hx
    ·rw[wbe hi] at hx
     exact h6 i x hx
   ·exact h6 i x hx
 ·unfold qei
  simp only
  rw[if_neg Zd,if_pos trivial];cases ht:qay n a with
  |false=>exact⟨h1,h2,h3,h4,h5,h6,h7⟩
  |true=>
   have hta:=thereB_iff.1 ht;refine⟨h1,h2,?_,?_,h5,h6,?_⟩
   ·show(qc2 D.N D.S (a.toNat/8*8) 8).length=_
    rw[qpj,h3]
   ·show(D.B.set (a.toNat/8) true).length=_
    rw[wb1,h4]
   ·intro i x hb hx
    have hb:(D.B.set (a.toNat/8) true)[i/8]? =some true:=hb;have hx:(qc2 D.N D.S (a.toNat/8*8) 8)[i]? =some x:=hx;rcases q78 (by rw[h3,h2]) hx with ⟨-,-,hs⟩|⟨hc,hs⟩
    ·exact h6 i x hs
    ·refine h7 i x ?_ hs
     rw[wbe Zo] at hb;exact hb
 ·unfold qei
  simp only
  rw[if_neg Zd,if_neg Zd];refine⟨?_,h2,h3,by simp,?_,h6,?_⟩
  ·show(fenL D.K D.N D.B (n*8)).length=_
   rw[qt0,h1]
  ·intro i x hx
   have hx:(fenL D.K D.N D.B (n*8))[i]? =some x:=hx;rcases qaab (by rw[h1,h3]) hx with ⟨hb,hs⟩|hs
   ·exact h7 i x hb hs
   ·exact h5 i x hs
  ·intro i x hb
   have hb:(List.replicate n false)[i/8]? =some true:=hb;rw[wcu] at hb;split at hb<;>cases hb
theorem MayI.run{n:Nat}{S0:List Nat}{es:List (Int×Nat)}:∀(qs:List AskT) (D:DM),MayI n S0 es D->(∀e∈qs,e∈qbp es)->MayI n S0 es (runL n D qs)
 |[],_,h,_=>h
 |e::r,D,h,hq=>MayI.run r (qei n D e) (h.step (hq e Zs)) (λe' he'=>hq e' (by simp[he']))
end Go.Proofs.YtocncmbeinmiaaaGreat
