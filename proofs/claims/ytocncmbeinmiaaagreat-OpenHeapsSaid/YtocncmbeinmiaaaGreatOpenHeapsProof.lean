/-
  OpenHeaps: for every input the law answers true, and each argument reads afterwards as it read before. No condition.
-/
import Derived.Test.YtocncmbeinmiaaaGreatRows
import Derived.Test.YtocncmbeinmiaaaGreatJoinU53
import Derived.Test.YtocncmbeinmiaaaGreatJoinU52
import Derived.Test.YtocncmbeinmiaaaGreatJoinU50
import Derived.Test.YtocncmbeinmiaaaGreatJoinU49
import Derived.Test.YtocncmbeinmiaaaGreatJoinU48
import Derived.Test.YtocncmbeinmiaaaGreatJoinU47
import Derived.Test.YtocncmbeinmiaaaGreatJoinU00
import Derived.Test.YtocncmbeinmiaaaGreatJoinU03
import Derived.Test.YtocncmbeinmiaaaGreatJoinU01
import Derived.Test.YtocncmbeinmiaaaGreatJoinU08
import Derived.Test.YtocncmbeinmiaaaGreatJoinU07
import Derived.Test.YtocncmbeinmiaaaGreatJoinU06
import Derived.Test.YtocncmbeinmiaaaGreatJoinU04
import Derived.Test.YtocncmbeinmiaaaGreatJoinU02
import Derived.Test.YtocncmbeinmiaaaGreatJoinU14
import Derived.Test.YtocncmbeinmiaaaGreatJoinU16
import Derived.Test.YtocncmbeinmiaaaGreatJoinU09
import Derived.Test.YtocncmbeinmiaaaGreatJoinU05
import Derived.Test.YtocncmbeinmiaaaGreatJoinU51
import Derived.Test.YtocncmbeinmiaaaGreatJoinU21
import Derived.Test.YtocncmbeinmiaaaGreatJoinU15
import Derived.Test.YtocncmbeinmiaaaGreatJoinU13
import Derived.Test.YtocncmbeinmiaaaGreatJoinU34
import Derived.Test.YtocncmbeinmiaaaGreatJoinU33
import Derived.Test.YtocncmbeinmiaaaGreatJoinU31
import Derived.Test.YtocncmbeinmiaaaGreatJoinU30
import Derived.Test.YtocncmbeinmiaaaGreatJoinU29
import Derived.Test.YtocncmbeinmiaaaGreatJoinU12
import Derived.Test.YtocncmbeinmiaaaGreatJoinU11
import Derived.Test.YtocncmbeinmiaaaGreatJoinU10
import Derived.Test.YtocncmbeinmiaaaGreatJoinU26
import Derived.Test.YtocncmbeinmiaaaGreatJoinU25
import Derived.Test.YtocncmbeinmiaaaGreatJoinU24
import Derived.Test.YtocncmbeinmiaaaGreatJoinU35
import Derived.Test.YtocncmbeinmiaaaGreatJoinU23
import Derived.Test.YtocncmbeinmiaaaGreatJoinU22
import Derived.Test.YtocncmbeinmiaaaGreatJoinU17
import Derived.Test.YtocncmbeinmiaaaGreatJoinU20
import Derived.Test.YtocncmbeinmiaaaGreatJoinU18
import Derived.Test.YtocncmbeinmiaaaGreatJoinU19
import Derived.Test.YtocncmbeinmiaaaGreatJoinU32
import Derived.Test.YtocncmbeinmiaaaGreatJoinU27
import Derived.Test.YtocncmbeinmiaaaGreatJoinU36
import Derived.Test.YtocncmbeinmiaaaGreatJoinU28
import Derived.WalkKit
import Derived.ProofKit
import Derived.OpenShut
import Derived.ShutString
import Derived.ChangeMaps5
import Derived.ChangeOld
import Derived.Below
namespace Go.Proofs.YtocncmbeinmiaaaGreat.openHeaps
open Go.Proofs.YtocncmbeinmiaaaGreat Go.ChangeShapes Go.WideShapes Go.ChangeAt Go.ChangeMaps Go.RowKit
set_option linter.unusedVariables false
theorem own:ownKnob Tryz.prog.godebug=none:=by kernel_rfl
theorem qfy:laidOutB Tryz.prog=true:=by kernel_rfl
set_option maxRecDepth 100000 in
theorem qkh (os:Os) (started:os.Started) (H:Type) (enc:TypeId×Value→H):
  ReturnsInHanded {} Tryz.checked os 8 .any (Rows.openHeapsSpec.pre6 enc Tryz.prog Tryz.f8 Rows.openHeapsRow.domain false) (Rows.openHeapsSpec.post enc Tryz.prog Tryz.f8 false true false false):=by
 refine returnsInHanded_of_change (C:=Tryz.checked) own started (by kernel_rfl) Tryz.func8
  (ChangeSpec.witness6 (enc:=enc) (C:=Tryz.checked) false ⟨#[],#[.slice none 0 0],[]⟩ 8 (by kernel_rfl) (by kernel_rfl) (by kernel_rfl) (by kernel_rfl)) ?_
 intro W base args ds gs before hval0 hW hcnd _
 have hval:∀(j:Nat) t v,Tryz.f8.params[j]? =some t→args[j]? =some v→Value.okWide Tryz.prog W .any base t v:=hval0
 have hW':=hW
 obtain ⟨p,q,hA0,hV,rfl,hfz,hnd⟩:=hW
 have hA:DataW.TrodAll enc Tryz.prog W 0 (fun _=>true) true Tryz.f8.params.toList args.toList ds p:=hA0
 rw [Tryz.params8] at hA hval
 obtain ⟨v0,vs0,d0,ds0,p0,q0,hargs,rfl,rfl,h0,r0⟩:=trodAll_cons hA
 obtain ⟨rfl,rfl,rfl⟩:=trodAll_nil r0
 obtain rfl:args=#[v0]:=by cases args;simp_all
 obtain ⟨rfl,rfl⟩:=trodVars_none hV
 have k0:=h0
 have lt0:∀x∈p0,x.block<W.heap.size:=by obtain ⟨m,hm⟩:=k0;exact DataW.trod_lt m _ _ _ hm
 obtain ⟨x0_0,x0_1,x0_2,x0_3,rfl,g0_0,g0_1,g0_2,g0_3,g0_4,g0_5⟩:=qi4 (hval 0 40 v0 rfl rfl) h0
 clear hA0 hval0
 refine (qoq W x0_0 x0_1 x0_2 x0_3 g0_0 g0_1 g0_2 g0_3 g0_4 g0_5).mono fun e W' ⟨he,bel⟩=>?_
 subst he
 exact ⟨_,rfl,_,_,_,[],_,[],hW',trodAll_mk1 (shut_bool Tryz.underlying4 _),(trodAll_cons_mk (Below.trod qfy (by kernel_rfl) (of_decide_eq_true (by kernel_rfl)) k0 bel lt0) trodAll_mk0),rfl,bel.frame _,fun h=>by cases h⟩
theorem qj3 {a b:Bool} (h1:a=true) (h2:b=true):(a&&b)=true:=by rw [h1,h2];rfl
set_option maxRecDepth 100000 in
set_option maxHeartbeats 4000000 in
theorem joined:joinedFacts Tryz.prog 8 Tryz.f8 Rows.openHeapsSpec Rows.openHeapsRow=true:=by
 unfold joinedFacts
 repeat' (with_reducible refine qj3 ?_ ?_)
 all_goals (as_aux_lemma=>kernel_rfl)
theorem over:Rows.openHeapsRow.holds Tryz.pinned (OpenSpec.ofChange Rows.openHeapsSpec):=
 OpenClaim.holds_of_wide 8 Tryz.f8 rfl rfl rfl rfl rfl rfl rfl ⟨rfl,rfl,rfl,rfl,rfl⟩ rfl rfl rfl rfl rfl (by as_aux_lemma=>kernel_rfl) Tryz.func8 joined
  (of_decide_eq_true (by kernel_rfl)) (by unfold Func.isWrapper;first|(rw [if_pos (by decide+kernel)];kernel_rfl)|(rw [if_neg (by decide+kernel)];exact ⟨rfl,rfl⟩))
  (fun os started H enc _=>qkh os started H enc)
theorem q11:Rows.OpenHeapsSaid:=over
end Go.Proofs.YtocncmbeinmiaaaGreat.openHeaps
