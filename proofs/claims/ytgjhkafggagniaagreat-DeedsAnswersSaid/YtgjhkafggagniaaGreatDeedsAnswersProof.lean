/-
  DeedsAnswers: for every input the law answers true, and each argument reads afterwards as it read before. No condition.
-/
import Derived.Test.YtgjhkafggagniaaGreatRows
import Derived.Test.YtgjhkafggagniaaGreatJoinV52
import Derived.Test.YtgjhkafggagniaaGreatJoinV51
import Derived.Test.YtgjhkafggagniaaGreatJoinV50
import Derived.Test.YtgjhkafggagniaaGreatJoinV49
import Derived.Test.YtgjhkafggagniaaGreatJoinV48
import Derived.Test.YtgjhkafggagniaaGreatJoinV46
import Derived.Test.YtgjhkafggagniaaGreatJoinV45
import Derived.Test.YtgjhkafggagniaaGreatJoinV43
import Derived.Test.YtgjhkafggagniaaGreatJoinV38
import Derived.Test.YtgjhkafggagniaaGreatJoinV37
import Derived.Test.YtgjhkafggagniaaGreatJoinV35
import Derived.Test.YtgjhkafggagniaaGreatJoinV19
import Derived.Test.YtgjhkafggagniaaGreatJoinV14
import Derived.Test.YtgjhkafggagniaaGreatJoinV13
import Derived.Test.YtgjhkafggagniaaGreatJoinV09
import Derived.Test.YtgjhkafggagniaaGreatJoinV07
import Derived.Test.YtgjhkafggagniaaGreatJoinV06
import Derived.Test.YtgjhkafggagniaaGreatJoinV01
import Derived.Test.YtgjhkafggagniaaGreatJoinV00
import Derived.Test.YtgjhkafggagniaaGreatJoinV05
import Derived.Test.YtgjhkafggagniaaGreatJoinV04
import Derived.Test.YtgjhkafggagniaaGreatJoinV03
import Derived.Test.YtgjhkafggagniaaGreatJoinV02
import Derived.Test.YtgjhkafggagniaaGreatJoinV08
import Derived.Test.YtgjhkafggagniaaGreatJoinV11
import Derived.Test.YtgjhkafggagniaaGreatJoinV10
import Derived.Test.YtgjhkafggagniaaGreatJoinV12
import Derived.Test.YtgjhkafggagniaaGreatJoinV17
import Derived.Test.YtgjhkafggagniaaGreatJoinV16
import Derived.Test.YtgjhkafggagniaaGreatJoinV15
import Derived.Test.YtgjhkafggagniaaGreatJoinV18
import Derived.Test.YtgjhkafggagniaaGreatJoinV20
import Derived.Test.YtgjhkafggagniaaGreatJoinV34
import Derived.Test.YtgjhkafggagniaaGreatJoinV33
import Derived.Test.YtgjhkafggagniaaGreatJoinV31
import Derived.Test.YtgjhkafggagniaaGreatJoinV30
import Derived.Test.YtgjhkafggagniaaGreatJoinV27
import Derived.Test.YtgjhkafggagniaaGreatJoinV22
import Derived.Test.YtgjhkafggagniaaGreatJoinV21
import Derived.Test.YtgjhkafggagniaaGreatJoinV26
import Derived.Test.YtgjhkafggagniaaGreatJoinV25
import Derived.Test.YtgjhkafggagniaaGreatJoinV24
import Derived.Test.YtgjhkafggagniaaGreatJoinV23
import Derived.Test.YtgjhkafggagniaaGreatJoinV28
import Derived.Test.YtgjhkafggagniaaGreatJoinV29
import Derived.Test.YtgjhkafggagniaaGreatJoinV32
import Derived.Test.YtgjhkafggagniaaGreatJoinV36
import Derived.Test.YtgjhkafggagniaaGreatJoinV42
import Derived.Test.YtgjhkafggagniaaGreatJoinV39
import Derived.Test.YtgjhkafggagniaaGreatJoinV40
import Derived.Test.YtgjhkafggagniaaGreatJoinV41
import Derived.Test.YtgjhkafggagniaaGreatJoinV44
import Derived.Test.YtgjhkafggagniaaGreatJoinV47
import Derived.WalkKit
import Derived.ProofKit
import Derived.OpenShut
import Derived.ShutString
import Derived.ChangeMaps5
import Derived.ChangeOld
import Derived.Below
namespace Go.Proofs.YtgjhkafggagniaaGreat.deedsAnswers
open Go.Proofs.YtgjhkafggagniaaGreat Go.ChangeShapes Go.WideShapes Go.ChangeAt Go.ChangeMaps Go.RowKit
set_option linter.unusedVariables false
theorem own:ownKnob Tryz.prog.godebug=none:=by kernel_rfl
theorem qy2:laidOutB Tryz.prog=true:=by kernel_rfl
set_option maxRecDepth 100000 in
theorem q10 (os:Os) (started:os.Started) (H:Type) (enc:TypeId×Value→H):
  ReturnsInHanded {} Tryz.checked os 6 .any (Rows.deedsAnswersSpec.pre6 enc Tryz.prog Tryz.f6 Rows.deedsAnswersRow.domain false) (Rows.deedsAnswersSpec.post enc Tryz.prog Tryz.f6 false true false false):=by
 refine returnsInHanded_of_change (C:=Tryz.checked) own started (by kernel_rfl) Tryz.func6
  (ChangeSpec.witness6 (enc:=enc) (C:=Tryz.checked) false ⟨#[],#[.slice none 0 0],[]⟩ 8 (by kernel_rfl) (by kernel_rfl) (by kernel_rfl) (by kernel_rfl)) ?_
 intro W base args ds gs before hval0 hW hcnd _
 have hval:∀(j:Nat) t v,Tryz.f6.params[j]? =some t→args[j]? =some v→Value.okWide Tryz.prog W .any base t v:=hval0
 have hW':=hW
 obtain ⟨p,q,hA0,hV,rfl,hfz,hnd⟩:=hW
 have hA:DataW.TrodAll enc Tryz.prog W 0 (fun _=>true) true Tryz.f6.params.toList args.toList ds p:=hA0
 rw [Tryz.params6] at hA hval
 obtain ⟨v0,vs0,d0,ds0,p0,q0,hargs,rfl,rfl,h0,r0⟩:=trodAll_cons hA
 obtain ⟨rfl,rfl,rfl⟩:=trodAll_nil r0
 obtain rfl:args=#[v0]:=by cases args;simp_all
 obtain ⟨rfl,rfl⟩:=trodVars_none hV
 have k0:=h0
 have lt0:∀x∈p0,x.block<W.heap.size:=by obtain ⟨m,hm⟩:=k0;exact DataW.trod_lt m _ _ _ hm
 obtain ⟨x0_0,x0_1,x0_2,x0_3,rfl,g0_0,g0_1,g0_2,g0_3,g0_4,g0_5⟩:=qq5 (hval 0 22 v0 rfl rfl) h0
 clear hA0 hval0
 refine (qhm W x0_0 x0_1 x0_2 x0_3 g0_0 g0_1 g0_2 g0_3 g0_4 g0_5).mono fun e W' ⟨he,bel⟩=>?_
 subst he
 exact ⟨_,rfl,_,_,_,[],_,[],hW',trodAll_mk1 (shut_bool Tryz.underlying4 _),(trodAll_cons_mk (Below.trod qy2 (by kernel_rfl) (of_decide_eq_true (by kernel_rfl)) k0 bel lt0) trodAll_mk0),rfl,bel.frame _,fun h=>by cases h⟩
theorem q2d {a b:Bool} (h1:a=true) (h2:b=true):(a&&b)=true:=by rw [h1,h2];rfl
set_option maxRecDepth 100000 in
set_option maxHeartbeats 4000000 in
theorem joined:joinedFacts Tryz.prog 6 Tryz.f6 Rows.deedsAnswersSpec Rows.deedsAnswersRow=true:=by
 unfold joinedFacts
 repeat' (with_reducible refine q2d ?_ ?_)
 all_goals (as_aux_lemma=>kernel_rfl)
theorem over:Rows.deedsAnswersRow.holds Tryz.pinned (OpenSpec.ofChange Rows.deedsAnswersSpec):=
 OpenClaim.holds_of_wide 6 Tryz.f6 rfl rfl rfl rfl rfl rfl rfl ⟨rfl,rfl,rfl,rfl,rfl⟩ rfl rfl rfl rfl rfl (by as_aux_lemma=>kernel_rfl) Tryz.func6 joined
  (of_decide_eq_true (by kernel_rfl)) (by unfold Func.isWrapper;first|(rw [if_pos (by decide+kernel)];kernel_rfl)|(rw [if_neg (by decide+kernel)];exact ⟨rfl,rfl⟩))
  (fun os started H enc _=>q10 os started H enc)
theorem proved:Rows.DeedsAnswersSaid:=over
end Go.Proofs.YtgjhkafggagniaaGreat.deedsAnswers
