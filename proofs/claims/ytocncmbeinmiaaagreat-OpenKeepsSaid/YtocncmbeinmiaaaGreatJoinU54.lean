/- Parts. No condition. -/
import Derived.Test.YtocncmbeinmiaaaGreatJoinU42
set_option linter.unusedVariables false
set_option maxRecDepth 100000
set_option maxHeartbeats 8000000
namespace Go.Proofs.YtocncmbeinmiaaaGreat
open Go Go.RowKit
theorem q9n{w:World}{base p n c:Nat}{S K:List Nat}{f:Nat->Option (List Nat)}(h:Reg w base p n c S K f):
  Calls Tryz.prog 16 #[.pointer (some ⟨p,0,none⟩)] w λe w'=>(∃B d,e= .returned (.slice B (n*8) d)/\n*8<=d/\Rd w' B (n*8) (u64V S))/\Below w.heap.size w w':=by
 have hn:=h.lt.2.2.1;obtain⟨gs,cs,gk,ck,m,st,D,h⟩:=h;obtain⟨c0,c1,c2,c3,f3⟩:=h.cells;have hfl:=waa (qrh (h.2.2.2.2.2.2.2.2.1) hn);clear h;go_enter Tryz.func16,Tryz.ntmps16;go_wp2_with (go_at_call 43;go_loud (refine hfl.out.mono ?_;rintro e w1 ⟨v,rfl,hown,hB⟩;obtain⟨B,d,rfl,hd,hR⟩:=qcz hown;have hR:=waa hR;have hB:=waa hB;clear hown))
 go_ret;exact⟨⟨B,d,rfl,hd,hR.out⟩,hB.out⟩
end Go.Proofs.YtocncmbeinmiaaaGreat
