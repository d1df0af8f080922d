/-
  triforiumlaw05.ProofLimits returns true, for any number: a proof has an error of its form just from the documented depth, or the documented number of nodes, on, and what its text and its size are; the argument reads behind the call as it read before. Conditions: none but those of the given statement: the listed tables are tied to the program's text.
-/
import Derived.Test.YtdffhnfjcbnioaaDoorMain
import Derived.Test.YtdffhnfjcbnioaaDoorCards
import Derived.Test.YtdffhnfjcbnioaaDoorTie
import Derived.SevenTiedAt
namespace Go.Proofs.YtdffhnfjcbnioaaDoor
open Go

theorem proofLimits_card : Rows.ProofLimitsCardSaid :=
  Claim7.holds_tied_plain_at .later [] [.data, .data, .data, .data] true (true, "5f7ef21002ffc9902778325b77e385bf9a7f44d4393e088e0368cd50e75f1fae") true
    proofLimits_holds (fun _ h => by cases h) (by kernel_rfl) (fun _ h => by cases h) proofLimits_row_tie rfl ⟨rfl, rfl⟩ (by kernel_rfl) rfl
    (fun f fn hf hfn => by
      obtain rfl : f = 3 := Option.some.inj ((show Tryd.prog.funcNamed "triforium/triforiumlaw05.ProofLimits" = some 3 by kernel_rfl).symm.trans hf) |>.symm
      obtain rfl : fn = Tryd.f3 := (Option.some.inj (Tryd.func3.symm.trans hfn)).symm
      exact ⟨by kernel_rfl, fun j t ht => by
        rw [Tryd.params3] at ht
        have hm : t ∈ [22] := by simpa using Array.mem_of_getElem? ht
        have hall : ([22].all fun u => !Tryd.prog.wantsStandIn u) = true := by kernel_rfl
        exact (show Tryd.prog.wantsStandIn t = false by simpa using List.all_eq_true.1 hall t hm)⟩)
    (by kernel_rfl)
end Go.Proofs.YtdffhnfjcbnioaaDoor
