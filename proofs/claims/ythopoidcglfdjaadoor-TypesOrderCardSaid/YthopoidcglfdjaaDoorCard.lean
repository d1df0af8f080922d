/-
  triforiumlaw02.TypesOrder returns true, for any three types that can be read as data: Compare is a total order with 0 just for equal types, and Equal is that all fields are equal; each argument reads behind the call as it read before. Conditions: none but those of the given statement: the listed tables are tied to the program's text.
-/
import Derived.Test.YthopoidcglfdjaaDoorMain
import Derived.Test.YthopoidcglfdjaaDoorCards
import Derived.Test.YthopoidcglfdjaaDoorTie
import Derived.SevenTiedAt
namespace Go.Proofs.YthopoidcglfdjaaDoor
open Go

theorem typesOrder_card : Rows.TypesOrderCardSaid :=
  Claim7.holds_tied_plain_at .later [] [.data, .data, .data] true (true, "300ec5398fedbbdf593fff453915b91a37491f0f40096b3287ba3f8d02ef788c") false
    typesOrder_holds (fun _ h => by cases h) (by kernel_rfl) (fun _ h => by cases h) typesOrder_row_tie rfl ⟨rfl, rfl⟩ (by kernel_rfl) rfl
    (fun f fn hf hfn => by
      obtain rfl : f = 3 := Option.some.inj ((show Tryd.prog.funcNamed "triforium/triforiumlaw02.TypesOrder" = some 3 by kernel_rfl).symm.trans hf) |>.symm
      obtain rfl : fn = Tryd.f3 := (Option.some.inj (Tryd.func3.symm.trans hfn)).symm
      exact ⟨by kernel_rfl, fun j t ht => by
        rw [Tryd.params3] at ht
        have hm : t ∈ [25, 25, 25] := by simpa using Array.mem_of_getElem? ht
        have hall : ([25, 25, 25].all fun u => !Tryd.prog.wantsStandIn u) = true := by kernel_rfl
        exact (show Tryd.prog.wantsStandIn t = false by simpa using List.all_eq_true.1 hall t hm)⟩)
    (by kernel_rfl)
end Go.Proofs.YthopoidcglfdjaaDoor
