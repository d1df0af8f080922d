/-
  The tables of written signs.
-/
import Derived.Test.YtlpopbpddfegfaaM1
import Derived.Test.YtlpopbpddfegfaaProg
import Derived.WalkKit
import Derived.Lib.Hide
import Derived.Outline
namespace Go.Proofs.Ytlpopbpddfegfaa
open Go.RowKit

/-- The cells of both tables. -/
def signCells : Array Value := #[.string ⟨#[61, 61, 62]⟩, .string ⟨#[92, 60, 76, 111, 110, 103, 114, 105, 103, 104, 116, 97, 114, 114, 111, 119, 62]⟩, .string ⟨#[45, 45, 62]⟩, .string ⟨#[92, 60, 108, 111, 110, 103, 114, 105, 103, 104, 116, 97, 114, 114, 111, 119, 62]⟩, .string ⟨#[61, 61]⟩, .string ⟨#[92, 60, 101, 113, 117, 105, 118, 62]⟩, .string ⟨#[61, 62]⟩, .string ⟨#[92, 60, 82, 105, 103, 104, 116, 97, 114, 114, 111, 119, 62]⟩, .string ⟨#[33, 33]⟩, .string ⟨#[92, 60, 65, 110, 100, 62]⟩, .string ⟨#[37]⟩, .string ⟨#[92, 60, 108, 97, 109, 98, 100, 97, 62]⟩, .string ⟨#[38]⟩, .string ⟨#[92, 60, 97, 110, 100, 62]⟩, .string ⟨#[124]⟩, .string ⟨#[92, 60, 111, 114, 62]⟩, .string ⟨#[126]⟩, .string ⟨#[92, 60, 110, 111, 116, 62]⟩, .string ⟨#[33]⟩, .string ⟨#[92, 60, 102, 111, 114, 97, 108, 108, 62]⟩]

set_option maxRecDepth 100000 in
set_option maxHeartbeats 1000000 in
theorem signs_table (w : World) : Calls Try.prog 22 #[] w fun e w' => e = .returned (.slice (some ⟨w.heap.size, 0, none⟩) 10 10) ∧ w' = w.alloc (.cells signCells 38) := by
  go_enter Try.func22, Try.ntmps22
  go_wp2_with fail
  go_ret
  exact ⟨rfl, rfl⟩

set_option maxRecDepth 100000 in
set_option maxHeartbeats 1000000 in
theorem pairs_table (w : World) : Calls Try.prog 26 #[] w fun e w' => e = .returned (.slice (some ⟨w.heap.size, 0, none⟩) 20 20) ∧ w' = w.alloc (.cells signCells 9) := by
  go_enter Try.func26, Try.ntmps26
  go_wp2_with fail
  go_ret
  exact ⟨rfl, rfl⟩
end Go.Proofs.Ytlpopbpddfegfaa
