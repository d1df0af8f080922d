/-
  Which one of a written sign and its symbol is replaced.
-/
import Derived.Test.YtlpopbpddfegfaaB2
import Derived.BigQuiet
import Derived.WalkSmall
namespace Go.Proofs.Ytlpopbpddfegfaa
open Go.RowKit

set_option maxRecDepth 100000 in
set_option maxHeartbeats 1000000 in
theorem ends_true (a b : ByteArray) (w : World) : Calls Try.prog 15 #[.agg #[.string a, .string b]] w fun e w' => e = .returned (.tuple #[.string a, .string b]) ∧ Below w.heap.size w w' := by
  have hal : Below w.heap.size w (w.alloc (.cells #[.string a, .string b] 38)) := (Below.refl _ w).alloc (Nat.le_refl _) _
  have hnew := Go.heap_alloc_new w (.cells #[.string a, .string b] 38)
  have c0 : (w.alloc (.cells #[.string a, .string b] 38)).cell? ⟨w.heap.size, 0, none⟩ = some (.string a) := by rw [Lib.cell_of_heap hnew]; rfl
  have c1 : (w.alloc (.cells #[.string a, .string b] 38)).cell? ⟨w.heap.size, 1, none⟩ = some (.string b) := by rw [Lib.cell_of_heap hnew]; rfl
  have HA := Lib.hid hal
  clear hal hnew
  go_enter Try.func15, Try.ntmps15
  go_wp2_with fail
  generalize w.alloc (.cells #[.string a, .string b] 38) = W at *
  go_quiet (fail)
  go_wp2_with fail
  go_ret2
  exact ⟨rfl, below_drewN HA.out _⟩

set_option maxRecDepth 100000 in
set_option maxHeartbeats 1000000 in
theorem ends_false (a b : ByteArray) (w : World) : Calls Try.prog 17 #[.agg #[.string a, .string b]] w fun e w' => e = .returned (.tuple #[.string b, .string a]) ∧ Below w.heap.size w w' := by
  have hal : Below w.heap.size w (w.alloc (.cells #[.string a, .string b] 38)) := (Below.refl _ w).alloc (Nat.le_refl _) _
  have hnew := Go.heap_alloc_new w (.cells #[.string a, .string b] 38)
  have c0 : (w.alloc (.cells #[.string a, .string b] 38)).cell? ⟨w.heap.size, 0, none⟩ = some (.string a) := by rw [Lib.cell_of_heap hnew]; rfl
  have c1 : (w.alloc (.cells #[.string a, .string b] 38)).cell? ⟨w.heap.size, 1, none⟩ = some (.string b) := by rw [Lib.cell_of_heap hnew]; rfl
  have HA := Lib.hid hal
  clear hal hnew
  go_enter Try.func17, Try.ntmps17
  go_wp2_with fail
  generalize w.alloc (.cells #[.string a, .string b] 38) = W at *
  go_quiet (fail)
  go_wp2_with fail
  go_ret2
  exact ⟨rfl, below_drewN HA.out _⟩
end Go.Proofs.Ytlpopbpddfegfaa
