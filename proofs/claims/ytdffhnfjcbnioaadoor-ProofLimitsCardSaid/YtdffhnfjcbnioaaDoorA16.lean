/-
  awake.
-/
import Derived.Test.YtdffhnfjcbnioaaDoorA13
import Derived.Test.YtdffhnfjcbnioaaDoorA15
namespace Go.Proofs.YtdffhnfjcbnioaaDoor
open Go.RowKit

set_option maxHeartbeats 1000000 in
theorem prop_ok (w : World) :
    Calls Tryd.prog 7 #[] w fun e w' => e = .returned (.agg #[.int .i64 1, .string ⟨#[112, 114, 111, 112]⟩, .int .i64 0, .slice none 0 0, .slice none 0 0]) ∧ Below w.heap.size w w' := by
  have hal : Below w.heap.size w (w.alloc (.cells #[.int .i64 1, .string ⟨#[112, 114, 111, 112]⟩, .int .i64 0, .slice none 0 0, .slice none 0 0] 26)) := (Below.refl _ w).alloc (Nat.le_refl _) _
  have HA := Lib.hid hal
  clear hal
  go_enter Tryd.func7, Tryd.ntmps7
  have HN := Lib.hid (Go.heap_alloc_new w (.cells #[.int .i64 1, .string ⟨#[112, 114, 111, 112]⟩, .int .i64 0, .slice none 0 0, .slice none 0 0] 26))
  go_wp2_with fail
  refine bodyPost_ret (results_c rfl _ _ ⟨w.heap.size, 0, none⟩ _ rfl (run_loadVar_mid _ w.heap.size 0 26 [.int .i64 1, .string ⟨#[112, 114, 111, 112]⟩, .int .i64 0, .slice none 0 0, .slice none 0 0] _ (fun j v hv => ?_) Tryd.underlying26 rfl (by kernel_rfl))) rfl ⟨rfl, HA.out⟩
  rw [Lib.cell_of_heap HN.out, Nat.zero_add, ← hv]
  exact List.getElem?_toArray

theorem awake_text : (⟨(txtI nA nProp).toArray⟩ : ByteArray) = ⟨#[40, 105, 109, 112, 73, 32, 91, 36, 65, 58, 112, 114, 111, 112, 93, 32, 40, 97, 115, 115, 117, 109, 101, 32, 91, 36, 65, 58, 112, 114, 111, 112, 93, 41, 41]⟩ := by decide

/-- What awake lays: the term, the kid, the proof. -/
theorem awake_laid (W : World) (hK : Kinds W) : ∃ V, ((W.alloc (.cells #[.int .i64 2, .string ⟨#[65]⟩, .int .i64 0, .int .i64 1, .string ⟨#[112, 114, 111, 112]⟩, .int .i64 0, .slice none 0 0, .slice none 0 0, .slice none 0 0] 29)).alloc (.cells (pcA 3 none 0 0) 36)).alloc (.cells (pcA 4 (some ⟨W.heap.size + 1, 0, none⟩) 1 1) 36) = V ∧ Below W.heap.size W V ∧ W.heap.size + 1 < V.heap.size ∧ W.heap.size + 1 + 1 < V.heap.size ∧
    V.heap[W.heap.size + 1]? = some (.cells (pcA 3 none 0 0) 36 (0, 0)) ∧ V.heap[W.heap.size + 1 + 1]? = some (.cells (pcA 4 (some ⟨W.heap.size + 1, 0, none⟩) 1 1) 36 (0, 0)) ∧ Kinds V := by
  have a1 : Below W.heap.size W (W.alloc (.cells #[.int .i64 2, .string ⟨#[65]⟩, .int .i64 0, .int .i64 1, .string ⟨#[112, 114, 111, 112]⟩, .int .i64 0, .slice none 0 0, .slice none 0 0, .slice none 0 0] 29)) := (Below.refl _ W).alloc (Nat.le_refl _) _
  have z1 : (W.alloc (.cells #[.int .i64 2, .string ⟨#[65]⟩, .int .i64 0, .int .i64 1, .string ⟨#[112, 114, 111, 112]⟩, .int .i64 0, .slice none 0 0, .slice none 0 0, .slice none 0 0] 29)).heap.size = W.heap.size + 1 := by simp
  obtain ⟨w1, hw1⟩ : ∃ w1, W.alloc (.cells #[.int .i64 2, .string ⟨#[65]⟩, .int .i64 0, .int .i64 1, .string ⟨#[112, 114, 111, 112]⟩, .int .i64 0, .slice none 0 0, .slice none 0 0, .slice none 0 0] 29) = w1 := ⟨_, rfl⟩
  rw [hw1] at a1 z1 ⊢
  have a2 : Below w1.heap.size w1 (w1.alloc (.cells (pcA 3 none 0 0) 36)) := (Below.refl _ w1).alloc (Nat.le_refl _) _
  have z2 : (w1.alloc (.cells (pcA 3 none 0 0) 36)).heap.size = w1.heap.size + 1 := by simp
  have n2 := Go.heap_alloc_new w1 (.cells (pcA 3 none 0 0) 36)
  obtain ⟨w2, hw2⟩ : ∃ w2, w1.alloc (.cells (pcA 3 none 0 0) 36) = w2 := ⟨_, rfl⟩
  rw [hw2] at a2 z2 n2 ⊢
  have a3 : Below w2.heap.size w2 (w2.alloc (.cells (pcA 4 (some ⟨W.heap.size + 1, 0, none⟩) 1 1) 36)) := (Below.refl _ w2).alloc (Nat.le_refl _) _
  have z3 : (w2.alloc (.cells (pcA 4 (some ⟨W.heap.size + 1, 0, none⟩) 1 1) 36)).heap.size = w2.heap.size + 1 := by simp
  have n3 := Go.heap_alloc_new w2 (.cells (pcA 4 (some ⟨W.heap.size + 1, 0, none⟩) 1 1) 36)
  obtain ⟨w3, hw3⟩ : ∃ w3, w2.alloc (.cells (pcA 4 (some ⟨W.heap.size + 1, 0, none⟩) 1 1) 36) = w3 := ⟨_, rfl⟩
  rw [hw3] at a3 z3 n3 ⊢
  have b3 : Below W.heap.size W w3 := (a1.trans (a2.mono (by omega))).trans (a3.mono (by omega))
  rw [z1] at n2
  rw [z2, z1] at n3
  exact ⟨w3, rfl, b3, by omega, by omega, (a3.block _ (by omega)).trans n2, n3, hK.later b3⟩

end Go.Proofs.YtdffhnfjcbnioaaDoor
