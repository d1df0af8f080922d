/-
  proof.Size of the proof of A ==> A.
-/
import Derived.Test.YtdffhnfjcbnioaaDoorA12
import Derived.Test.YtdffhnfjcbnioaaDoorP6
import Derived.BigQuiet
namespace Go.Proofs.YtdffhnfjcbnioaaDoor
open Go.RowKit

set_option maxRecDepth 100000 in
set_option maxHeartbeats 4000000 in
theorem psize_I (kb : Nat) (w : World) (t : TypeId) (hkb : kb < w.heap.size) (hk : w.heap[kb]? = some (.cells (pcA 3 none 0 0) t (0, 0))) :
    Calls Tryd.prog 9 #[.agg (pcA 4 (some ⟨kb, 0, none⟩) 1 1)] w fun e w' => e = .returned (.tuple #[.int .i64 2, .int .i64 2]) ∧ Below w.heap.size w w' := by
  have a1 : Below w.heap.size w (w.alloc (.cells (pcA 4 (some ⟨kb, 0, none⟩) 1 1) 36)) := (Below.refl _ w).alloc (Nat.le_refl _) _
  have z1 : (w.alloc (.cells (pcA 4 (some ⟨kb, 0, none⟩) 1 1) 36)).heap.size = w.heap.size + 1 := by simp
  have n1 := Go.heap_alloc_new w (.cells (pcA 4 (some ⟨kb, 0, none⟩) 1 1) 36)
  obtain ⟨w1, hw1⟩ : ∃ w1, w.alloc (.cells (pcA 4 (some ⟨kb, 0, none⟩) 1 1) 36) = w1 := ⟨_, rfl⟩
  rw [hw1] at a1 z1 n1
  have a2 : Below w1.heap.size w1 (w1.alloc (.cells #[.int .i64 0, .int .i64 0, .int .i64 9223372036854775807] 49)) := (Below.refl _ w1).alloc (Nat.le_refl _) _
  have hm2 := pmeter_new w1 9223372036854775807
  rw [z1] at hm2
  obtain ⟨w2, hw2⟩ : ∃ w2, w1.alloc (.cells #[.int .i64 0, .int .i64 0, .int .i64 9223372036854775807] 49) = w2 := ⟨_, rfl⟩
  rw [hw2] at a2 hm2
  have b2 : Below w.heap.size w w2 := a1.trans (a2.mono (by omega))
  have p2 : w2.heap[w.heap.size]? = some (.cells (pcA 4 (some ⟨kb, 0, none⟩) 1 1) 36 (0, 0)) := (a2.block _ (by omega)).trans n1
  have hA : AtPf (w.heap.size + 1) w2 w.heap.size 0 pfI := pfI_at (by omega) (by omega) ((b2.block kb hkb).trans hk) p2
  have hpa := Lib.hid (padd_any (pfI.sz + 1) (w.heap.size + 1) (w.heap.size + 1) w.heap.size 0 pfI 0 0 9223372036854775807 1 w2 (by omega) (by omega) hA hm2 (by omega) (by omega) (by omega) (.inr (by rw [nodes_pfI]; omega)) (by omega) (by rw [depth_pfI]; omega))
  have HW2 := Lib.hid (show (w.alloc (.cells (pcA 4 (some ⟨kb, 0, none⟩) 1 1) 36)).alloc (.cells #[.int .i64 0, .int .i64 0, .int .i64 9223372036854775807] 49) = w2 by rw [hw1, hw2])
  have HB2 := Lib.hid b2
  clear a1 z1 n1 hw1 a2 hm2 hw2 b2 p2 hA hk
  unfold pcA at HW2 ⊢
  go_enter Tryd.func9, Tryd.ntmps9
  go_wp2_with fail
  rw [HW2.out]
  (with_reducible refine hpa.out.mono ?_)
  rintro e w3 ⟨(⟨rfl, hfit, hm⟩ | ⟨rfl, hover, d', hm⟩), b3, _⟩
  · obtain ⟨m0, m1, m2, f0, f1⟩ := hm
    rw [nodes_pfI] at m0
    rw [depth_pfI] at m1
    have e1 : (0 : Int) + ((2 : Nat) : Int) = 2 := by omega
    have e2 : max (0 : Int) (1 + ((2 : Nat) : Int) - 1) = 2 := by omega
    rw [e1] at m0
    rw [e2] at m1
    have HB3 := Lib.hid (HB2.out.trans (b3.mono (by omega)))
    clear hfit e1 e2 m2 f0 f1 b3
    go_wp2_with fail
    go_quiet (fail)
    go_wp2_with fail
    go_ret2
    exact ⟨rfl, below_drewN HB3.out _⟩
  · exfalso
    rw [nodes_pfI] at hover
    omega
end Go.Proofs.YtdffhnfjcbnioaaDoor
