/-
  Types as values: boxed; types.Compare, types.Equal.
-/
import Derived.Test.YtdffhnfjcbnioaaDoorC2
namespace Go.Proofs.YtdffhnfjcbnioaaDoor
open Go.RowKit

theorem cell_new (w : World) (vs : Array Value) (t : TypeId) (i : Nat) (x : Value) (h : vs[i]? = some x) : (w.alloc (.cells vs t)).cell? ⟨w.heap.size, i, none⟩ = some x := by
  rw [World.cell?_alloc_new, h]

/-- A type that is put into a block of its own. -/
theorem HasTy.boxed {B : Nat} {w : World} {v : Value} {T : Ty} (h : HasTy B w v T) (hB : B ≤ w.heap.size) (t : TypeId) : ∃ vs, v = .agg vs ∧ AtTy (w.heap.size + 1) (w.alloc (.cells vs t)) w.heap.size 0 T := by
  obtain ⟨vs, a, cap, ab, ao, rfl, h1, h2, h3, h4, h5, h6, h7⟩ := h
  have hb : Below B w (w.alloc (.cells #[.int .i64 T.op, .string T.name, .int .i64 T.index, vs, .slice a T.args.length cap] t)) := ((Below.refl _ _).alloc (Nat.le_refl _) _).mono hB
  refine ⟨_, rfl, ?_⟩
  obtain ⟨op, nm, ix, srt, args⟩ := T
  refine .mk _ _ op ix nm srt args vs a cap ab ao (by omega) (cell_new _ _ _ 0 _ rfl) (cell_new _ _ _ 1 _ rfl) (cell_new _ _ _ 2 _ rfl) (cell_new _ _ _ 3 _ rfl) (cell_new _ _ _ 4 _ rfl) h1 h2 h3 (h4.later hb (by omega)) h5 (fun hn => ⟨(h6 hn).1, by have := (h6 hn).2; omega⟩) (fun i hi => AtTy.later hb (by omega) (h7 i hi))

set_option maxHeartbeats 1000000 in
theorem compare_val (B : Nat) (v1 v2 : Value) (T1 T2 : Ty) (w : World) (hB : B ≤ w.heap.size) (h1 : HasTy B w v1 T1) (h2 : HasTy B w v2 T2) :
    Calls Tryd.prog 63 #[v1, v2] w fun e w' => e = .returned (.int .i64 (Ty.cmp T1 T2)) ∧ Below w.heap.size w w' := by
  obtain ⟨vs1, rfl, a1⟩ := h1.boxed hB 26
  have h2' := h2.later (W' := w.alloc (.cells vs1 26)) (((Below.refl _ _).alloc (Nat.le_refl _) _).mono hB) (Nat.le_refl _)
  obtain ⟨vs2, rfl, a2⟩ := h2'.boxed (by simp; omega) 26
  rw [World.size_alloc] at a2
  have a1' := AtTy.later (B' := w.heap.size + 1 + 1) (W' := (w.alloc (.cells vs1 26)).alloc (.cells vs2 26)) (((Below.refl _ _).alloc (by simp) _)) (by omega) a1
  have A1 := Lib.hid a1'
  have A2 := Lib.hid a2
  have hc := Lib.hid fun w0 (hw0 : w0 = (w.alloc (.cells vs1 26)).alloc (.cells vs2 26)) => compare_any (T1.sz + 1) (w.heap.size + 1 + 1) w.heap.size 0 (w.heap.size + 1) 0 T1 T2 w0 (by omega) (by rw [hw0]; simp) (by rw [hw0]; exact A1.out) (by rw [hw0]; exact A2.out)
  clear a1 a2 a1' h1 h2 h2'
  go_enter Tryd.func63, Tryd.ntmps63
  go_wp2_with fail
  refine (hc.out _ rfl).mono ?_
  rintro e W ⟨rfl, hW⟩
  have hb : Below w.heap.size w W := (((Below.refl _ _).alloc (Nat.le_refl _) _).alloc (by simp) _).trans (hW.mono (by simp; omega))
  go_wp2_with fail
  go_ret
  exact ⟨rfl, hb⟩

theorem int_eq_dec (x : Int) : (x == 0) = decide (x = 0) := rfl

set_option maxHeartbeats 1000000 in
theorem equal_val (B : Nat) (v1 v2 : Value) (T1 T2 : Ty) (w : World) (hB : B ≤ w.heap.size) (h1 : HasTy B w v1 T1) (h2 : HasTy B w v2 T2) :
    Calls Tryd.prog 99 #[v1, v2] w fun e w' => e = .returned (.bool (Ty.cmp T1 T2 == 0)) ∧ Below w.heap.size w w' := by
  obtain ⟨vs1, rfl, a1⟩ := h1.boxed hB 26
  have h2' := h2.later (W' := w.alloc (.cells vs1 26)) (((Below.refl _ _).alloc (Nat.le_refl _) _).mono hB) (Nat.le_refl _)
  obtain ⟨vs2, rfl, a2⟩ := h2'.boxed (by simp; omega) 26
  rw [World.size_alloc] at a2
  have a1' := AtTy.later (B' := w.heap.size + 1 + 1) (W' := (w.alloc (.cells vs1 26)).alloc (.cells vs2 26)) (((Below.refl _ _).alloc (by simp) _)) (by omega) a1
  have A1 := Lib.hid a1'
  have A2 := Lib.hid a2
  have hc := Lib.hid fun w0 (hw0 : w0 = (w.alloc (.cells vs1 26)).alloc (.cells vs2 26)) => compare_any (T1.sz + 1) (w.heap.size + 1 + 1) w.heap.size 0 (w.heap.size + 1) 0 T1 T2 w0 (by omega) (by rw [hw0]; simp) (by rw [hw0]; exact A1.out) (by rw [hw0]; exact A2.out)
  clear a1 a2 a1' h1 h2 h2'
  go_enter Tryd.func99, Tryd.ntmps99
  go_wp2_with fail
  refine (hc.out _ rfl).mono ?_
  rintro e W ⟨rfl, hW⟩
  have hb : Below w.heap.size w W := (((Below.refl _ _).alloc (Nat.le_refl _) _).alloc (by simp) _).trans (hW.mono (by simp; omega))
  go_wp2_with fail
  go_ret
  exact ⟨rfl, hb⟩
end Go.Proofs.YtdffhnfjcbnioaaDoor
