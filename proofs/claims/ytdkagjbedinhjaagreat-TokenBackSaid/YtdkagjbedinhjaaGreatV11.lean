/-
  scan's deferred function, where the scan has left by a fault.
-/
import Derived.Test.YtdkagjbedinhjaaGreatV10
import Derived.RegionTactic
import Derived.ChangeAlike
import Derived.BigRegion
namespace Go.Proofs.YtdkagjbedinhjaaGreat
open Go.RowKit Go.Shelf

set_option maxRecDepth 100000 in
set_option maxHeartbeats 4000000 in
theorem catch_fault (n p : Nat) (code : Int) (w : World) (B : Nat) (v0 : Value)
    (x1 : Boxed w B 25 v0) (x2 : Boxed w (B + 1) 3 (.int .i64 0)) (x3 : Boxed w (B + 1 + 1) 26 (.int .i64 0)) :
    CallsDIn Fence.wide n Tryz.prog 24 #[.pointer (some ⟨B, 0, none⟩), .pointer (some ⟨B + 1, 0, none⟩), .pointer (some ⟨B + 1 + 1, 0, none⟩)] (.panicking [{ v := faultV p code, recovered := false }]) w fun e u' w' =>
      e = .returned (.tuple #[]) ∧ u' = .panicking [{ v := faultV p code, recovered := true }] ∧ Boxed w' B 25 (.slice none 0 0) ∧ Boxed w' (B + 1) 3 (.int .i64 (p : Int)) ∧ Boxed w' (B + 1 + 1) 26 (.int .i64 code) ∧ Below B w w' := by
  unfold faultV
  refine callsDIn_of_wpSIn Tryz.func24 rfl trivial fun c₀ cs hu => ?_
  apply wpSIn_seq
  apply wpSIn_region
  simp [wpOpsSIn, go_sem, recoverD, hu, Tryz.ntmps24, Exit.thenS]
  refine wpSIn_of_wpIn rfl ?_
  have hta : ∀ w, (Instr.typeAssert (.iface 50 (.agg #[.int .i64 (p : Int), .int .i64 code])) 20 50 true).run Tryz.prog w = .ok (.tuple #[.agg #[.int .i64 (p : Int), .int .i64 code], .bool true]) w := fun w => by
    simp [Instr.typeAssert, run_underlying Tryz.underlying50]
  have c1 := x1.cell
  have f1 := x1.frozen
  have c2 := x2.cell
  have f2 := x2.frozen
  have c3 := x3.cell
  have f3 := x3.frozen
  simp only [Array.replicate_succ, Array.replicate_zero, List.push_toArray, List.append_toArray, List.nil_append, List.cons_append, List.setIfInBounds_toArray, List.set_cons_succ, List.set_cons_zero]
  gi_wp2
  have hlt2 : B + 1 + 1 < w.heap.size := x3.lt
  have b1 := x1.set (.slice none 0 0)
  have a1 := x2.other (B' := B) (by omega) (.slice none 0 0)
  have e1 := x3.other (B' := B) (by omega) (.slice none 0 0)
  have l1 := (Below.refl B w).setCell (p := ⟨B, 0, none⟩) (Nat.le_refl _) (.slice none 0 0)
  have z1 : (w.setCell ⟨B, 0, none⟩ (.slice none 0 0)).heap.size = w.heap.size := by simp
  clear c1 f1 c2 f2 c3 f3 x1 x2 x3 hta
  generalize w.setCell ⟨B, 0, none⟩ (.slice none 0 0) = w1 at *
  have b2 := b1.other (B' := B + 1) (by omega) (.int .i64 0)
  have a2 := a1.set (.int .i64 0)
  have e2 := e1.other (B' := B + 1) (by omega) (.int .i64 0)
  have l2 := l1.setCell (p := ⟨B + 1, 0, none⟩) (Nat.le_succ _) (.int .i64 0)
  have z2 : (w1.setCell ⟨B + 1, 0, none⟩ (.int .i64 0)).heap.size = w1.heap.size := by simp
  clear b1 a1 e1 l1
  generalize w1.setCell ⟨B + 1, 0, none⟩ (.int .i64 0) = w2 at *
  have b3 := b2.other (B' := B + 1 + 1) (by omega) (.int .i64 3)
  have a3 := a2.other (B' := B + 1 + 1) (by omega) (.int .i64 3)
  have e3 := e2.set (.int .i64 3)
  have l3 := l2.setCell (p := ⟨B + 1 + 1, 0, none⟩) (by show B ≤ B + 1 + 1; omega) (.int .i64 3)
  have z3 : (w2.setCell ⟨B + 1 + 1, 0, none⟩ (.int .i64 3)).heap.size = w2.heap.size := by simp
  clear b2 a2 e2 l2
  generalize w2.setCell ⟨B + 1 + 1, 0, none⟩ (.int .i64 3) = w3 at *
  have b4 := b3.alloc (.cells #[.int .i64 (p : Int), .int .i64 code] 50)
  have a4 := a3.alloc (.cells #[.int .i64 (p : Int), .int .i64 code] 50)
  have e4 := e3.alloc (.cells #[.int .i64 (p : Int), .int .i64 code] 50)
  have l4 := l3.alloc (by omega) (.cells #[.int .i64 (p : Int), .int .i64 code] 50)
  have nb := Go.heap_alloc_new w3 (.cells #[.int .i64 (p : Int), .int .i64 code] 50)
  rw [show w3.heap.size = w.heap.size by omega] at nb
  clear b3 a3 e3 l3
  generalize w3.alloc (.cells #[.int .i64 (p : Int), .int .i64 code] 50) = W at *
  have d0 : W.cell? ⟨w.heap.size, 0, none⟩ = some (.int .i64 (p : Int)) := by rw [Lib.cell_of_heap nb]; rfl
  have d1 : W.cell? ⟨w.heap.size, 1, none⟩ = some (.int .i64 code) := by rw [Lib.cell_of_heap nb]; rfl
  have c2 := a4.cell
  have f2 := a4.frozen
  have c3 := e4.cell
  have f3 := e4.frozen
  have hne : w.heap.size ≠ B + 1 := by omega
  have hne2 : w.heap.size ≠ B + 1 + 1 := by omega
  have HB4 := Lib.hid b4
  have HA4 := Lib.hid a4
  have HE4 := Lib.hid e4
  have HL4 := Lib.hid l4
  clear b4 a4 e4 l4 nb z1 z2 z3
  gi_region
  have b5 := (HB4.out.other (B' := B + 1) (by omega) (.int .i64 (p : Int))).other (B' := B + 1 + 1) (by omega) (.int .i64 code)
  have a5 := (HA4.out.set (.int .i64 (p : Int))).other (B' := B + 1 + 1) (by omega) (.int .i64 code)
  have e5 := (HE4.out.other (B' := B + 1) (by omega) (.int .i64 (p : Int))).set (.int .i64 code)
  have l5 := (HL4.out.setCell (p := ⟨B + 1, 0, none⟩) (Nat.le_succ _) (.int .i64 (p : Int))).setCell (p := ⟨B + 1 + 1, 0, none⟩) (by show B ≤ B + 1 + 1; omega) (.int .i64 code)
  exact ⟨rfl, _, rfl, _, results_none rfl _ _ _, rfl, rfl, b5, a5, e5, l5.drew⟩
end Go.Proofs.YtdkagjbedinhjaaGreat
