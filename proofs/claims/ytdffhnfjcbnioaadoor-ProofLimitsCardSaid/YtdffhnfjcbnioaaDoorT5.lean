/-
  term.SizeError of a term that keeps the limits.
-/
import Derived.Test.YtdffhnfjcbnioaaDoorT4
namespace Go.Proofs.YtdffhnfjcbnioaaDoor
open Go.RowKit

theorem tmeter_new (w : World) : MeterAt w.heap.size 0 0 20000 (w.alloc (.cells #[.int .i64 0, .int .i64 0, .int .i64 20000, .int .i64 500] 108)) ∧ (w.alloc (.cells #[.int .i64 0, .int .i64 0, .int .i64 20000, .int .i64 500] 108)).heap[w.heap.size]? = some (.cells #[.int .i64 0, .int .i64 0, .int .i64 20000, .int .i64 500] 108) := by
  have hb := Go.heap_alloc_new w (.cells #[.int .i64 0, .int .i64 0, .int .i64 20000, .int .i64 500] 108)
  refine ⟨⟨?_, ?_, ?_, Lib.frozen_of_heap hb 0, Lib.frozen_of_heap hb 1⟩, hb⟩
  · rw [Lib.cell_of_heap hb]; rfl
  · rw [Lib.cell_of_heap hb]; rfl
  · rw [Lib.cell_of_heap hb]; rfl

set_option maxRecDepth 100000 in
set_option maxHeartbeats 1000000 in
theorem terror_ok (B b o : Nat) (T : Tm) (w : World) (hT : AtTm B w b o T) (hB : B ≤ w.heap.size) (hn : T.nodes ≤ 20000) (hd : T.depth ≤ 500) :
    Calls Tryd.prog 47 #[.agg #[.int .i64 0, .int .i64 0, .int .i64 20000, .int .i64 500], .pointer (some ⟨b, o, none⟩)] w fun e w' => e = .returned (.int .i64 0) ∧ Below w.heap.size w w' := by
  have h1 : Below w.heap.size w (w.alloc (.cells #[.int .i64 0, .int .i64 0, .int .i64 20000, .int .i64 500] 108)) := (Below.refl _ w).alloc (Nat.le_refl _) _
  have hc := Lib.hid (tadd_any (T.sz + 1) B w.heap.size b o T 0 0 20000 1 _ (by omega) hB (AtTm.later (h1.mono hB) (Nat.le_refl _) hT) (tmeter_new w).1 (by omega) (by omega) (by omega) (by omega) (by omega) (by omega))
  have hc3 : (w.alloc (.cells #[.int .i64 0, .int .i64 0, .int .i64 20000, .int .i64 500] 108)).cell? ⟨w.heap.size, 3, none⟩ = some (.int .i64 500) := by rw [Lib.cell_of_heap (tmeter_new w).2]; rfl
  have HC3 := Lib.hid hc3
  have H1 := Lib.hid h1
  have hdp := T.depth_pos
  clear h1 hc3
  go_enter Tryd.func47, Tryd.ntmps47
  go_wp2_with fail
  refine hc.out.mono ?_
  rintro e W ⟨(⟨rfl, _, hm⟩ | ⟨rfl, hover, _⟩), hb, hk⟩
  · obtain ⟨m0, m1, m2, f0, f1⟩ := hm
    have m3 := (hk 3 (by omega)).trans HC3.out
    obtain ⟨nn, hnn⟩ : ∃ nn : Int, 0 + (T.nodes : Int) = nn := ⟨_, rfl⟩
    obtain ⟨dd, hdd⟩ : ∃ dd : Int, max 0 (1 + (T.depth : Int) - 1) = dd := ⟨_, rfl⟩
    rw [hnn] at m0
    rw [hdd] at m1
    have hn2 : ¬ 20000 < nn := by omega
    have hd2 : ¬ 500 < dd := by omega
    have HWB := Lib.hid (H1.out.trans hb)
    clear hnn hdd hb hk hc
    go_wp2_with fail
    go_ret
    exact ⟨rfl, HWB.out⟩
  · omega

set_option maxRecDepth 100000 in
set_option maxHeartbeats 1000000 in
theorem tsize_ok (B b o : Nat) (T : Tm) (w : World) (hT : AtTm B w b o T) (hB : B ≤ w.heap.size) (hn : T.nodes ≤ 20000) (hd : T.depth ≤ 500) :
    Calls Tryd.prog 29 #[.pointer (some ⟨b, o, none⟩)] w fun e w' => e = .returned (.int .i64 0) ∧ Below w.heap.size w w' := by
  have hc := Lib.hid (terror_ok B b o T w hT hB hn hd)
  go_enter Tryd.func29, Tryd.ntmps29
  go_wp2_with fail
  refine hc.out.mono ?_
  rintro e W ⟨rfl, hb⟩
  go_wp2_with fail
  go_ret
  exact ⟨rfl, hb⟩
end Go.Proofs.YtdffhnfjcbnioaaDoor
