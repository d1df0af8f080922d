/-
  The form of a fixed variable whose type is a constructor without arguments.
-/
import Derived.Test.YtdffhnfjcbnioaaDoorA1
import Derived.Test.YtdffhnfjcbnioaaDoorP3
import Derived.Deep.QuietTactic
import Derived.BigQuiet
namespace Go.Proofs.YtdffhnfjcbnioaaDoor
open Go.RowKit

/-- A fixed variable. -/
def tmF (nm tn : ByteArray) : Tm := .mk 2 nm 0 (tyC tn) []

set_option maxRecDepth 100000 in
set_option maxHeartbeats 4000000 in
theorem fields_free (w : World) : Calls Tryd.prog 95 #[.int .i64 2] w fun e w' => e = .returned (.agg #[.bool true, .bool false, .bool true, .int .i64 0, .bool false]) ∧ Below w.heap.size w w' := by
  go_enter Tryd.func95, Tryd.ntmps95
  go_wp2_with fail
  refine bodyPost_ret (v := .agg #[.bool true, .bool false, .bool true, .int .i64 0, .bool false]) (by simp [results, Tryd.results95, go_sem]) rfl ⟨rfl, ?_⟩
  exact (Below.refl _ w).alloc (Nat.le_refl _) _

set_option maxRecDepth 100000 in
set_option maxHeartbeats 4000000 in
theorem node_free (B b o : Nat) (d : Int) (nm tn : ByteArray) (w : World) (hB : B ≤ w.heap.size) (hT : AtTm B w b o (tmF nm tn)) (hn : nameB nm = true) (ht : nameB tn = true) :
    Calls Tryd.prog 81 #[.pointer (some ⟨b, o, none⟩), .int .i64 d] w fun e w' => e = .returned (.int .i64 0) ∧ Below w.heap.size w w' := by
  obtain ⟨_, _, op, num, nm, ty, kids, a, cap, kb, ko, hb, c0, c1, c2, ct, c8, hop, hnum, hnm, hl, hk, he⟩ := hT
  have HN := Lib.hid fun W => (by rw [← hn]; exact name_any nm W hnm : Calls Tryd.prog 31 #[.string nm] W fun e w' => e = .returned (.bool true) ∧ W = w')
  have HFm := Lib.hid fun W (h : Below w.heap.size w W) => form_plain B b (o + 3) (tyC tn) W (Nat.le_trans hB h.size) (ct.later (h.mono hB) (Nat.le_refl _)) (plain_tyC ht) (by show 1 ≤ 20000; decide) (by show 1 ≤ 500; decide)
  have C0 := Lib.hid fun W (h : Below w.heap.size w W) => (h.cell (p := ⟨b, o, none⟩) (Nat.lt_of_lt_of_le hb hB)).trans c0
  have C1 := Lib.hid fun W (h : Below w.heap.size w W) => (h.cell (p := ⟨b, o + 1, none⟩) (Nat.lt_of_lt_of_le hb hB)).trans c1
  have C2 := Lib.hid fun W (h : Below w.heap.size w W) => (h.cell (p := ⟨b, o + 2, none⟩) (Nat.lt_of_lt_of_le hb hB)).trans c2
  have C8 := Lib.hid fun W (h : Below w.heap.size w W) => (h.cell (p := ⟨b, o + 8, none⟩) (Nat.lt_of_lt_of_le hb hB)).trans c8
  clear c1 c2 c8 ct hk he hop hnum hnm hl
  go_enter Tryd.func81, Tryd.ntmps81
  go_wp2_with fail
  (with_reducible refine (fields_free w).mono ?_)
  rintro e W ⟨rfl, hW⟩
  have hb1 : Below W.heap.size W (W.alloc (.cells #[.bool true, .bool false, .bool true, .int .i64 0, .bool false] 155)) := (Below.refl _ W).alloc (Nat.le_refl _) _
  have hb2 : Below w.heap.size w (W.alloc (.cells #[.bool true, .bool false, .bool true, .int .i64 0, .bool false] 155)) := hW.trans (hb1.mono hW.size)
  have e0 := C0.out _ hb2
  have e1 := C1.out _ hb2
  have e2 := C2.out _ hb2
  have e8 := C8.out _ hb2
  simp only [List.length_nil] at e8
  have FB' := Go.heap_alloc_new W (.cells #[.bool true, .bool false, .bool true, .int .i64 0, .bool false] 155)
  have g3 : (W.alloc (.cells #[.bool true, .bool false, .bool true, .int .i64 0, .bool false] 155)).cell? ⟨W.heap.size, 3, none⟩ = some (.int .i64 0) := by rw [Lib.cell_of_heap FB']; rfl
  clear FB'
  have HB2 := Lib.hid hb2
  have FB := Lib.hid (Go.heap_alloc_new W (.cells #[.bool true, .bool false, .bool true, .int .i64 0, .bool false] 155))
  clear hb1 hb2 c0
  go_wp2_with fail
  (with_reducible refine (HN.out _).mono ?_)
  rintro e W2 ⟨rfl, rfl⟩
  go_wp2_with fail
  go_quiet (fail)
  go_wp2_with fail
  (with_reducible refine (HFm.out _ (below_drewN HB2.out _)).mono ?_)
  rintro e W3 ⟨rfl, hW3⟩
  have HF := Lib.hid ((below_drewN HB2.out _).trans (hW3.mono (below_drewN HB2.out _).size))
  clear hW3
  go_wp2_with fail
  go_ret
  exact ⟨rfl, HF.out⟩

set_option maxRecDepth 100000 in
set_option maxHeartbeats 4000000 in
theorem tform_free (B b o : Nat) (nm tn : ByteArray) (w : World) (hB : B ≤ w.heap.size) (hT : AtTm B w b o (tmF nm tn)) (hn : nameB nm = true) (ht : nameB tn = true) :
    Calls Tryd.prog 54 #[.pointer (some ⟨b, o, none⟩)] w fun e w' => e = .returned (.int .i64 0) ∧ Below w.heap.size w w' := by
  have HS := Lib.hid (tsize_ok B b o (tmF nm tn) w hT hB (by show 1 ≤ 20000; decide) (by show 1 ≤ 500; decide))
  have HNd := Lib.hid fun W (h : Below w.heap.size w W) => node_free B b o 0 nm tn W (Nat.le_trans hB h.size) (hT.later (h.mono hB) (Nat.le_refl _)) hn ht
  obtain ⟨_, _, op, num, nm, ty, kids, a, cap, kb, ko, hb, c0, c1, c2, ct, c8, hop, hnum, hnm, hl, hk, he⟩ := hT
  have C0 := Lib.hid fun W (h : Below w.heap.size w W) => (h.cell (p := ⟨b, o, none⟩) (Nat.lt_of_lt_of_le hb hB)).trans c0
  have C8 := Lib.hid fun W (h : Below w.heap.size w W) => (h.cell (p := ⟨b, o + 8, none⟩) (Nat.lt_of_lt_of_le hb hB)).trans c8
  have HWi := Lib.hid fun W (h : Below w.heap.size w W) => (show Calls Tryd.prog 67 #[.pointer (some ⟨b, o, none⟩), .int .i64 0] W fun e w' => e = .returned (.int .i64 0) ∧ Below W.heap.size W w' from by
    have HN1 := Lib.hid (HNd.out W h)
    go_enter Tryd.func67, Tryd.ntmps67
    go_wp2_with fail
    (with_reducible refine HN1.out.mono ?_)
    rintro e W2 ⟨rfl, hW2⟩
    have f0 := C0.out W2 (h.trans (hW2.mono h.size))
    have f8 := C8.out W2 (h.trans (hW2.mono h.size))
    simp only [List.length_nil] at f8
    go_wp2_with fail
    refine wp_loop_rounds 1 ?_
    rw [rounds_succ]
    go_wp2_with fail
    go_ret
    exact ⟨rfl, hW2⟩)
  clear c0 c1 c2 ct c8 hk he hop hnum hnm hl
  go_enter Tryd.func54, Tryd.ntmps54
  go_wp2_with fail
  (with_reducible refine HS.out.mono ?_)
  rintro e W ⟨rfl, hW⟩
  have HW2 := Lib.hid (HWi.out W hW)
  have HW := Lib.hid hW
  clear hW
  go_wp2_with fail
  (with_reducible refine HW2.out.mono ?_)
  rintro e W3 ⟨rfl, hW3⟩
  have HF := Lib.hid (HW.out.trans (hW3.mono HW.out.size))
  clear hW3
  go_wp2_with fail
  go_ret
  exact ⟨rfl, HF.out⟩
end Go.Proofs.YtdffhnfjcbnioaaDoor
