/-
  What writes the text of a term: add.
-/
import Derived.Test.YtdffhnfjcbnioaaDoorA3
namespace Go.Proofs.YtdffhnfjcbnioaaDoor
open Go.RowKit

/-- The bytes of texts, one behind the other. -/
def catB : List ByteArray → List UInt8
  | [] => []
  | s :: r => s.data.toList ++ catB r
theorem catB_take (l : List ByteArray) (k : Nat) (h : k < l.length) : catB (l.take (k + 1)) = catB (l.take k) ++ l[k].data.toList := by
  induction l generalizing k with
  | nil => simp at h
  | cons x r ih =>
    cases k with
    | zero => simp [catB]
    | succ k => simp only [List.take_succ_cons, catB, List.getElem_cons_succ]; rw [ih k (by simpa using h), List.append_assoc]
theorem catB_le (l : List ByteArray) (k : Nat) : (catB (l.take k)).length ≤ (catB l).length := by
  induction l generalizing k with
  | nil => simp
  | cons x r ih =>
    cases k with
    | zero => simp [catB]
    | succ k => simp only [List.take_succ_cons, catB, List.length_append]; have := ih k; omega

theorem liesW : liesAt Tryd.prog Tryd.prog.depth 126 ((([] : List Value).length + 2) / Tryd.prog.cellsOf 126) 0 58 1 = true := by kernel_rfl

set_option maxRecDepth 100000 in
set_option maxHeartbeats 4000000 in
theorem tadd_strs (B b sb cap : Nat) (l : List UInt8) (ss : List ByteArray) (w : World) (h : IsBs 126 [] B b l w) (hBw : B ≤ w.heap.size) (hs : w.heap[sb]? = some (.cells (ss.map Value.string).toArray 9 (0, 0))) (hsb : sb ≠ b) (hc : ss.length ≤ cap) (hlen : l.length + (catB ss).length ≤ 40000) (hn : ss.length ≤ 100) :
    Calls Tryd.prog 82 #[.pointer (some ⟨b, 0, none⟩), .slice (some ⟨sb, 0, none⟩) ss.length cap] w fun e w' => e = .returned (.tuple #[]) ∧ IsBs 126 [] B b (l ++ catB ss) w' ∧ Below B w w' ∧ KeepU b w w' := by
  have HS := Lib.hid hs
  have HH := Lib.hid h
  clear hs h
  go_enter Tryd.func82, Tryd.ntmps82
  go_wp2_with fail
  go_loopw [8] (fun t wr => ∃ k : Nat, t = .int .i64 k ∧ k ≤ ss.length ∧ IsBs 126 [] B b (l ++ catB (ss.take k)) wr ∧ Below B w wr ∧ KeepU b w wr) (fun t _ => ss.length - (intOf t).toNat)
  case atStart => exact ⟨0, rfl, Nat.zero_le _, by simpa [catB] using HH.out, Below.refl _ _, KeepU.refl _ _⟩
  case round =>
    obtain ⟨k, rfl, hk, hb, hbr, hu⟩ := hrel
    by_cases hlt : k < ss.length
    · have hsr := (hu sb _ _ _ hsb HS.out (by decide)).trans HS.out
      have hcell : wr.cell? ⟨sb, k, none⟩ = some (.string ss[k]) := by
        rw [Lib.cell_of_heap hsr]
        simp [hlt]
      have htk := catB_take ss k hlt
      have hle := catB_le ss (k + 1)
      have hl2 : (l ++ catB (ss.take k)).length + ss[k].size ≤ 40000 := by
        have := congrArg List.length htk
        simp only [List.length_append] at this ⊢
        have hz : ss[k].data.toList.length = ss[k].size := by simp
        omega
      have HLen := Lib.hid (bs_len _ _ _ _ _ wr hb)
      have HWr := Lib.hid (bs_write 126 [] B b (l ++ catB (ss.take k)) ss[k] wr liesW (by decide) hb (by omega) (by have := hbr.size; omega))
      obtain ⟨ll, hll⟩ : ∃ ll : Nat, (l ++ catB (ss.take k)).length = ll := ⟨_, rfl⟩
      rw [hll] at HLen hl2
      have HTK := Lib.hid htk
      have HBR := Lib.hid hbr
      have HU := Lib.hid hu
      have hl3 : ¬ 40000 < (ll : Int) + (ss[k].size : Int) := by omega
      clear hsr htk hle hll hb hbr hu
      go_wp2_with fail
      (with_reducible refine HLen.out.mono ?_)
      rintro e w1 ⟨rfl, rfl⟩
      go_wp2_with fail
      (with_reducible refine HWr.out.mono ?_)
      rintro e w2 ⟨rfl, hb2, hbw2, hu2⟩
      have HB2 := Lib.hid hb2
      have HBW2 := Lib.hid (HBR.out.trans hbw2)
      have HU2 := Lib.hid (HU.out.trans hu2)
      clear hb2 hbw2 hu2
      go_wp2_with fail
      go_roundw
      case rel => exact ⟨k + 1, by go_num, by omega, .inr (by rw [HTK.out, ← List.append_assoc]; exact HB2.out), HBW2.out, HU2.out⟩
      case measure => simp [intOf]; omega
    · have hkk : ss.take k = ss := List.take_of_length_le (by omega)
      rw [hkk] at hb
      have HB := Lib.hid hb
      clear hb hkk
      go_wp2_with fail
      go_end0
      exact ⟨rfl, HB.out, hbr, hu⟩
end Go.Proofs.YtdffhnfjcbnioaaDoor
