/-
  What writes the text of a proof: add, and a term in brackets.
-/
import Derived.Test.YtdffhnfjcbnioaaDoorA6
namespace Go.Proofs.YtdffhnfjcbnioaaDoor
open Go.RowKit

theorem liesP : liesAt Tryd.prog Tryd.prog.depth 60 ((([.bool false] : List Value).length + 2) / Tryd.prog.cellsOf 60) 0 58 1 = true := by kernel_rfl

/-- The flag is stored anew: it is what it was. -/
theorem BsAt.flag {B b : Nat} {p : Value} {l : List UInt8} {w : World} (h : BsAt 60 [.bool false] B b p l w) : BsAt 60 [.bool false] B b p l (w.setCell ⟨b, 2, none⟩ (.bool false)) := by
  obtain ⟨hB, v, hb, hown, hne⟩ := h
  refine ⟨hB, v, ?_, ?_, hne⟩
  · simp [World.setCell, Array.getElem?_modify, hb]
  · exact hown.kept (row := some b) ⟨rfl, rfl, rfl, by simp [World.setCell], fun k _ hk => Below.heap_setCell _ _ _ _ (fun e => hk (by simp [e]))⟩ (Or.inr hne)
theorem IsBs.flag {B b : Nat} {l : List UInt8} {w : World} (h : IsBs 60 [.bool false] B b l w) : IsBs 60 [.bool false] B b l (w.setCell ⟨b, 2, none⟩ (.bool false)) := h.elim (fun h => .inl h.flag) (fun h => .inr h.flag)
theorem IsBs.full {B b : Nat} {l : List UInt8} {w : World} (h : IsBs 60 [.bool false] B b l w) : B ≤ b ∧ w.cell? ⟨b, 2, none⟩ = some (.bool false) ∧ w.frozen? ⟨b, 2, none⟩ = false := by
  obtain ⟨p, hB, v, hb, _⟩ : ∃ p, BsAt 60 [.bool false] B b p l w := h.elim (fun h => ⟨_, h⟩) (fun h => ⟨_, h⟩)
  exact ⟨hB, by rw [Lib.cell_of_heap hb]; rfl, Lib.frozen_of_heap hb 2⟩

set_option maxRecDepth 100000 in
set_option maxHeartbeats 4000000 in
theorem padd_strs (B b sb cap : Nat) (l : List UInt8) (ss : List ByteArray) (w : World) (h : IsBs 60 [.bool false] B b l w) (hBw : B ≤ w.heap.size) (hs : w.heap[sb]? = some (.cells (ss.map Value.string).toArray 9 (0, 0))) (hsb : sb ≠ b) (hc : ss.length ≤ cap) (hlen : l.length + (catB ss).length ≤ 400000) (hn : ss.length ≤ 100) :
    Calls Tryd.prog 22 #[.pointer (some ⟨b, 0, none⟩), .slice (some ⟨sb, 0, none⟩) ss.length cap] w fun e w' => e = .returned (.tuple #[]) ∧ IsBs 60 [.bool false] B b (l ++ catB ss) w' ∧ Below B w w' ∧ KeepU b w w' := by
  have HS := Lib.hid hs
  have HH := Lib.hid h
  clear hs h
  go_enter Tryd.func22, Tryd.ntmps22
  go_wp2_with fail
  go_loopw [8] (fun t wr => ∃ k : Nat, t = .int .i64 k ∧ k ≤ ss.length ∧ IsBs 60 [.bool false] B b (l ++ catB (ss.take k)) wr ∧ Below B w wr ∧ KeepU b w wr) (fun t _ => ss.length - (intOf t).toNat)
  case atStart => exact ⟨0, rfl, Nat.zero_le _, by simpa [catB] using HH.out, Below.refl _ _, KeepU.refl _ _⟩
  case round =>
    obtain ⟨k, rfl, hk, hb, hbr, hu⟩ := hrel
    by_cases hlt : k < ss.length
    · have hsr := (hu sb _ _ _ hsb HS.out (by decide)).trans HS.out
      have hcell : wr.cell? ⟨sb, k, none⟩ = some (.string ss[k]) := by
        rw [Lib.cell_of_heap hsr]
        simp [hlt]
      have htk := catB_take ss k hlt
      have hle := catB_le ss (k + 1)
      have hl2 : (l ++ catB (ss.take k)).length + ss[k].size ≤ 400000 := by
        have := congrArg List.length htk
        simp only [List.length_append] at this ⊢
        have hz : ss[k].data.toList.length = ss[k].size := by simp
        omega
      obtain ⟨hBb, f0, f1⟩ := hb.full
      have HLen := Lib.hid (bs_len _ _ _ _ _ wr hb)
      have hbf := hb.flag
      have hbw2 : Below B wr (wr.setCell ⟨b, 2, none⟩ (.bool false)) := (Below.refl B wr).setCell (p := ⟨b, 2, none⟩) hBb _
      have hfc : (wr.setCell ⟨b, 2, none⟩ (.bool false)).cell? ⟨b, 2, none⟩ = some (.bool false) := World.cell?_setCell_same' _ _ _ (by rw [f0]; rfl)
      obtain ⟨ll, hll⟩ : ∃ ll : Nat, (l ++ catB (ss.take k)).length = ll := ⟨_, rfl⟩
      have HWr2 := Lib.hid (bs_write 60 [.bool false] B b (l ++ catB (ss.take k)) ss[k] (wr.setCell ⟨b, 2, none⟩ (.bool false)) liesP (by decide) hbf (by omega) (by have := hbr.size; have := hbw2.size; omega))
      rw [hll] at HLen hl2
      have HTK := Lib.hid htk
      have HBR := Lib.hid (hbr.trans hbw2)
      have HU := Lib.hid (hu.trans (KeepU.set b 2 wr (.bool false)))
      have hl3 : decide (400000 < (ll : Int) + (ss[k].size : Int)) = false := decide_eq_false (by omega)
      clear hsr htk hle hll hb hbr hu hbf hbw2
      go_wp2_with fail
      (with_reducible refine HLen.out.mono ?_)
      rintro e w1 ⟨rfl, rfl⟩
      go_wp2_with fail
      (with_reducible refine HWr2.out.mono ?_)
      rintro e w2 ⟨rfl, hb2, hbw2, hu2⟩
      have HB2 := Lib.hid hb2
      have HBW2 := Lib.hid (HBR.out.trans hbw2)
      have HU2 := Lib.hid (HU.out.trans hu2)
      clear hb2 hbw2 hu2
      go_wp2_with fail
      go_roundw
      case rel => exact ⟨k + 1, by go_num, by omega, .inr (by rw [HTK.out, ← List.append_assoc]; exact HB2.out), HBW2.out, HU2.out⟩
      case measure => simp [intOf]; omega
    · have hkk : ss.take k = ss := List.take_of_length_le (by omega)
      rw [hkk] at hb
      have HB := Lib.hid hb
      clear hb hkk
      go_wp2_with fail
      go_end0
      exact ⟨rfl, HB.out, hbr, hu⟩
end Go.Proofs.YtdffhnfjcbnioaaDoor
