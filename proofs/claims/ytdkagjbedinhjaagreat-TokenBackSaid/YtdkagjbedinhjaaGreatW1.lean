/-
  Which texts are keywords.
-/
import Derived.Test.YtdkagjbedinhjaaGreatS10
import Derived.Test.YtdkagjbedinhjaaGreatV4
namespace Go.Proofs.YtdkagjbedinhjaaGreat
open Go.RowKit

/-- Is a text a keyword? -/
def isKwB (k : ByteArray) : Bool := if k.data.toList = [] then false else if 40 < k.size then false else if k.data.toList = openL then false else if k.data.toList = closeL then false else decide (idLen (from' k 0) = k.size) || decide (signLen (from' k 0) = k.size)

theorem kw_new (k : ByteArray) (w : World) : ScT w.heap.size k (w.alloc (.cells #[.map none, .string k] 53)) := ⟨_, Go.heap_alloc_new w _⟩

set_option maxRecDepth 100000 in
set_option maxHeartbeats 4000000 in
theorem isKeyword_any (k : ByteArray) (w : World) : Calls Tryz.prog 23 #[.string k] w fun e w' => e = .returned (.bool (isKwB k)) ∧ Below w.heap.size w w' := by
  by_cases h0 : k.data.toList = []
  · have hv : isKwB k = false := by unfold isKwB; rw [if_pos h0]
    have HV := Lib.hid hv
    have e1 : k.toList = [] := by rw [Lib.toList_data]; exact h0
    have e2 : k.toList.isEmpty = true := by rw [e1]; rfl
    clear h0 hv
    go_enter Tryz.func23, Tryz.ntmps23
    go_wp2_with fail
    go_ret
    exact ⟨ret_bool HV.out.symm, Below.refl _ _⟩
  · have e2 : k.toList.isEmpty = false := by rw [Lib.toList_data]; cases h : k.data.toList with
      | nil => exact absurd h h0
      | cons a b => rfl
    have e1 : ¬ k.toList = [] := by rw [Lib.toList_data]; exact h0
    by_cases h1 : 40 < k.size
    · have hv : isKwB k = false := by unfold isKwB; rw [if_neg h0, if_pos h1]
      have HV := Lib.hid hv
      have hd : decide ((40 : Int) < k.size) = true := by simp; omega
      clear h0 hv e1
      go_enter Tryz.func23, Tryz.ntmps23
      go_wp2_with fail
      go_ret
      exact ⟨ret_bool HV.out.symm, Below.refl _ _⟩
    · have hd : decide ((40 : Int) < k.size) = false := by simp; omega
      by_cases h2 : k.data.toList = openL
      · have hv : isKwB k = false := by unfold isKwB; rw [if_neg h0, if_neg h1, if_pos h2]
        have HV := Lib.hid hv
        have e3 : (k.toList == [92, 60, 111, 112, 101, 110, 62]) = true := by rw [Lib.toList_data, h2]; rfl
        clear h0 hv e1 h2
        go_enter Tryz.func23, Tryz.ntmps23
        go_wp2_with fail
        go_ret
        exact ⟨ret_bool HV.out.symm, Below.refl _ _⟩
      · have e3 : (k.toList == [92, 60, 111, 112, 101, 110, 62]) = false := by rw [Lib.toList_data, beq_eq_false_iff_ne]; exact h2
        by_cases h3 : k.data.toList = closeL
        · have hv : isKwB k = false := by unfold isKwB; rw [if_neg h0, if_neg h1, if_neg h2, if_pos h3]
          have HV := Lib.hid hv
          have e4 : (k.toList == [92, 60, 99, 108, 111, 115, 101, 62]) = true := by rw [Lib.toList_data, h3]; rfl
          clear h0 hv e1 h2 h3
          go_enter Tryz.func23, Tryz.ntmps23
          go_wp2_with fail
          go_ret
          exact ⟨ret_bool HV.out.symm, Below.refl _ _⟩
        · have hv : isKwB k = (decide (idLen (from' k 0) = k.size) || decide (signLen (from' k 0) = k.size)) := by unfold isKwB; rw [if_neg h0, if_neg h1, if_neg h2, if_neg h3]
          have HV := Lib.hid hv
          have e4 : (k.toList == [92, 60, 99, 108, 111, 115, 101, 62]) = false := by rw [Lib.toList_data, beq_eq_false_iff_ne]; exact h3
          obtain ⟨W, hW⟩ : ∃ W, W = w.alloc (.cells #[.map none, .string k] 53) := ⟨_, rfl⟩
          have hs : ScT w.heap.size k W := by rw [hW]; exact kw_new k w
          have hB : Below w.heap.size w W := by rw [hW]; exact (Below.refl _ _).alloc (Nat.le_refl _) _
          have HW := Lib.hid hW.symm
          have hi := identifier_any w.heap.size k 0 W hs (Nat.zero_le _) (by omega)
          have hg := sign_any w.heap.size k 0 W hs (Nat.zero_le _) (by omega)
          rw [show ((0 : Nat) : Int) = 0 from rfl, Nat.zero_add] at hi hg
          have HI := Lib.hid hi
          have HS := Lib.hid hg
          have HB := Lib.hid hB
          clear h0 hv e1 h2 h3 hW hB hs hi hg
          go_enter Tryz.func23, Tryz.ntmps23
          go_wp2_with fail
          rw [HW.out]
          (with_reducible refine HI.out.mono ?_)
          rintro _ _ ⟨rfl, rfl⟩
          cases hc : (((idLen (from' k 0) : Nat) : Int) == (k.size : Int)) with
          | true =>
            have HC := Lib.hid (beq_iff_eq.1 hc)
            go_wp2_with fail
            go_ret
            exact ⟨ret_bool (HV.out.trans (by rw [decide_eq_true (Int.ofNat_inj.1 HC.out)]; rfl)).symm, HB.out⟩
          | false =>
            have HC := Lib.hid (beq_eq_false_iff_ne.1 hc)
            go_wp2_with fail
            (with_reducible refine HS.out.mono ?_)
            rintro _ _ ⟨rfl, rfl⟩
            go_wp2_with fail
            go_ret
            refine ⟨ret_bool (Eq.trans ?_ HV.out.symm), HB.out⟩
            rw [decide_eq_false fun h => HC.out (Int.ofNat_inj.2 h), Bool.false_or, Bool.eq_iff_iff, beq_iff_eq, decide_eq_true_iff, Int.ofNat_inj]
end Go.Proofs.YtdkagjbedinhjaaGreat
