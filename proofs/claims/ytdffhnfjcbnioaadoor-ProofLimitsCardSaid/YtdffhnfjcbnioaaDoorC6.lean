/-
  sort.IsName: which strings are names.
-/
import Derived.Test.YtdffhnfjcbnioaaDoorC4
namespace Go.Proofs.YtdffhnfjcbnioaaDoor
open Go.RowKit

/-- A byte with which a name may begin. -/
def startsB (b : Int) : Bool := decide (97 ≤ b ∧ b ≤ 122) || decide (65 ≤ b ∧ b ≤ 90) || decide (b = 95)
/-- A byte that a name may have behind its first one besides. -/
def contB (b : Int) : Bool := decide (48 ≤ b ∧ b ≤ 57) || decide (b = 39) || decide (b = 46)

set_option maxHeartbeats 1000000 in
theorem starts_any (b : Int) (w : World) (h0 : 0 ≤ b) (h1 : b ≤ 255) : Calls Tryd.prog 48 #[.int .u8 b] w fun e w' => e = .returned (.bool (startsB b)) ∧ w = w' := by
  by_cases a1 : 97 ≤ b
  · by_cases a2 : b ≤ 122
    · go_enter Tryd.func48, Tryd.ntmps48
      go_wp2
      go_ret
      exact ⟨ret_bool (by unfold startsB; rw [Bool.eq_iff_iff]; simp; omega), rfl⟩
    · go_enter Tryd.func48, Tryd.ntmps48
      go_wp2
      go_ret
      exact ⟨ret_bool (by unfold startsB; rw [Bool.eq_iff_iff]; simp; omega), rfl⟩
  · by_cases a2 : 65 ≤ b
    · by_cases a3 : b ≤ 90
      · go_enter Tryd.func48, Tryd.ntmps48
        go_wp2
        go_ret
        exact ⟨ret_bool (by unfold startsB; rw [Bool.eq_iff_iff]; simp; omega), rfl⟩
      · by_cases a4 : b = 95
        · subst a4
          go_enter Tryd.func48, Tryd.ntmps48
          go_wp2
          go_ret
          exact ⟨ret_bool (by decide), rfl⟩
        · go_enter Tryd.func48, Tryd.ntmps48
          go_wp2
          go_ret
          exact ⟨ret_bool (by unfold startsB; rw [Bool.eq_iff_iff]; simp; omega), rfl⟩
    · go_enter Tryd.func48, Tryd.ntmps48
      go_wp2
      go_ret
      exact ⟨ret_bool (by unfold startsB; rw [Bool.eq_iff_iff]; simp; omega), rfl⟩

set_option maxHeartbeats 1000000 in
theorem cont_any (b : Int) (w : World) (h0 : 0 ≤ b) (h1 : b ≤ 255) : Calls Tryd.prog 49 #[.int .u8 b] w fun e w' => e = .returned (.bool (contB b)) ∧ w = w' := by
  by_cases a1 : 48 ≤ b
  · by_cases a2 : b ≤ 57
    · go_enter Tryd.func49, Tryd.ntmps49
      go_wp2
      go_ret
      exact ⟨ret_bool (by unfold contB; rw [Bool.eq_iff_iff]; simp; omega), rfl⟩
    · go_enter Tryd.func49, Tryd.ntmps49
      go_wp2
      go_ret
      exact ⟨ret_bool (by unfold contB; rw [Bool.eq_iff_iff]; simp; omega), rfl⟩
  · by_cases a3 : b = 39
    · subst a3
      go_enter Tryd.func49, Tryd.ntmps49
      go_wp2
      go_ret
      exact ⟨ret_bool (by decide), rfl⟩
    · by_cases a4 : b = 46
      · subst a4
        go_enter Tryd.func49, Tryd.ntmps49
        go_wp2
        go_ret
        exact ⟨ret_bool (by decide), rfl⟩
      · go_enter Tryd.func49, Tryd.ntmps49
        go_wp2
        go_ret
        exact ⟨ret_bool (by unfold contB; rw [Bool.eq_iff_iff]; simp; omega), rfl⟩

/-- The bytes of a name from a place on. -/
def nameFrom (first : Bool) : List UInt8 → Bool
  | [] => true
  | b :: r => (startsB (b.toNat : Int) || !first && contB (b.toNat : Int)) && nameFrom false r
/-- Is a string a name? -/
def nameB (s : ByteArray) : Bool := decide (1 ≤ s.size) && decide (s.size ≤ 40) && nameFrom true s.data.toList

theorem nameFrom_drop (s : ByteArray) (k : Nat) (h : k < s.size) : nameFrom (k == 0) (s.data.toList.drop k) = ((startsB (s[k].toNat : Int) || !(k == 0) && contB (s[k].toNat : Int)) && nameFrom false (s.data.toList.drop (k + 1))) := by
  rw [List.drop_eq_getElem_cons (by simpa using h)]; rfl

set_option maxHeartbeats 2000000 in
theorem name_any (s : ByteArray) (w : World) (hs : s.size ≤ 9223372036854775807) : Calls Tryd.prog 31 #[.string s] w fun e w' => e = .returned (.bool (nameB s)) ∧ w = w' := by
  by_cases h0 : s.size < 1
  · have hv := Lib.hid (show nameB s = false by unfold nameB; rw [decide_eq_false (by omega)]; rfl)
    go_enter Tryd.func31, Tryd.ntmps31
    go_wp2_with fail
    go_ret
    exact ⟨ret_bool hv.out.symm, rfl⟩
  · by_cases h1 : 40 < s.size
    · have hv := Lib.hid (show nameB s = false by unfold nameB; rw [decide_eq_false (show ¬ s.size ≤ 40 by omega)]; simp)
      go_enter Tryd.func31, Tryd.ntmps31
      go_wp2_with fail
      go_ret
      exact ⟨ret_bool hv.out.symm, rfl⟩
    · have hv := Lib.hid (show nameB s = nameFrom true s.data.toList by unfold nameB; rw [decide_eq_true (show 1 ≤ s.size by omega), decide_eq_true (show s.size ≤ 40 by omega)]; simp)
      go_enter Tryd.func31, Tryd.ntmps31
      go_wp2_with fail
      go_loop [14] (fun t => ∃ k : Nat, t = .int .i64 k ∧ k ≤ s.size ∧ nameFrom (k == 0) (s.data.toList.drop k) = nameFrom true s.data.toList) (fun t => s.size - (intOf t).toNat)
      case atStart => exact ⟨0, rfl, Nat.zero_le _, rfl⟩
      case round =>
        obtain ⟨k, rfl, hk, hf⟩ := hrel
        have HF := Lib.hid hf
        clear hf
        by_cases hlt : k < s.size
        · have hd := Lib.hid (nameFrom_drop s k hlt)
          have b0 : (0 : Int) ≤ (s[k].toNat : Int) := by omega
          have b1 : (s[k].toNat : Int) ≤ 255 := by have := s[k].toNat_lt; omega
          have hst := fun w => starts_any (s[k].toNat : Int) w b0 b1
          have hct := fun w => cont_any (s[k].toNat : Int) w b0 b1
          obtain ⟨p, hp⟩ : ∃ p, startsB (s[k].toNat : Int) = p := ⟨_, rfl⟩
          obtain ⟨q, hq⟩ : ∃ q, contB (s[k].toNat : Int) = q := ⟨_, rfl⟩
          simp only [hp] at hst
          simp only [hq] at hct
          have HS := Lib.hid hst
          have HC := Lib.hid hct
          have HP := Lib.hid hp
          have HQ := Lib.hid hq
          clear hst hct hp hq
          cases p with
          | true =>
            go_wp2_with (go_at_call 48; refine (HS.out _).mono ?_; rintro e w' ⟨rfl, rfl⟩)
            go_round
            case rel => exact ⟨k + 1, by go_num, by omega, by rw [← HF.out, hd.out, HP.out]; simp⟩
            case measure => simp [intOf]; omega
          | false =>
            by_cases hk0 : k = 0
            · subst hk0
              go_wp2_with (go_at_call 48; refine (HS.out _).mono ?_; rintro e w' ⟨rfl, rfl⟩)
              go_ret
              exact ⟨ret_bool (by rw [hv.out, ← HF.out, hd.out, HP.out]; simp), rfl⟩
            · have hkk : ((k : Int) == 0) = false := by simpa using hk0
              have HK := Lib.hid hk0
              clear hk0
              cases q with
              | true =>
                go_wp2_with (first | (go_at_call 48; refine (HS.out _).mono ?_; rintro e w' ⟨rfl, rfl⟩) | (go_at_call 49; refine (HC.out _).mono ?_; rintro e w' ⟨rfl, rfl⟩))
                go_round
                case rel => exact ⟨k + 1, by go_num, by omega, by rw [← HF.out, hd.out, HP.out, HQ.out]; simp [HK.out]⟩
                case measure => simp [intOf]; omega
              | false =>
                go_wp2_with (first | (go_at_call 48; refine (HS.out _).mono ?_; rintro e w' ⟨rfl, rfl⟩) | (go_at_call 49; refine (HC.out _).mono ?_; rintro e w' ⟨rfl, rfl⟩))
                go_ret
                exact ⟨ret_bool (by rw [hv.out, ← HF.out, hd.out, HP.out, HQ.out]; simp), rfl⟩
        · go_wp2_with fail
          go_ret
          refine ⟨ret_bool ?_, rfl⟩
          rw [hv.out, ← HF.out, List.drop_of_length_le (by simp; omega)]
          rfl
end Go.Proofs.YtdffhnfjcbnioaaDoor
