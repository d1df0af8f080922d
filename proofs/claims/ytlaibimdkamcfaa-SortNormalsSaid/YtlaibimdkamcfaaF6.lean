/-
  The reference's IsName.
-/
import Derived.Test.YtlaibimdkamcfaaD1
import Derived.Outline
namespace Go.Proofs.Ytlaibimdkamcfaa
open Go.RowKit

/-- What the reference asks of a byte. -/
theorem refByte (b : Int) (h0 : 0 ≤ b) (h1 : b ≤ 255) :
    (startsB b = true ∧ ((97 ≤ b ∧ b ≤ 122 ∧ 48 ≤ b ∧ ¬ b ≤ 57 ∧ (b == 39) = false ∧ (b == 46) = false) ∨ (¬ 97 ≤ b ∧ 65 ≤ b ∧ b ≤ 90 ∧ 48 ≤ b ∧ ¬ b ≤ 57 ∧ (b == 39) = false ∧ (b == 46) = false) ∨ b = 95)) ∨
    (startsB b = false ∧ contB b = true ∧ ((¬ 97 ≤ b ∧ ¬ 65 ≤ b ∧ (b == 95) = false ∧ 48 ≤ b ∧ b ≤ 57) ∨ b = 39 ∨ b = 46)) ∨
    (startsB b = false ∧ contB b = false ∧ ((97 ≤ b ∧ ¬ b ≤ 122 ∧ 65 ≤ b ∧ ¬ b ≤ 90 ∧ (b == 95) = false ∧ 48 ≤ b ∧ ¬ b ≤ 57 ∧ (b == 39) = false ∧ (b == 46) = false) ∨ (¬ 97 ≤ b ∧ 65 ≤ b ∧ ¬ b ≤ 90 ∧ (b == 95) = false ∧ 48 ≤ b ∧ ¬ b ≤ 57 ∧ (b == 39) = false ∧ (b == 46) = false) ∨ (¬ 97 ≤ b ∧ ¬ 65 ≤ b ∧ (b == 95) = false ∧ 48 ≤ b ∧ ¬ b ≤ 57 ∧ (b == 39) = false ∧ (b == 46) = false) ∨ (¬ 97 ≤ b ∧ ¬ 65 ≤ b ∧ (b == 95) = false ∧ ¬ 48 ≤ b ∧ (b == 39) = false ∧ (b == 46) = false))) := by
  have e1 : startsB b = true ↔ (97 ≤ b ∧ b ≤ 122) ∨ (65 ≤ b ∧ b ≤ 90) ∨ b = 95 := by unfold startsB; simp [or_assoc]
  have e2 : contB b = true ↔ (48 ≤ b ∧ b ≤ 57) ∨ b = 39 ∨ b = 46 := by unfold contB; simp [or_assoc]
  have f1 : startsB b = false ↔ ¬ ((97 ≤ b ∧ b ≤ 122) ∨ (65 ≤ b ∧ b ≤ 90) ∨ b = 95) := by rw [← e1]; simp
  have f2 : contB b = false ↔ ¬ ((48 ≤ b ∧ b ≤ 57) ∨ b = 39 ∨ b = 46) := by rw [← e2]; simp
  rw [e1, f1, e2, f2]
  simp only [beq_eq_false_iff_ne]
  omega

set_option maxRecDepth 100000 in
set_option maxHeartbeats 4000000 in
theorem refName_any (s : ByteArray) (w : World) (hs : s.size ≤ 9223372036854775807) : Calls Try.prog 19 #[.string s] w fun e w' => e = .returned (.bool (nameB s)) ∧ w = w' := by
  by_cases h0 : s.size < 1
  · have hv := Lib.hid (show nameB s = false by unfold nameB; rw [decide_eq_false (by omega)]; rfl)
    go_enter Try.func19, Try.ntmps19
    go_wp2_with fail
    go_ret
    exact ⟨ret_bool hv.out.symm, rfl⟩
  · by_cases h1 : 40 < s.size
    · have hv := Lib.hid (show nameB s = false by unfold nameB; rw [decide_eq_false (show ¬ s.size ≤ 40 by omega)]; simp)
      go_enter Try.func19, Try.ntmps19
      go_wp2_with fail
      go_ret
      exact ⟨ret_bool hv.out.symm, rfl⟩
    · have hv := Lib.hid (show nameB s = nameFrom true s.data.toList by unfold nameB; rw [decide_eq_true (show 1 ≤ s.size by omega), decide_eq_true (show s.size ≤ 40 by omega)]; simp)
      go_enter Try.func19, Try.ntmps19
      go_wp2_with fail
      go_loop [3] (fun t => ∃ k : Nat, t = .int .i64 k ∧ k ≤ s.size ∧ nameFrom (k == 0) (s.data.toList.drop k) = nameFrom true s.data.toList) (fun t => s.size - (intOf t).toNat)
      case atStart => exact ⟨0, rfl, Nat.zero_le _, rfl⟩
      case round =>
        obtain ⟨k, rfl, hk, hf⟩ := hrel
        have HF := Lib.hid hf
        clear hf
        by_cases hlt : k < s.size
        · have hd := Lib.hid (nameFrom_drop s k hlt)
          have b0 : (0 : Int) ≤ (s[k].toNat : Int) := by omega
          have b1 : (s[k].toNat : Int) ≤ 255 := by have := s[k].toNat_lt; omega
          have hy : ∃ b : Int, (s[k].toNat : Int) = b := ⟨_, rfl⟩
          have hc := refByte _ b0 b1
          rcases hc with ⟨hp, hc⟩ | ⟨hp, hq, hc⟩ | ⟨hp, hq, hc⟩
          · have HP := Lib.hid hp
            clear hp
            rcases hc with ⟨q1, q2, q3, q4, q5, q6⟩ | ⟨q1, q2, q3, q4, q5, q6, q7⟩ | q1
            all_goals
              go_wp2_with fail
              go_round
              case rel => exact ⟨k + 1, by go_num, by omega, by rw [← HF.out, hd.out, HP.out]; simp⟩
              case measure => simp [intOf]; omega
          · have HP := Lib.hid hp
            have HQ := Lib.hid hq
            clear hp hq
            by_cases hk0 : k = 0
            · subst hk0
              rcases hc with ⟨q1, q2, q3, q4, q5⟩ | q1 | q1
              all_goals
                go_wp2_with fail
                go_ret
                exact ⟨ret_bool (by rw [hv.out, ← HF.out, hd.out, HP.out]; simp), rfl⟩
            · have hkk : ((k : Int) == 0) = false := by simpa using hk0
              have HK := Lib.hid hk0
              clear hk0
              rcases hc with ⟨q1, q2, q3, q4, q5⟩ | q1 | q1
              all_goals
                go_wp2_with fail
                go_round
                case rel => exact ⟨k + 1, by go_num, by omega, by rw [← HF.out, hd.out, HP.out, HQ.out]; simp [HK.out]⟩
                case measure => simp [intOf]; omega
          · have HP := Lib.hid hp
            have HQ := Lib.hid hq
            clear hp hq
            by_cases hk0 : k = 0
            · subst hk0
              rcases hc with ⟨q1, q2, q3, q4, q5, q6, q7, q8, q9⟩ | ⟨q1, q2, q3, q4, q5, q6, q7, q8⟩ | ⟨q1, q2, q3, q4, q5, q6, q7⟩ | ⟨q1, q2, q3, q4, q5, q6⟩
              all_goals
                go_wp2_with fail
                go_ret
                exact ⟨ret_bool (by rw [hv.out, ← HF.out, hd.out, HP.out]; simp), rfl⟩
            · have hkk : ((k : Int) == 0) = false := by simpa using hk0
              have HK := Lib.hid hk0
              clear hk0
              rcases hc with ⟨q1, q2, q3, q4, q5, q6, q7, q8, q9⟩ | ⟨q1, q2, q3, q4, q5, q6, q7, q8⟩ | ⟨q1, q2, q3, q4, q5, q6, q7⟩ | ⟨q1, q2, q3, q4, q5, q6⟩
              all_goals
                go_wp2_with fail
                go_ret
                exact ⟨ret_bool (by rw [hv.out, ← HF.out, hd.out, HP.out, HQ.out]; simp), rfl⟩
        · go_wp2_with fail
          go_ret
          refine ⟨ret_bool ?_, rfl⟩
          rw [hv.out, ← HF.out, List.drop_of_length_le (by simp; omega)]
          rfl
end Go.Proofs.Ytlaibimdkamcfaa
