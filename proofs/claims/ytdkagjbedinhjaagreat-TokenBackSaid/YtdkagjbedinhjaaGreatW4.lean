/-
  Scan of any text under any keywords.
-/
import Derived.Test.YtdkagjbedinhjaaGreatW3
import Derived.Test.YtdkagjbedinhjaaGreatV12
namespace Go.Proofs.YtdkagjbedinhjaaGreat
open Go.RowKit Go.Maps Go.Shelf

/-- The tokens of a text under a list of keywords. -/
abbrev tokR (l : List ByteArray) (T : ByteArray) : SR := scanR (inK l) T
/-- What Scan answers. -/
def ScannedAs (l : List ByteArray) (T : ByteArray) (n₀ : Nat) (x : Ending) (w' : World) : Prop :=
  if kwCode [] l = 0 then match tokR l T with
    | (xs, none) => ∃ v g, x = .returned (.tuple #[v, .int .i64 0, .int .i64 0]) ∧ n₀ ≤ g ∧ w'.ownsRow g 35 3 v xs.length (tkCells xs)
    | (_, some (p, code)) => x = .returned (.tuple #[.slice none 0 0, .int .i64 (p : Int), .int .i64 code])
  else x = .returned (.tuple #[.slice none 0 0, .int .i64 0, .int .i64 (kwCode [] l)])

set_option maxRecDepth 100000 in
set_option maxHeartbeats 4000000 in
theorem scan_fault (l : List ByteArray) (v : Value) (T : ByteArray) (w : World) (hv : HasStrs w v l) (h500 : l.length ≤ 500) (hc : kwCode [] l ≠ 0) :
    Calls Tryz.prog 7 #[v, .string T] w fun e w' => e = .returned (.tuple #[.slice none 0 0, .int .i64 0, .int .i64 (kwCode [] l)]) ∧ Below w.heap.size w w' := by
  have HK := Lib.hid (known_any l v w hv h500)
  have hb0 : (kwCode [] l == 0) = false := by rw [beq_eq_false_iff_ne]; exact hc
  have HC := Lib.hid hc
  clear hv hc
  go_enter Tryz.func7, Tryz.ntmps7
  go_wp2_with fail
  (with_reducible refine HK.out.mono ?_)
  rintro e w1 ⟨h, hb⟩
  have HB := Lib.hid hb
  rcases h with ⟨h, _⟩ | ⟨_, rfl⟩
  · exact absurd h HC.out
  clear hb
  go_wp2_with fail
  go_ret3
  exact ⟨rfl, HB.out⟩

set_option maxRecDepth 100000 in
set_option maxHeartbeats 4000000 in
theorem scan_known (l : List ByteArray) (v : Value) (T : ByteArray) (w : World) (hv : HasStrs w v l) (h500 : l.length ≤ 500) (hT : T.size ≤ 40000) (hc : kwCode [] l = 0) :
    Calls Tryz.prog 7 #[v, .string T] w fun e w' => ScannedAs l T w.heap.size e w' ∧ Below w.heap.size w w' := by
  have HK := Lib.hid (known_any l v w hv h500)
  have HC := Lib.hid hc
  clear hv hc
  go_enter Tryz.func7, Tryz.ntmps7
  go_wp2_with fail
  (with_reducible refine HK.out.mono ?_)
  rintro e w1 ⟨h, hb⟩
  have HB := Lib.hid hb
  rcases h with ⟨_, rfl, hm⟩ | ⟨h, _⟩
  · have HM := Lib.hid (callsIn_wide.1 (scan_any_in 3 w.heap.size (inK l) T w1 (Nat.le_refl _) hm hT))
    clear hm hb
    go_wp2_with fail
    (with_reducible refine HM.out.mono ?_)
    rintro e w2 ⟨h, hb⟩
    have HB2 := Lib.hid (HB.out.trans (hb.mono HB.out.size))
    clear hb
    have hR := Lib.hid (rfl : scanR (inK l) T = scanR (inK l) T)
    obtain ⟨R, hR2⟩ : ∃ R, scanR (inK l) T = R := ⟨_, rfl⟩
    rw [hR2] at h
    clear hR
    have HR := Lib.hid hR2
    clear hR2
    rcases R with ⟨xs, _ | ⟨p, code⟩⟩
    · obtain ⟨x, rfl, hrow⟩ := h
      have HW := Lib.hid hrow
      clear hrow
      go_wp2_with fail
      go_ret3
      refine ⟨?_, HB2.out⟩
      unfold ScannedAs
      rw [if_pos HC.out]
      unfold tokR
      rw [HR.out]
      exact ⟨_, _, rfl, by have := HB.out.size; omega, HW.out⟩
    · obtain rfl := h
      go_wp2_with fail
      go_ret3
      refine ⟨?_, HB2.out⟩
      unfold ScannedAs
      rw [if_pos HC.out]
      unfold tokR
      rw [HR.out]
      rfl
  · exact absurd HC.out h

theorem scan_all (l : List ByteArray) (v : Value) (T : ByteArray) (w : World) (hv : HasStrs w v l) (h500 : l.length ≤ 500) (hT : T.size ≤ 40000) :
    Calls Tryz.prog 7 #[v, .string T] w fun e w' => ScannedAs l T w.heap.size e w' ∧ Below w.heap.size w w' := by
  by_cases hc : kwCode [] l = 0
  · exact scan_known l v T w hv h500 hT hc
  · refine (scan_fault l v T w hv h500 hc).mono ?_
    rintro e w' ⟨h, hb⟩
    refine ⟨?_, hb⟩
    unfold ScannedAs
    rw [if_neg hc]
    exact h
end Go.Proofs.YtdkagjbedinhjaaGreat
