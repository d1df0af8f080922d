/-
  TokenParts: the statement's walk.
-/
import Derived.Test.YtdkagjbedinhjaaGreatTk
namespace Go.Proofs.YtdkagjbedinhjaaGreat
open Go.RowKit Go.Shelf

theorem scan_len (K : ByteArray → Bool) (T : ByteArray) : ∀ (f k : Nat), (scanF K T f k).1.length ≤ f
  | 0, _ => Nat.le_refl _
  | f + 1, k => by
    cases hp : betAt T k with
    | error n => rw [scanF_err hp]; exact Nat.zero_le _
    | ok p =>
      rw [scanF_ok hp]
      unfold headOf
      split
      · exact Nat.zero_le _
      · split
        · exact Nat.zero_le _
        · split
          · exact Nat.zero_le _
          · show (_ :: _).length ≤ _
            have := scan_len K T f
            rw [List.length_cons]
            have := this (by assumption : Cd).2.2
            omega

theorem betF_err : ∀ (f : Nat) (l : Bs) (n : Nat), betF f l = .error n → n ≤ l.length
  | 0, _, n, h => by cases h
  | _ + 1, [], n, h => by cases h
  | f + 1, c :: r, n, h => by
    have sh : ∀ (k : Nat) (o : BR), o.shift k = .error n → ∃ m, o = .error m ∧ n = k + m := fun k o h => by
      cases o with
      | ok m => cases h
      | error m => cases h; exact ⟨m, rfl, rfl⟩
    simp only [betF] at h
    split at h
    · obtain ⟨m, hm, rfl⟩ := sh _ _ h
      have := betF_err f r m hm
      simp only [List.length_cons]
      omega
    · split at h
      · rename_i hp
        split at h
        · cases h; exact Nat.zero_le _
        · rename_i k hk
          have hb := com_bounds hp hk
          obtain ⟨m, hm, rfl⟩ := sh _ _ h
          have := betF_err f _ m hm
          rw [List.length_drop] at this
          omega
      · cases h
theorem betAt_err {T : ByteArray} {k n : Nat} (hk : k ≤ T.size) (h : betAt T k = .error n) : n ≤ T.size := by
  unfold betAt at h
  cases hb : betL (from' T k) with
  | ok m => rw [hb] at h; cases h
  | error m =>
    rw [hb] at h
    cases h
    have := betF_err _ _ m hb
    rw [from_len] at this
    omega
theorem scan_code (K : ByteArray → Bool) (T : ByteArray) : ∀ (f k : Nat) (xs : List Tk) (p : Nat) (code : Int), k ≤ T.size → scanF K T f k = (xs, some (p, code)) → code ≠ 0 ∧ p ≤ T.size
  | 0, _, _, _, _, _, h => by cases h
  | f + 1, k, xs, p, code, hk, h => by
    cases hp : betAt T k with
    | error n =>
      rw [scanF_err hp] at h
      cases h
      exact ⟨by decide, betAt_err hk hp⟩
    | ok q =>
      rw [scanF_ok hp] at h
      have hb := betAt_le hk hp
      by_cases h1 : T.size ≤ q
      · rw [headOf_end h1] at h; cases h
      · cases hc : nextO K T q with
        | none =>
          rw [headOf_none (by omega) hc] at h
          cases h
          exact ⟨by decide, by omega⟩
        | some c =>
          by_cases h2 : c.2.2 = q
          · rw [headOf_byte (by omega) hc h2] at h
            cases h
            exact ⟨by decide, by omega⟩
          · rw [headOf_some (by omega) hc h2] at h
            have hn := nextO_le (by omega) hc
            cases hr : scanF K T f c.2.2 with
            | mk ys o =>
              rw [hr] at h
              cases h
              exact scan_code K T f c.2.2 ys p code hn.2 hr

/-- Scan with an error. -/
theorem scan_bad (l : List ByteArray) (v : Value) (T : ByteArray) (w : World) (hv : HasStrs w v l) (h500 : l.length ≤ 500) (hT : T.size ≤ 40000) (h : kwCode [] l ≠ 0 ∨ ∃ xs p code, tokR l T = (xs, some (p, code))) :
    Calls Tryz.prog 7 #[v, .string T] w fun e w' => (∃ p code : Int, (code == 0) = false ∧ e = .returned (.tuple #[.slice none 0 0, .int .i64 p, .int .i64 code])) ∧ Below w.heap.size w w' := by
  refine (scan_all l v T w hv h500 hT).mono ?_
  rintro e w' ⟨hs, hb⟩
  refine ⟨?_, hb⟩
  unfold ScannedAs at hs
  by_cases hc : kwCode [] l = 0
  · rw [if_pos hc] at hs
    obtain ⟨xs, p, code, hr⟩ := h.resolve_left fun h => h hc
    rw [hr] at hs
    exact ⟨p, code, beq_eq_false_iff_ne.2 (scan_code _ _ _ _ _ _ _ (Nat.zero_le _) hr).1, hs⟩
  · rw [if_neg hc] at hs
    exact ⟨0, _, beq_eq_false_iff_ne.2 hc, hs⟩
/-- Scan with an error of the text. -/
theorem scan_err (l : List ByteArray) (v : Value) (T : ByteArray) (w : World) (hv : HasStrs w v l) (h500 : l.length ≤ 500) (hT : T.size ≤ 40000) (hc : kwCode [] l = 0) {xs : List Tk} {p : Nat} {code : Int} (hr : tokR l T = (xs, some (p, code))) :
    Calls Tryz.prog 7 #[v, .string T] w fun e w' => e = .returned (.tuple #[.slice none 0 0, .int .i64 (p : Int), .int .i64 code]) ∧ Below w.heap.size w w' := by
  refine (scan_all l v T w hv h500 hT).mono ?_
  rintro e w' ⟨hs, hb⟩
  refine ⟨?_, hb⟩
  unfold ScannedAs at hs
  rw [if_pos hc, hr] at hs
  exact hs
/-- Scan without one. -/
theorem scan_good (l : List ByteArray) (v : Value) (T : ByteArray) (w : World) (hv : HasStrs w v l) (h500 : l.length ≤ 500) (hT : T.size ≤ 40000) (hc : kwCode [] l = 0) {xs : List Tk} (hr : tokR l T = (xs, none)) :
    Calls Tryz.prog 7 #[v, .string T] w fun e w' => (∃ u, e = .returned (.tuple #[u, .int .i64 0, .int .i64 0]) ∧ TkRow w' w.heap.size u xs) ∧ Below w.heap.size w w' := by
  refine (scan_all l v T w hv h500 hT).mono ?_
  rintro e w' ⟨hs, hb⟩
  refine ⟨?_, hb⟩
  unfold ScannedAs at hs
  rw [if_pos hc, hr] at hs
  obtain ⟨u, g, he, hg, hrow⟩ := hs
  exact ⟨u, he, hrow.1, hrow.2.imp id fun ⟨g', cap, cur, h1, h2, h3⟩ => ⟨g', cap, cur, h1, Nat.le_trans hg h2, h3⟩⟩
end Go.Proofs.YtdkagjbedinhjaaGreat
