/-
  A token's piece, scanned alone; the tokens of a text ascend.
-/
import Derived.Test.YtdkagjbedinhjaaGreatY2
namespace Go.Proofs.YtdkagjbedinhjaaGreat
open Go.RowKit

/-- Where nothing stands ahead of a token, nothing stands ahead of its piece. -/
theorem betL_zero_take {l : Bs} {n : Nat} (h1 : 1 ≤ n) (h : betL l = .ok 0) : betL (l.take n) = .ok 0 := by
  cases l with
  | nil => rw [List.take_nil]; exact h
  | cons c r =>
    have hp := pre_take (c :: r) [40, 42] n
    obtain ⟨j, rfl⟩ : ∃ j, n = j + 1 := ⟨n - 1, by omega⟩
    rw [List.take_succ_cons] at hp ⊢
    rw [betL_cons] at h ⊢
    by_cases hb : blankB c = true
    · rw [if_pos hb] at h
      obtain ⟨m, _, hm⟩ := shift_ok h
      omega
    · rw [if_neg hb] at h
      rw [if_neg hb, hp]
      by_cases hq : Lib.hasPrefix (c :: r) [40, 42] = true
      · rw [if_pos hq] at h
        cases hk : nestL [40, 42] [42, 41] (c :: r) 0 with
        | none => rw [hk] at h; cases h
        | some k =>
          rw [hk] at h
          have hcb := com_bounds hq hk
          obtain ⟨m, _, hm⟩ := shift_ok h
          omega
      · have hqf : Lib.hasPrefix (c :: r) [40, 42] = false := by simpa using hq
        rw [hqf, Bool.false_and, if_neg (by decide)]
/-- Behind what stands between nothing stands between. -/
theorem betL_again : ∀ (N : Nat) (l : Bs) (p : Nat), l.length ≤ N → betL l = .ok p → betL (l.drop p) = .ok 0
  | _, [], p, _, h => by
    cases h
    rfl
  | 0, c :: r, p, hN, _ => by simp at hN
  | N + 1, c :: r, p, hN, h => by
    simp only [List.length_cons] at hN
    have h0 := h
    rw [betL_cons] at h
    by_cases hb : blankB c = true
    · rw [if_pos hb] at h
      obtain ⟨m, hm, rfl⟩ := shift_ok h
      rw [Nat.add_comm, List.drop_succ_cons]
      exact betL_again N r m (by omega) hm
    · rw [if_neg hb] at h
      by_cases hq : Lib.hasPrefix (c :: r) [40, 42] = true
      · rw [if_pos hq] at h
        cases hk : nestL [40, 42] [42, 41] (c :: r) 0 with
        | none => rw [hk] at h; cases h
        | some k =>
          rw [hk] at h
          have hcb := com_bounds hq hk
          simp only [List.length_cons] at hcb
          obtain ⟨m, hm, rfl⟩ := shift_ok h
          rw [← List.drop_drop]
          exact betL_again N _ m (by rw [List.length_drop, List.length_cons]; omega) hm
      · rw [if_neg hq] at h
        cases h
        exact h0
theorem betAt_again {T : ByteArray} {k p : Nat} (h : betAt T k = .ok p) : betL (from' T p) = .ok 0 := by
  unfold betAt at h
  obtain ⟨m, hm, rfl⟩ := shift_ok h
  rw [← from_add]
  exact betL_again _ _ m (Nat.le_refl _) hm

/-- A token as it stands in a text. -/
structure Stands (K : ByteArray → Bool) (T : ByteArray) (x : Tk) (n : Nat) : Prop where
  lt : x.2.2 < T.size
  le : x.2.2 + n ≤ T.size
  pos : 1 ≤ n
  bet : betL (from' T x.2.2) = .ok 0
  next : nextO K T x.2.2 = some (x.1, x.2.1, x.2.2 + n)
/-- Tokens that stand one behind the other, from a place on. -/
def Ascend (K : ByteArray → Bool) (T : ByteArray) : Nat → List Tk → Prop
  | _, [] => True
  | k, x :: r => k ≤ x.2.2 ∧ ∃ n, Stands K T x n ∧ Ascend K T (x.2.2 + n) r
theorem scan_ascend (K : ByteArray → Bool) (T : ByteArray) : ∀ (f k : Nat), k ≤ T.size → Ascend K T k (scanF K T f k).1
  | 0, _, _ => trivial
  | f + 1, k, hk => by
    cases hp : betAt T k with
    | error n => rw [scanF_err hp]; trivial
    | ok p =>
      rw [scanF_ok hp]
      have hb := betAt_le hk hp
      by_cases h1 : T.size ≤ p
      · rw [headOf_end h1]; trivial
      · cases hc : nextO K T p with
        | none => rw [headOf_none (by omega) hc]; trivial
        | some c =>
          have hn := nextO_le (by omega) hc
          by_cases h2 : c.2.2 = p
          · rw [headOf_byte (by omega) hc h2]; trivial
          · rw [headOf_some (by omega) hc h2]
            have e : p + (c.2.2 - p) = c.2.2 := by omega
            refine ⟨hb.1, c.2.2 - p, ⟨by show p < _; omega, by show p + _ ≤ _; omega, by omega, betAt_again hp, ?_⟩, ?_⟩
            · show nextO K T p = some (c.1, c.2.1, p + (c.2.2 - p))
              rw [hc, e]
            · show Ascend K T (p + (c.2.2 - p)) _
              rw [e]
              exact scan_ascend K T f c.2.2 hn.2

/-- The piece of a token, scanned. -/
theorem scan_piece {K : ByteArray → Bool} {T : ByteArray} {x : Tk} {n : Nat} (h : Stands K T x n) : scanR K (T.extract x.2.2 (x.2.2 + n)) = ([(x.1, x.2.1, 0)], none) := by
  have hP : Piece T (T.extract x.2.2 (x.2.2 + n)) x.2.2 n := ⟨rfl, h.le⟩
  have hs := hP.size
  generalize T.extract x.2.2 (x.2.2 + n) = P at hP hs
  have hn := next_piece hP h.pos K h.next rfl
  have hb : betAt P 0 = .ok 0 := by
    unfold betAt
    rw [hP.from', betL_zero_take h.pos h.bet]
    rfl
  have he : betAt P n = .ok n := by
    unfold betAt
    rw [from_nil (by omega)]
    rfl
  have hpos := h.pos
  obtain ⟨m, rfl⟩ : ∃ m, n = m + 1 := ⟨n - 1, by omega⟩
  unfold scanR
  rw [hs, scanF_ok hb, headOf_some (by omega) hn (by simp), scanF_ok he, headOf_end (by omega)]
  rfl
end Go.Proofs.YtdkagjbedinhjaaGreat
