/-
  How strings and quotations stand in a text: as they are written.
-/
import Derived.Test.YtdkagjbedinhjaaGreatY3
namespace Go.Proofs.YtdkagjbedinhjaaGreat
open Go.RowKit

/-- How a byte of a string is written, and a text. -/
def escOf (c : UInt8) : Bs := if c = 92 then [92, 92] else if c = 34 then [92, 34] else if c = 10 then [92, 110] else [c]
def escT (l : Bs) : Bs := l.flatMap escOf

theorem escB_back {a : UInt8} (h : escB a ≠ 0) : escOf (escB a) = [92, a] := by
  unfold escB at h ⊢
  by_cases h1 : a = 34
  · subst h1; decide
  · rw [if_neg h1] at h ⊢
    by_cases h2 : a = 92
    · subst h2; decide
    · rw [if_neg h2] at h ⊢
      by_cases h3 : a = 110
      · subst h3; decide
      · rw [if_neg h3] at h
        exact absurd rfl h
theorem strF_written : ∀ (f : Nat) (l : Bs) (r : Bs × Nat), strF f l = some r → l.take r.2 = escT r.1 ++ [34]
  | 0, _, _, h => by cases h
  | _ + 1, [], _, h => by cases h
  | f + 1, c :: r, x, h => by
    simp only [strF] at h
    split at h
    · cases h
    · rename_i h1
      split at h
      · rename_i h2
        cases h
        subst h2
        rfl
      · rename_i h2
        split at h
        · rename_i h3
          split at h
          · cases h
          · rename_i h4
            cases r with
            | nil => exact absurd rfl h4
            | cons a r' =>
              obtain ⟨y, hy, hy2⟩ := Option.map_eq_some_iff.1 h
              have ih := strF_written f _ y hy
              rw [List.drop_succ_cons, List.drop_zero] at ih
              subst h3
              rw [← hy2]
              show (92 :: a :: r').take (2 + y.2) = escOf (escB a) ++ escT y.1 ++ [34]
              rw [escB_back h4, List.append_assoc, ← ih, Nat.add_comm]
              rfl
        · rename_i h3
          obtain ⟨y, hy, hy2⟩ := Option.map_eq_some_iff.1 h
          have ih := strF_written f _ y hy
          have e : escOf c = [c] := by
            unfold escOf
            rw [if_neg h3, if_neg h2, if_neg h1]
          rw [← hy2]
          show (c :: r).take (1 + y.2) = escOf c ++ escT y.1 ++ [34]
          rw [e, List.append_assoc, ← ih, Nat.add_comm]
          rfl

theorem nestF_ends (p q : Bs) : ∀ (f : Nat) (l : Bs) (d : Int) (m : Nat), 1 ≤ d → nestF p q f l d = some m → (l.drop (m - q.length)).take q.length = q
  | 0, _, _, _, _, h => by simp [nestF] at h
  | f + 1, l, d, m, hd, h => by
    unfold nestF at h
    by_cases hl : l = []
    · rw [if_pos hl] at h; cases h
    · rw [if_neg hl] at h
      have step : ∀ (k : Nat) (e : Int), 1 ≤ e → (nestF p q f (l.drop k) e).map (k + ·) = some m → (l.drop (m - q.length)).take q.length = q := fun k e he hx => by
        obtain ⟨y, hy, hy2⟩ := Option.map_eq_some_iff.1 hx
        have ih := nestF_ends p q f _ e y he hy
        have hb := (nest_bounds p q f _ e y he hy).1
        rw [List.drop_drop] at ih
        rw [← hy2, show k + y - q.length = k + (y - q.length) by omega]
        exact ih
      by_cases h1 : Lib.hasPrefix l p = true
      · rw [if_pos h1, if_neg (by omega)] at h
        exact step _ _ (by omega) h
      · rw [if_neg h1] at h
        by_cases h3 : Lib.hasPrefix l q = true
        · rw [if_pos h3] at h
          by_cases h2 : d - 1 = 0
          · rw [if_pos h2] at h
            cases h
            rw [Nat.sub_self, List.drop_zero]
            exact (List.prefix_iff_eq_take.1 (List.isPrefixOf_iff_prefix.1 h3)).symm
          · rw [if_neg h2] at h
            exact step _ _ (by omega) h
        · rw [if_neg h3, if_neg (by omega)] at h
          exact step _ _ hd h
theorem quote_written {l : Bs} {n : Nat} (hp : Lib.hasPrefix l openL = true) (h : nestL openL closeL l 0 = some n) : l.take n = openL ++ ((l.drop 7).take (n - 15)) ++ closeL := by
  have hb := nest_from openL closeL (by decide) (by decide) hp h
  have h15 : openL.length + closeL.length = 15 := rfl
  have h7 : l.take 7 = openL := (List.prefix_iff_eq_take.1 (List.isPrefixOf_iff_prefix.1 hp)).symm
  have hl : l ≠ [] := fun e => by subst e; cases hp
  rw [nestL_step openL closeL (by decide) (by decide) hl, if_pos hp, if_neg (by decide)] at h
  obtain ⟨y, hy, hy2⟩ := Option.map_eq_some_iff.1 h
  have he := nestF_ends openL closeL _ _ _ y (by decide) hy
  have hyb := (nest_bounds openL closeL _ _ _ y (by decide) hy).1
  have h8 : closeL.length = 8 := rfl
  have ho : openL.length = 7 := rfl
  have hn : n = 7 + y := by rw [← hy2, ho]
  rw [h8] at he hyb
  rw [ho, List.drop_drop] at he
  have e1 : l.take n = l.take 7 ++ (l.drop 7).take (n - 7) := by rw [hn, List.take_add, Nat.add_sub_cancel_left]
  have e2 : (l.drop 7).take (n - 7) = (l.drop 7).take (n - 15) ++ ((l.drop 7).drop (n - 15)).take 8 := by rw [show n - 7 = (n - 15) + 8 by omega, List.take_add]
  rw [e1, e2, h7, List.drop_drop, show 7 + (n - 15) = 7 + (y - 8) by omega, he, List.append_assoc]

/-- How a token is written. -/
def writtenT (kind : Int) (t : Bs) : Bs := if kind = 8 then [34] ++ escT t ++ [34] else if kind = 9 then openL ++ t ++ closeL else t
end Go.Proofs.YtdkagjbedinhjaaGreat
