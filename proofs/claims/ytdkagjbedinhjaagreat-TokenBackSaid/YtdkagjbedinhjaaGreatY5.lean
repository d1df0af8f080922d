/-
  A token's piece is the token as it is written.
-/
import Derived.Test.YtdkagjbedinhjaaGreatY4
namespace Go.Proofs.YtdkagjbedinhjaaGreat
open Go.RowKit

theorem best_mem (C : Nat → Option Cd) (k : Nat) : ∀ (j : Nat) (c : Cd), bestO C k j = some c → c = (0, ⟨#[]⟩, k) ∨ ∃ i, i < j ∧ C i = some c
  | 0, c, h => .inl (Option.some.inj h).symm
  | j + 1, c, h => by
    obtain ⟨⟨x, hx⟩, ⟨y, hy⟩⟩ := pickO_inv h
    have h2 : pickO (bestO C k j) (C j) = some c := h
    rw [hx, hy, pickO_some] at h2
    have hc := Option.some.inj h2
    by_cases hlt : x.2.2 < y.2.2
    · rw [if_pos hlt] at hc
      exact .inr ⟨j, Nat.lt_succ_self j, by rw [hy, hc]⟩
    · rw [if_neg hlt] at hc
      rcases best_mem C k j x hx with h3 | ⟨i, hi, h3⟩
      · exact .inl (by rw [← hc, h3])
      · exact .inr ⟨i, Nat.lt_succ_of_lt hi, by rw [h3, hc]⟩

theorem ext_list (T : ByteArray) (a b : Nat) : (T.extract a b).data.toList = (from' T a).take (b - a) := by
  rw [Lib.extract_eq]
  simp [from']

theorem cd_written {T : ByteArray} {k g n : Nat} {kind kd : Int} {t : ByteArray} (h8 : kind ≠ 8) (h9 : kind ≠ 9) (hn : 1 ≤ n) (h : cd T k kind g = (kd, t, k + n)) : (T.extract k (k + n)).data.toList = writtenT kd t.data.toList := by
  unfold cd candTok at h
  have hg : k + g = k + n := (Prod.mk.inj (Prod.mk.inj h).2).2
  obtain rfl : g = n := by omega
  rw [if_pos (by omega)] at h
  cases h
  unfold writtenT
  rw [if_neg h8, if_neg h9]

theorem kinds_var (l : Bs) : varKind l ≠ 8 ∧ varKind l ≠ 9 := by
  unfold varKind markOf
  split
  · exact ⟨by decide, by decide⟩
  · rename_i kind m hm
    split at hm
    · cases hm; exact ⟨by decide, by decide⟩
    · split at hm
      · cases hm; exact ⟨by decide, by decide⟩
      · split at hm
        · cases hm; exact ⟨by decide, by decide⟩
        · cases hm
theorem kinds_name (l : Bs) : nameKind l ≠ 8 ∧ nameKind l ≠ 9 := by
  unfold nameKind
  split <;> exact ⟨by decide, by decide⟩

theorem stands_written {K : ByteArray → Bool} {T : ByteArray} {x : Tk} {n : Nat} (h : Stands K T x n) : (T.extract x.2.2 (x.2.2 + n)).data.toList = writtenT x.1 x.2.1.data.toList := by
  obtain ⟨kd, t, k⟩ := x
  have hpos := h.pos
  have hnx := h.next
  simp only at hnx ⊢
  rcases best_mem _ k 7 _ hnx with h0 | ⟨i, hi, h0⟩
  · have : k + n = k := (Prod.mk.inj (Prod.mk.inj h0).2).2
    omega
  · match i, h0 with
    | 0, h0 => exact cd_written (by decide) (by decide) hpos (Option.some.inj h0)
    | 1, h0 => exact cd_written (kinds_name _).1 (kinds_name _).2 hpos (Option.some.inj h0)
    | 2, h0 => exact cd_written (kinds_var _).1 (kinds_var _).2 hpos (Option.some.inj h0)
    | 3, h0 => exact cd_written (by decide) (by decide) hpos (Option.some.inj h0)
    | 4, h0 => exact cd_written (by decide) (by decide) hpos (Option.some.inj h0)
    | 5, h0 =>
      simp only [candsO, quoteO] at h0
      split at h0
      · rename_i hp
        split at h0
        · rename_i m hm
          have hb := nest_from openL closeL (by decide) (by decide) hp hm
          have h15 : openL.length + closeL.length = 15 := rfl
          have hw := quote_written hp hm
          have hmn : k + m = k + n := (Prod.mk.inj (Prod.mk.inj (Option.some.inj h0)).2).2
          obtain rfl : m = n := by omega
          have ht : T.extract (k + 7) (k + m - 8) = t := (Prod.mk.inj (Prod.mk.inj (Option.some.inj h0)).2).1
          have hk : (9 : Int) = kd := (Prod.mk.inj (Option.some.inj h0)).1
          subst ht
          subst hk
          unfold writtenT
          rw [if_neg (by decide), if_pos rfl, ext_list, ext_list, show k + m - k = m by omega, show k + m - 8 - (k + 7) = m - 15 by omega, hw, from_add]
        · cases h0
      · have : k = k + n := (Prod.mk.inj (Prod.mk.inj (Option.some.inj h0)).2).2
        omega
    | j + 6, h0 =>
      simp only [candsO, strO] at h0
      split at h0
      · rename_i hq
        split at h0
        · rename_i r hr
          have hw := strF_written _ _ _ hr
          have hmn : k + 1 + r.2 = k + n := (Prod.mk.inj (Prod.mk.inj (Option.some.inj h0)).2).2
          have ht : (⟨r.1.toArray⟩ : ByteArray) = t := (Prod.mk.inj (Prod.mk.inj (Option.some.inj h0)).2).1
          have hk : (8 : Int) = kd := (Prod.mk.inj (Option.some.inj h0)).1
          have hlt : k < T.size := h.lt
          subst ht
          subst hk
          obtain rfl : n = 1 + r.2 := by omega
          unfold writtenT
          rw [if_pos rfl, ext_list, show k + (1 + r.2) - k = r.2 + 1 by omega]
          rw [from_cons hlt] at hq ⊢
          have h34 : T[k] = 34 := Option.some.inj hq
          rw [List.take_succ_cons, h34, hw]
          rfl
        · cases h0
      · have : k = k + n := (Prod.mk.inj (Prod.mk.inj (Option.some.inj h0)).2).2
        omega
end Go.Proofs.YtdkagjbedinhjaaGreat
