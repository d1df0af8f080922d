/-
  The next token of a text: what it is, on the text's bytes alone.
-/
import Derived.Test.YtdkagjbedinhjaaGreatV8
namespace Go.Proofs.YtdkagjbedinhjaaGreat
open Go.RowKit

/-- The answers of the last two candidates. -/
def quoteO (T : ByteArray) (k : Nat) : Option Cd := if Lib.hasPrefix (from' T k) openL then (match nestL openL closeL (from' T k) 0 with
  | some n => some (9, T.extract (k + 7) (k + n - 8), k + n)
  | none => none) else some (0, ⟨#[]⟩, k)
def strO (T : ByteArray) (k : Nat) : Option Cd := if (from' T k).head? = some 34 then (match strL (from' T (k + 1)) with
  | some r => some (8, ⟨r.1.toArray⟩, k + 1 + r.2)
  | none => none) else some (0, ⟨#[]⟩, k)
def cd (T : ByteArray) (k : Nat) (kind : Int) (n : Nat) : Cd := ((candTok T k kind n).1, (candTok T k kind n).2, k + n)

/-- The next token: the longest candidate, of equally long ones the first. -/
def nextO (K : ByteArray → Bool) (T : ByteArray) (k : Nat) : Option Cd :=
  bestO (candsO (cd T k 10 (kwLen K T k)) (cd T k (nameKind (from' T k)) (longLen (from' T k))) (cd T k (varKind (from' T k)) (varLen (from' T k))) (cd T k 6 (runLen digB (from' T k))) (cd T k 7 (signLen (from' T k))) (quoteO T k) (strO T k)) k 7

theorem next_any (b mb : Nat) (K : ByteArray → Bool) (T : ByteArray) (k : Nat) (w : World) (hS : ScK b mb K T w) (hk : k < T.size) (hT : T.size ≤ 100000000) :
    Calls Tryz.prog 32 #[.pointer (some ⟨b, 0, none⟩), .int .i64 (k : Int)] w (NextPost w k (nextO K T k)) := by
  have hk' : k ≤ T.size := Nat.le_of_lt hk
  refine next_walk b k w (cd T k 10 (kwLen K T k)) (cd T k (nameKind (from' T k)) (longLen (from' T k))) (cd T k (varKind (from' T k)) (varLen (from' T k))) (cd T k 6 (runLen digB (from' T k))) (cd T k 7 (signLen (from' T k))) (quoteO T k) (strO T k)
    (fun V hV => keyword_any b mb K T k V (hS.below hV) hk' hT)
    (fun V hV => name_any b T k V (hS.below hV).text hk' hT)
    (fun V hV => variable_any b T k V (hS.below hV).text hk' hT)
    (fun V hV => number_any b T k V (hS.below hV).text hk' hT)
    (fun V hV => symbol_any b T k V (hS.below hV).text hk' hT)
    (fun V hV => ?_) (fun V hV => ?_) _ rfl
  · unfold quoteO
    cases hp : Lib.hasPrefix (from' T k) openL with
    | false =>
      rw [if_neg (by decide)]
      exact quotation_none b T k V (hS.below hV).text hk' hT hp
    | true =>
      rw [if_pos rfl]
      cases hn : nestL openL closeL (from' T k) 0 with
      | none => exact quotation_bad b T k V (hS.below hV).text hk' hT hp hn
      | some n => exact quotation_some b T k n V (hS.below hV).text hk' hT hp hn
  · unfold strO
    rw [from_cons hk]
    by_cases hq : T[k] = 34
    · rw [if_pos (by rw [List.head?_cons, hq])]
      have h := str_any b T k V (hS.below hV).text hk hT hq
      cases hr : strL (from' T (k + 1)) with
      | none =>
        rw [hr] at h
        exact h.mono fun _ _ h => h
      | some r =>
        rw [hr] at h
        exact h.mono fun _ _ h => h
    · rw [if_neg (by rw [List.head?_cons]; intro e; exact hq (Option.some.inj e))]
      exact str_none b T k V (hS.below hV).text hk hT hq

/-! ### The bounds of what next answers. -/
theorem pick_le {a b : Option Cd} {c : Cd} {k m : Nat} (ha : ∀ x, a = some x → k ≤ x.2.2 ∧ x.2.2 ≤ m) (hb : ∀ x, b = some x → k ≤ x.2.2 ∧ x.2.2 ≤ m) (h : pickO a b = some c) : k ≤ c.2.2 ∧ c.2.2 ≤ m := by
  cases a with
  | none => cases h
  | some x =>
    cases b with
    | none => cases h
    | some y =>
      rw [pickO_some] at h
      have hc := Option.some.inj h
      by_cases hlt : x.2.2 < y.2.2
      · rw [if_pos hlt] at hc
        subst hc
        exact hb _ rfl
      · rw [if_neg hlt] at hc
        subst hc
        exact ha _ rfl
theorem best_le (C : Nat → Option Cd) {k m : Nat} (hk : k ≤ m) (hC : ∀ j x, C j = some x → k ≤ x.2.2 ∧ x.2.2 ≤ m) : ∀ (j : Nat) (c : Cd), bestO C k j = some c → k ≤ c.2.2 ∧ c.2.2 ≤ m
  | 0, c, h => by cases h; exact ⟨Nat.le_refl _, hk⟩
  | j + 1, c, h => pick_le (fun x hx => best_le C hk hC j x hx) (fun x hx => hC j x hx) h

theorem strF_le : ∀ (f : Nat) (l : Bs) (r : Bs × Nat), strF f l = some r → 1 ≤ r.2 ∧ r.2 ≤ l.length
  | 0, _, _, h => by cases h
  | _ + 1, [], _, h => by cases h
  | f + 1, c :: r, x, h => by
    simp only [strF] at h
    split at h
    · cases h
    · split at h
      · cases h; simp
      · split at h
        · split at h
          · cases h
          · rename_i hne
            obtain ⟨y, hy, rfl⟩ := Option.map_eq_some_iff.1 h
            have := strF_le f _ y hy
            rw [List.length_drop] at this
            simp only [List.length_cons]
            omega
        · obtain ⟨y, hy, rfl⟩ := Option.map_eq_some_iff.1 h
          have := strF_le f _ y hy
          simp only [List.length_cons]
          omega
theorem index_le (kind : Int) (l : Bs) : indexLen kind l ≤ l.length := by
  unfold indexLen
  split
  · rename_i h
    have h1 := pre_len h.2.1
    have h2 := runLen_le digB (l.drop 1)
    rw [List.length_drop] at h2
    simp at h1
    omega
  · exact Nat.zero_le _
theorem varLen_le (l : Bs) : varLen l ≤ l.length := by
  unfold varLen
  split
  · exact Nat.zero_le _
  · rename_i kind m hm
    split
    · rename_i hi
      have h1 := idLen_le (l.drop m)
      have h2 := index_le kind (l.drop (m + idLen (l.drop m)))
      rw [List.length_drop] at h1 h2
      omega
    · exact Nat.zero_le _
theorem kwLen_le (K : ByteArray → Bool) (T : ByteArray) (k : Nat) : kwLen K T k ≤ (from' T k).length := by
  unfold kwLen
  split
  · exact idLen_le _
  · split
    · exact signLen_le _
    · exact Nat.zero_le _
theorem nextO_le {K : ByteArray → Bool} {T : ByteArray} {k : Nat} {c : Cd} (hk : k < T.size) (h : nextO K T k = some c) : k ≤ c.2.2 ∧ c.2.2 ≤ T.size := by
  refine best_le _ (Nat.le_of_lt hk) (fun j x hx => ?_) 7 c h
  have hl := from_len T k
  match j, hx with
  | 0, hx => cases hx; have := kwLen_le K T k; simp only [cd]; omega
  | 1, hx => cases hx; have := longLen_le (from' T k); simp only [cd]; omega
  | 2, hx => cases hx; have := varLen_le (from' T k); simp only [cd]; omega
  | 3, hx => cases hx; have := runLen_le digB (from' T k); simp only [cd]; omega
  | 4, hx => cases hx; have := signLen_le (from' T k); simp only [cd]; omega
  | 5, hx =>
    simp only [candsO, quoteO] at hx
    split at hx
    · rename_i hp
      split at hx
      · rename_i n hn
        cases hx
        have := nest_from openL closeL (by decide) (by decide) hp hn
        simp only
        omega
      · cases hx
    · cases hx; simp only; omega
  | j + 6, hx =>
    simp only [candsO, strO] at hx
    split at hx
    · split at hx
      · rename_i r hr
        cases hx
        have := strF_le _ _ _ hr
        rw [from_len] at this
        simp only
        omega
      · cases hx
    · cases hx; simp only; omega

theorem betF_le : ∀ (f : Nat) (l : Bs) (n : Nat), betF f l = .ok n → n ≤ l.length
  | 0, _, n, h => by cases h; exact Nat.zero_le _
  | _ + 1, [], n, h => by cases h; exact Nat.zero_le _
  | f + 1, c :: r, n, h => by
    simp only [betF] at h
    split at h
    · cases hb : betF f r with
      | error m => rw [hb] at h; cases h
      | ok m =>
        rw [hb] at h
        cases h
        have := betF_le f r m hb
        simp only [List.length_cons]
        omega
    · split at h
      · rename_i hp
        split at h
        · cases h
        · rename_i m hm
          have hbd := com_bounds hp hm
          cases hb : betF f ((c :: r).drop m) with
          | error x => rw [hb] at h; cases h
          | ok x =>
            rw [hb] at h
            cases h
            have := betF_le f _ x hb
            rw [List.length_drop] at this
            omega
      · cases h; exact Nat.zero_le _
theorem betAt_le {T : ByteArray} {k n : Nat} (hk : k ≤ T.size) (h : betAt T k = .ok n) : k ≤ n ∧ n ≤ T.size := by
  unfold betAt betL at h
  cases hb : betF (from' T k).length (from' T k) with
  | error x => rw [hb] at h; cases h
  | ok x =>
    rw [hb] at h
    cases h
    have := betF_le _ _ _ hb
    rw [from_len] at this
    omega
end Go.Proofs.YtdkagjbedinhjaaGreat
