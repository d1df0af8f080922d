/-
  A text, a line feed, and another text: the tokens of both.
-/
import Derived.Test.YtdkagjbedinhjaaGreatW5
namespace Go.Proofs.YtdkagjbedinhjaaGreat
open Go.RowKit

theorem ext_of {S A : ByteArray} {a b c d : Nat} (h : (S.data.toList.drop a).take (b - a) = (A.data.toList.drop c).take (d - c)) : S.extract a b = A.extract c d := by
  rw [Lib.extract_eq, Lib.extract_eq, h]

/-- S is A, a line feed, B. -/
structure Glue (S A B : ByteArray) : Prop where
  eq : S.data.toList = A.data.toList ++ 10 :: B.data.toList
theorem Glue.size {S A B : ByteArray} (h : Glue S A B) : S.size = A.size + 1 + B.size := by
  rw [Lib.size_eq, h.eq, List.length_append, List.length_cons, Lib.size_eq, Lib.size_eq]
  omega
theorem Glue.left {S A B : ByteArray} (h : Glue S A B) {k : Nat} (hk : k ≤ A.size) : from' S k = from' A k ++ 10 :: B.data.toList := by
  unfold from'
  rw [h.eq, drop_nl (by rw [← Lib.size_eq]; exact hk)]
theorem Glue.right {S A B : ByteArray} (h : Glue S A B) (k : Nat) : from' S (A.size + 1 + k) = from' B k := by
  unfold from'
  rw [h.eq, ← List.drop_drop]
  congr 1
  rw [show A.data.toList ++ 10 :: B.data.toList = (A.data.toList ++ [10]) ++ B.data.toList by simp]
  exact List.drop_left' (by rw [List.length_append, ← Lib.size_eq]; rfl)
theorem Glue.ext {S A B : ByteArray} (h : Glue S A B) {a b : Nat} (hb : b ≤ A.size) : S.extract a b = A.extract a b := by
  by_cases hab : a ≤ b
  · refine ext_of ?_
    have := h.left (k := a) (by omega)
    unfold from' at this
    rw [this]
    exact List.take_append_of_le_length (by rw [List.length_drop, ← Lib.size_eq]; omega)
  · refine ext_of ?_
    rw [show b - a = 0 by omega]
    rfl
theorem Glue.ext_right {S A B : ByteArray} (h : Glue S A B) (a b : Nat) : S.extract (A.size + 1 + a) (A.size + 1 + b) = B.extract a b := by
  refine ext_of ?_
  have := h.right a
  unfold from' at this
  rw [this, show A.size + 1 + b - (A.size + 1 + a) = b - a by omega]

/-! ### ahead of the line feed -/
theorem cd_left {S A B : ByteArray} (h : Glue S A B) {k n : Nat} (kind : Int) (hn : k + n ≤ A.size) : cd S k kind n = cd A k kind n := by
  unfold cd candTok
  rw [h.ext hn]
theorem kw_left {S A B : ByteArray} (h : Glue S A B) (K : ByteArray → Bool) {k : Nat} (hk : k ≤ A.size) : kwLen K S k = kwLen K A k := by
  have h1 := idLen_le (from' A k)
  have h2 := signLen_le (from' A k)
  rw [from_len] at h1 h2
  unfold kwLen
  rw [h.left hk, id_nl, sign_nl, h.ext (by omega), h.ext (by omega)]
theorem quote_left {S A B : ByteArray} (h : Glue S A B) {k : Nat} (hk : k ≤ A.size) {c : Cd} (hc : quoteO A k = some c) : quoteO S k = some c := by
  unfold quoteO at hc ⊢
  rw [h.left hk, pre_nl _ _ _ (by decide)]
  by_cases hp : Lib.hasPrefix (from' A k) openL = true
  · rw [if_pos hp] at hc ⊢
    cases hn : nestL openL closeL (from' A k) 0 with
    | none => rw [hn] at hc; cases hc
    | some n =>
      rw [hn] at hc
      have hb := nest_from openL closeL (by decide) (by decide) hp hn
      rw [from_len] at hb
      rw [nest_nl _ openL closeL (by decide) (by decide) hn]
      simp only at hc ⊢
      rw [h.ext (by omega)]
      exact hc
  · rw [if_neg hp] at hc ⊢
    exact hc
theorem str_left {S A B : ByteArray} (h : Glue S A B) {k : Nat} (hk : k < A.size) {c : Cd} (hc : strO A k = some c) : strO S k = some c := by
  unfold strO at hc ⊢
  have e : (from' S k).head? = (from' A k).head? := by
    rw [h.left (Nat.le_of_lt hk), from_cons hk]
    rfl
  rw [e, h.left (k := k + 1) hk]
  by_cases hp : (from' A k).head? = some 34
  · rw [if_pos hp] at hc ⊢
    cases hn : strL (from' A (k + 1)) with
    | none => rw [hn] at hc; cases hc
    | some r =>
      rw [hn] at hc
      rw [str_nl _ hn]
      exact hc
  · rw [if_neg hp] at hc ⊢
    exact hc
theorem pickO_inv {a b : Option Cd} {c : Cd} (h : pickO a b = some c) : (∃ x, a = some x) ∧ ∃ y, b = some y := by
  cases a with
  | none => cases h
  | some x =>
    cases b with
    | none => cases h
    | some y => exact ⟨⟨x, rfl⟩, ⟨y, rfl⟩⟩
theorem next_left {S A B : ByteArray} (h : Glue S A B) (K : ByteArray → Bool) {k : Nat} (hk : k < A.size) {c : Cd} (hc : nextO K A k = some c) : nextO K S k = some c := by
  have hk' := Nat.le_of_lt hk
  have hl := from_len A k
  have h1 := kwLen_le K A k
  have h2 := longLen_le (from' A k)
  have h3 := varLen_le (from' A k)
  have h4 := runLen_le digB (from' A k)
  have h5 := signLen_le (from' A k)
  obtain ⟨⟨x, hx⟩, ⟨y6, hy6⟩⟩ := pickO_inv hc
  obtain ⟨_, ⟨y5, hy5⟩⟩ := pickO_inv hx
  have q5 := quote_left h hk' (show quoteO A k = some y5 from hy5)
  have q6 := str_left h hk (show strO A k = some y6 from hy6)
  unfold nextO at hc ⊢
  rw [q5, q6, kw_left h K hk', cd_left h 10 (by omega), h.left hk', kind_nl, long_nl, vkind_nl, var_nl, run_nl digB dig10, sign_nl, cd_left h _ (by omega), cd_left h _ (by omega), cd_left h _ (by omega), cd_left h _ (by omega)]
  rw [show quoteO A k = some y5 from hy5, show strO A k = some y6 from hy6] at hc
  exact hc
theorem betAt_left {S A B : ByteArray} (h : Glue S A B) {k p : Nat} (hk : k ≤ A.size) (hp : betAt A k = .ok p) (hlt : p < A.size) : betAt S k = .ok p := by
  unfold betAt at hp ⊢
  obtain ⟨m, hm, rfl⟩ := shift_ok hp
  rw [h.left hk, bet_nl _ _ _ m (Nat.le_refl _) hm (by rw [from_len]; omega)]
  rfl
theorem betAt_glue {S A B : ByteArray} (h : Glue S A B) {k : Nat} (hk : k ≤ A.size) (hp : betAt A k = .ok A.size) : betAt S k = betAt S (A.size + 1) := by
  unfold betAt at hp ⊢
  obtain ⟨m, hm, hm2⟩ := shift_ok hp
  have hl := from_len A k
  obtain rfl : m = (from' A k).length := by omega
  have e := h.right 0
  rw [Nat.add_zero] at e
  rw [h.left hk, bet_end _ _ _ (Nat.le_refl _) hm, shift_shift, e]
  unfold from'
  rw [List.drop_zero]
  congr 1
  unfold from' at hl
  omega

/-! ### behind it -/
def shC (m : Nat) (c : Cd) : Cd := (c.1, c.2.1, m + c.2.2)
theorem cd_right {S A B : ByteArray} (h : Glue S A B) (k n : Nat) (kind : Int) : cd S (A.size + 1 + k) kind n = shC (A.size + 1) (cd B k kind n) := by
  unfold cd candTok shC
  rw [show A.size + 1 + k + n = A.size + 1 + (k + n) by omega, h.ext_right]
theorem kw_right {S A B : ByteArray} (h : Glue S A B) (K : ByteArray → Bool) (k : Nat) : kwLen K S (A.size + 1 + k) = kwLen K B k := by
  unfold kwLen
  rw [h.right, show A.size + 1 + k + idLen (from' B k) = A.size + 1 + (k + idLen (from' B k)) by omega, show A.size + 1 + k + signLen (from' B k) = A.size + 1 + (k + signLen (from' B k)) by omega, h.ext_right, h.ext_right]
theorem quote_right {S A B : ByteArray} (h : Glue S A B) (k : Nat) : quoteO S (A.size + 1 + k) = (quoteO B k).map (shC (A.size + 1)) := by
  unfold quoteO
  rw [h.right]
  by_cases hp : Lib.hasPrefix (from' B k) openL = true
  · rw [if_pos hp, if_pos hp]
    cases hn : nestL openL closeL (from' B k) 0 with
    | none => rfl
    | some n =>
      have hb := (nest_from openL closeL (by decide) (by decide) hp hn).1
      have h8 : openL.length + closeL.length = 15 := rfl
      show some _ = some (shC _ _)
      unfold shC
      simp only
      rw [show A.size + 1 + k + 7 = A.size + 1 + (k + 7) by omega, show A.size + 1 + k + n - 8 = A.size + 1 + (k + n - 8) by omega, h.ext_right, show A.size + 1 + k + n = A.size + 1 + (k + n) by omega]
  · rw [if_neg hp, if_neg hp]
    rfl
theorem str_right {S A B : ByteArray} (h : Glue S A B) (k : Nat) : strO S (A.size + 1 + k) = (strO B k).map (shC (A.size + 1)) := by
  unfold strO
  rw [h.right, show A.size + 1 + k + 1 = A.size + 1 + (k + 1) by omega, h.right]
  by_cases hp : (from' B k).head? = some 34
  · rw [if_pos hp, if_pos hp]
    cases hn : strL (from' B (k + 1)) with
    | none => rfl
    | some r =>
      show some _ = some (shC _ _)
      unfold shC
      simp only
      rw [show A.size + 1 + (k + 1) + r.2 = A.size + 1 + (k + 1 + r.2) by omega]
  · rw [if_neg hp, if_neg hp]
    rfl
theorem pick_sh (m : Nat) (a b : Option Cd) : pickO (a.map (shC m)) (b.map (shC m)) = (pickO a b).map (shC m) := by
  cases a with
  | none => rfl
  | some x =>
    cases b with
    | none => rfl
    | some y =>
      show some (if m + x.2.2 < m + y.2.2 then shC m y else shC m x) = some (shC m (if x.2.2 < y.2.2 then y else x))
      by_cases hlt : x.2.2 < y.2.2
      · rw [if_pos hlt, if_pos (by omega)]
      · rw [if_neg hlt, if_neg (by omega)]
theorem best_sh (m k : Nat) (C D : Nat → Option Cd) (h : ∀ j, D j = (C j).map (shC m)) : ∀ j, bestO D (m + k) j = (bestO C k j).map (shC m)
  | 0 => rfl
  | j + 1 => by
    show pickO (bestO D (m + k) j) (D j) = _
    rw [best_sh m k C D h j, h j, pick_sh]
    rfl
theorem next_right {S A B : ByteArray} (h : Glue S A B) (K : ByteArray → Bool) (k : Nat) : nextO K S (A.size + 1 + k) = (nextO K B k).map (shC (A.size + 1)) := by
  unfold nextO
  refine best_sh (A.size + 1) k _ _ (fun j => ?_) 7
  rw [kw_right h, h.right]
  match j with
  | 0 => exact congrArg some (cd_right h _ _ _)
  | 1 => exact congrArg some (cd_right h _ _ _)
  | 2 => exact congrArg some (cd_right h _ _ _)
  | 3 => exact congrArg some (cd_right h _ _ _)
  | 4 => exact congrArg some (cd_right h _ _ _)
  | 5 => exact quote_right h k
  | j + 6 => exact str_right h k
theorem betAt_right {S A B : ByteArray} (h : Glue S A B) (k : Nat) : betAt S (A.size + 1 + k) = (betAt B k).shift (A.size + 1) := by
  unfold betAt
  rw [h.right, shift_shift]

/-- Tokens and a fault, moved. -/
def shT (m : Nat) (x : Tk) : Tk := (x.1, x.2.1, m + x.2.2)
def shR (m : Nat) (r : SR) : SR := (r.1.map (shT m), r.2.map fun x => (m + x.1, x.2))
theorem scan_right {S A B : ByteArray} (h : Glue S A B) (K : ByteArray → Bool) : ∀ (f k : Nat), scanF K S f (A.size + 1 + k) = shR (A.size + 1) (scanF K B f k)
  | 0, _ => rfl
  | f + 1, k => by
    have hb := betAt_right h k
    have hs := h.size
    cases hp : betAt B k with
    | error n =>
      rw [hp] at hb
      rw [scanF_err hb, scanF_err hp]
      rfl
    | ok p =>
      rw [hp] at hb
      rw [scanF_ok hb, scanF_ok hp]
      by_cases h1 : B.size ≤ p
      · rw [headOf_end h1, headOf_end (by omega)]
        rfl
      · have hn := next_right h K p
        cases hc : nextO K B p with
        | none =>
          rw [hc] at hn
          rw [headOf_none (by omega) hc, headOf_none (by omega) hn]
          rfl
        | some c =>
          rw [hc] at hn
          by_cases h2 : c.2.2 = p
          · rw [headOf_byte (by omega) hc h2, headOf_byte (by omega) hn (by show A.size + 1 + c.2.2 = _; rw [h2])]
            rfl
          · rw [headOf_some (by omega) hc h2, headOf_some (by omega) hn (by show A.size + 1 + c.2.2 ≠ _; omega)]
            show SR.cons _ (scanF K S f (A.size + 1 + c.2.2)) = _
            rw [scan_right h K f c.2.2]
            rfl

theorem scanF_enough (K : ByteArray → Bool) (T : ByteArray) : ∀ (f g k : Nat), k ≤ T.size → T.size < f + k → T.size < g + k → scanF K T f k = scanF K T g k
  | 0, _, k, h, h1, _ => by omega
  | f + 1, 0, k, h, _, h2 => by omega
  | f + 1, g + 1, k, h, h1, h2 => by
    cases hp : betAt T k with
    | error n => rw [scanF_err hp, scanF_err hp]
    | ok p =>
      rw [scanF_ok hp, scanF_ok hp]
      have hb := betAt_le h hp
      by_cases h3 : T.size ≤ p
      · rw [headOf_end h3, headOf_end h3]
      · cases hc : nextO K T p with
        | none => rw [headOf_none (by omega) hc, headOf_none (by omega) hc]
        | some c =>
          have hn := nextO_le (by omega) hc
          by_cases h4 : c.2.2 = p
          · rw [headOf_byte (by omega) hc h4, headOf_byte (by omega) hc h4]
          · rw [headOf_some (by omega) hc h4, headOf_some (by omega) hc h4, scanF_enough K T f g c.2.2 hn.2 (by omega) (by omega)]

theorem cons_inv {x : Tk} {r : SR} {xs : List Tk} (h : SR.cons x r = (xs, none)) : ∃ ys, xs = x :: ys ∧ r = (ys, none) := by
  obtain ⟨ys, o⟩ := r
  unfold SR.cons at h
  obtain ⟨rfl, h2⟩ := Prod.mk.inj h
  exact ⟨ys, rfl, by rw [← h2]⟩

theorem scan_left {S A B : ByteArray} (h : Glue S A B) (K : ByteArray → Bool) : ∀ (f g k : Nat) (xs : List Tk), k ≤ A.size → A.size < f + k → S.size < g + k → scanF K A f k = (xs, none) → scanF K S g k = SR.pre xs (scanF K S (S.size + 1) (A.size + 1))
  | 0, _, k, _, hk, hf, _, _ => by omega
  | f + 1, 0, k, _, hk, _, hg, _ => by have := h.size; omega
  | f + 1, g + 1, k, xs, hk, hf, hg, hx => by
    have hs := h.size
    cases hp : betAt A k with
    | error n => rw [scanF_err hp] at hx; cases hx
    | ok p =>
      rw [scanF_ok hp] at hx
      have hb := betAt_le hk hp
      by_cases h3 : A.size ≤ p
      · rw [headOf_end h3] at hx
        obtain rfl : xs = [] := by cases hx; rfl
        obtain rfl : p = A.size := by omega
        have he := betAt_glue h hk hp
        have e1 : scanF K S (g + 1) k = scanF K S (g + 1) (A.size + 1) := by
          cases hq : betAt S (A.size + 1) with
          | error n => rw [scanF_err (he.trans hq), scanF_err hq]
          | ok q => rw [scanF_ok (he.trans hq), scanF_ok hq]
        rw [e1, scanF_enough K S (g + 1) (S.size + 1) (A.size + 1) (by omega) (by omega) (by omega)]
        rfl
      · have hS := betAt_left h hk hp (by omega)
        cases hc : nextO K A p with
        | none => rw [headOf_none (by omega) hc] at hx; cases hx
        | some c =>
          have hn := nextO_le (by omega) hc
          by_cases h4 : c.2.2 = p
          · rw [headOf_byte (by omega) hc h4] at hx; cases hx
          · rw [headOf_some (by omega) hc h4] at hx
            obtain ⟨ys, rfl, hy⟩ := cons_inv hx
            have hq := next_left h K (by omega) hc
            rw [scanF_ok hS, headOf_some (by omega) hq h4, scan_left h K f g c.2.2 ys hn.2 (by omega) (by omega) hy]
            rfl

/-- The tokens of both. -/
theorem scan_glue {S A B : ByteArray} (h : Glue S A B) (K : ByteArray → Bool) {xs : List Tk} (hx : scanR K A = (xs, none)) : scanR K S = SR.pre xs (shR (A.size + 1) (scanR K B)) := by
  have hs := h.size
  unfold scanR at hx ⊢
  rw [scan_left h K _ _ 0 xs (by omega) (by omega) (by omega) hx]
  have := scan_right h K (S.size + 1) 0
  rw [Nat.add_zero] at this
  rw [this, scanF_enough K B (S.size + 1) (B.size + 1) 0 (by omega) (by omega) (by omega)]
end Go.Proofs.YtdkagjbedinhjaaGreat
