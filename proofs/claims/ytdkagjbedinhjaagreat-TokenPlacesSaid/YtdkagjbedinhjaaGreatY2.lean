/-
  The piece of a text that a token is: alone, it is read as the same token (TokenPlaces, TokenBack).
-/
import Derived.Test.YtdkagjbedinhjaaGreatY1
namespace Go.Proofs.YtdkagjbedinhjaaGreat
open Go.RowKit

theorem strF_take : ∀ (f g : Nat) (l : Bs) (r : Bs × Nat) (n : Nat), f ≤ g → strF f l = some r → r.2 ≤ n → strF g (l.take n) = some r
  | 0, _, _, _, _, _, h, _ => by cases h
  | f + 1, 0, _, _, _, hg, _, _ => by omega
  | _ + 1, _ + 1, [], _, _, _, h, _ => by cases h
  | f + 1, g + 1, c :: r, x, n, hg, h, hn => by
    have hx := (strF_le _ _ _ h).1
    obtain ⟨k, rfl⟩ : ∃ k, n = k + 1 := ⟨n - 1, by omega⟩
    rw [List.take_succ_cons]
    simp only [strF] at h ⊢
    split at h
    · cases h
    · rename_i h1
      rw [if_neg h1]
      split at h
      · rename_i h2
        rw [if_pos h2]
        exact h
      · rename_i h2
        rw [if_neg h2]
        split at h
        · rename_i h3
          rw [if_pos h3]
          split at h
          · cases h
          · rename_i h4
            cases r with
            | nil => exact absurd rfl h4
            | cons a r' =>
              obtain ⟨y, hy, hy2⟩ := Option.map_eq_some_iff.1 h
              have hxy : x.2 = 2 + y.2 := by rw [← hy2]
              obtain ⟨j, rfl⟩ : ∃ j, k = j + 1 := ⟨k - 1, by omega⟩
              rw [List.take_succ_cons]
              have e : escL (a :: r'.take j) = escL (a :: r') := rfl
              rw [e, if_neg h4]
              have := strF_take f g _ y j (by omega) hy (by omega)
              show Option.map _ (strF g (r'.take j)) = _
              rw [show strF g (r'.take j) = some y from this]
              exact congrArg some hy2
        · rename_i h3
          rw [if_neg h3]
          obtain ⟨y, hy, hy2⟩ := Option.map_eq_some_iff.1 h
          have hxy : x.2 = 1 + y.2 := by rw [← hy2]
          rw [strF_take f g _ y k (by omega) hy (by omega)]
          exact congrArg some hy2

/-- P is a piece of T. -/
structure Piece (T P : ByteArray) (k n : Nat) : Prop where
  eq : P = T.extract k (k + n)
  le : k + n ≤ T.size
theorem Piece.from' {T P : ByteArray} {k n : Nat} (h : Piece T P k n) : from' P 0 = (from' T k).take n := by
  unfold Go.Proofs.YtdkagjbedinhjaaGreat.from'
  rw [List.drop_zero, h.eq, Lib.extract_eq]
  simp
theorem Piece.fromAt {T P : ByteArray} {k n : Nat} (h : Piece T P k n) (j : Nat) : Go.Proofs.YtdkagjbedinhjaaGreat.from' P j = (Go.Proofs.YtdkagjbedinhjaaGreat.from' T (k + j)).take (n - j) := by
  have e := h.from'
  unfold Go.Proofs.YtdkagjbedinhjaaGreat.from' at e ⊢
  rw [List.drop_zero] at e
  rw [e, List.drop_take, List.drop_drop]
theorem Piece.size {T P : ByteArray} {k n : Nat} (h : Piece T P k n) : P.size = n := by
  have e := from_len P 0
  rw [h.from', List.length_take, from_len, Nat.sub_zero] at e
  have := h.le
  omega
theorem Piece.ext {T P : ByteArray} {k n : Nat} (h : Piece T P k n) {a b : Nat} (hb : b ≤ n) : P.extract a b = T.extract (k + a) (k + b) := by
  refine ext_of ?_
  have e := h.fromAt a
  unfold Go.Proofs.YtdkagjbedinhjaaGreat.from' at e
  rw [e, List.take_take, show k + b - (k + a) = b - a by omega, Nat.min_eq_left (by omega)]

theorem cd_piece {T P : ByteArray} {k n : Nat} (h : Piece T P k n) {g : Nat} (kind kind' : Int) (hg : g ≤ n) (hk : 0 < g → kind' = kind) : cd T k kind g = shC k (cd P 0 kind' g) := by
  unfold cd candTok shC
  by_cases h0 : 0 < g
  · rw [if_pos h0, if_pos h0, hk h0, Nat.zero_add, h.ext hg]
    rfl
  · rw [if_neg h0, if_neg h0, Nat.zero_add]
theorem kw_piece {T P : ByteArray} {k n : Nat} (h : Piece T P k n) (K : ByteArray → Bool) (h0 : 1 ≤ n) (h1 : idLen (from' T k) ≤ n) (h2 : signLen (from' T k) ≤ n) : kwLen K P 0 = kwLen K T k := by
  unfold kwLen
  rw [h.from', id_take, Nat.min_eq_left h1, sign_take h0 h2, Nat.zero_add, Nat.zero_add, h.ext h1, h.ext h2]
  rfl
theorem quote_piece {T P : ByteArray} {k n : Nat} (h : Piece T P k n) {c : Cd} (hc : quoteO T k = some c) (hn : c.2.2 ≤ k + n) : quoteO T k = (quoteO P 0).map (shC k) := by
  unfold quoteO at hc ⊢
  rw [h.from', pre_take]
  by_cases hp : Lib.hasPrefix (from' T k) openL = true
  · rw [if_pos hp] at hc ⊢
    cases hm : nestL openL closeL (from' T k) 0 with
    | none => rw [hm] at hc; cases hc
    | some m =>
      rw [hm] at hc
      have hb := nest_from openL closeL (by decide) (by decide) hp hm
      have h15 : openL.length + closeL.length = 15 := rfl
      have h7 : openL.length = 7 := rfl
      have hcm : k + m ≤ k + n := by cases hc; exact hn
      have hmn : m ≤ n := by omega
      have ht : nestL openL closeL ((from' T k).take n) 0 = some m := by
        have := nestF_take openL closeL (by decide) (by decide) _ (from' T k).length _ _ _ n (Nat.le_refl _) hm hmn
        unfold nestL
        rw [nestF_enough openL closeL (by decide) (by decide) _ (from' T k).length _ _ (Nat.le_refl _) (by rw [List.length_take]; omega)]
        exact this
      rw [hp, decide_eq_true (show openL.length ≤ n by omega), Bool.true_and, if_pos rfl, ht]
      show some _ = some (shC _ _)
      unfold shC
      simp only
      rw [Nat.zero_add, Nat.zero_add, h.ext (by omega), show k + (m - 8) = k + m - 8 by omega]
  · have hpf : Lib.hasPrefix (from' T k) openL = false := by simpa using hp
    rw [if_neg hp, hpf, Bool.false_and, if_neg (by decide)]
    rfl
theorem str_piece {T P : ByteArray} {k n : Nat} (h : Piece T P k n) (h1 : 1 ≤ n) {c : Cd} (hc : strO T k = some c) (hn : c.2.2 ≤ k + n) : strO T k = (strO P 0).map (shC k) := by
  unfold strO at hc ⊢
  have e : (from' P 0).head? = (from' T k).head? := by
    rw [h.from']
    cases from' T k with
    | nil => rw [List.take_nil]
    | cons a r =>
      obtain ⟨j, rfl⟩ : ∃ j, n = j + 1 := ⟨n - 1, by omega⟩
      rfl
  rw [e, h.fromAt]
  by_cases hp : (from' T k).head? = some 34
  · rw [if_pos hp] at hc ⊢
    rw [if_pos hp]
    cases hr : strL (from' T (k + 1)) with
    | none => rw [hr] at hc; cases hc
    | some r =>
      rw [hr] at hc
      have hb := strF_le _ _ _ hr
      have hcm : k + 1 + r.2 ≤ k + n := by cases hc; exact hn
      have ht : strL ((from' T (k + (0 + 1))).take (n - (0 + 1))) = some r := by
        rw [Nat.zero_add]
        have := strF_take _ (from' T (k + 1)).length _ _ (n - 1) (Nat.le_refl _) hr (by omega)
        unfold strL
        rw [strF_enough _ (from' T (k + 1)).length _ (Nat.le_refl _) (by rw [List.length_take]; omega)]
        exact this
      rw [ht]
      show some _ = some (shC _ _)
      unfold shC
      simp only
      rw [show k + (0 + 1 + r.2) = k + 1 + r.2 by omega]
  · rw [if_neg hp, if_neg hp]
    rfl

theorem pickO_max {a b : Option Cd} {c : Cd} (h : pickO a b = some c) : (∀ x, a = some x → x.2.2 ≤ c.2.2) ∧ ∀ x, b = some x → x.2.2 ≤ c.2.2 := by
  obtain ⟨⟨x, rfl⟩, ⟨y, rfl⟩⟩ := pickO_inv h
  rw [pickO_some] at h
  have hc := Option.some.inj h
  subst hc
  refine ⟨fun z hz => ?_, fun z hz => ?_⟩
  · cases hz
    split <;> omega
  · cases hz
    split <;> omega
theorem best_all (C : Nat → Option Cd) (k : Nat) : ∀ (j : Nat) (c : Cd), bestO C k j = some c → ∀ i, i < j → ∃ x, C i = some x ∧ x.2.2 ≤ c.2.2
  | 0, _, _, i, hi => by omega
  | j + 1, c, h, i, hi => by
    obtain ⟨⟨x, hx⟩, ⟨y, hy⟩⟩ := pickO_inv h
    obtain ⟨m1, m2⟩ := pickO_max h
    by_cases hij : i = j
    · subst hij
      exact ⟨y, hy, m2 y hy⟩
    · obtain ⟨z, hz, hz2⟩ := best_all C k j x hx i (by omega)
      exact ⟨z, hz, Nat.le_trans hz2 (m1 x hx)⟩

/-- The token at a place is that of its piece. -/
theorem next_piece {T P : ByteArray} {k n : Nat} (h : Piece T P k n) (h1 : 1 ≤ n) (K : ByteArray → Bool) {c : Cd} (hc : nextO K T k = some c) (hn : c.2.2 = k + n) : nextO K P 0 = some (c.1, c.2.1, n) := by
  have hall := best_all _ k 7 c hc
  obtain ⟨_, e0, l0⟩ := hall 0 (by decide)
  obtain ⟨_, e1, l1⟩ := hall 1 (by decide)
  obtain ⟨_, e2, l2⟩ := hall 2 (by decide)
  obtain ⟨_, e3, l3⟩ := hall 3 (by decide)
  obtain ⟨_, e4, l4⟩ := hall 4 (by decide)
  obtain ⟨y5, e5, l5⟩ := hall 5 (by decide)
  obtain ⟨y6, e6, l6⟩ := hall 6 (by decide)
  cases e0
  cases e1
  cases e2
  cases e3
  cases e4
  simp only [cd] at l0 l1 l2 l3 l4
  have q5 := quote_piece h (show quoteO T k = some y5 from e5) (by omega)
  have q6 := str_piece h h1 (show strO T k = some y6 from e6) (by omega)
  have b1 : longLen (from' T k) ≤ n := by omega
  have b2 : varLen (from' T k) ≤ n := by omega
  have b3 : runLen digB (from' T k) ≤ n := by omega
  have b4 : signLen (from' T k) ≤ n := by omega
  have b0 : idLen (from' T k) ≤ n := Nat.le_trans (id_le_long _) b1
  have hk := kw_piece h K h1 b0 b4
  obtain ⟨v1, v2⟩ := var_take h1 b2
  have key : nextO K T (k + 0) = (nextO K P 0).map (shC k) := by
    unfold nextO
    refine best_sh k 0 _ _ (fun j => ?_) 7
    rw [Nat.add_zero, hk, h.from', long_take b1, v1, run_take, Nat.min_eq_left b3, sign_take h1 b4]
    match j with
    | 0 => exact congrArg some (cd_piece h _ _ (by omega) fun _ => rfl)
    | 1 => exact congrArg some (cd_piece h _ _ b1 fun _ => kind_take b1)
    | 2 => exact congrArg some (cd_piece h _ _ b2 v2)
    | 3 => exact congrArg some (cd_piece h _ _ b3 fun _ => rfl)
    | 4 => exact congrArg some (cd_piece h _ _ b4 fun _ => rfl)
    | 5 => exact q5
    | j + 6 => exact q6
  rw [Nat.add_zero, hc] at key
  cases hp : nextO K P 0 with
  | none => rw [hp] at key; cases key
  | some x =>
    rw [hp] at key
    have hx := Option.some.inj key
    subst hx
    unfold shC at hn
    simp only at hn
    obtain ⟨x0, x1, x2⟩ := x
    simp only at hn
    obtain rfl : x2 = n := by omega
    rfl
end Go.Proofs.YtdkagjbedinhjaaGreat
