/-
  The piece of a text that a token is: alone, it is read as the same token (TokenPlaces, TokenBack): the bytes.
-/
import Derived.Test.YtdkagjbedinhjaaGreatW6
section
namespace Go.Proofs.YtdkagjbedinhjaaGreat
open Go.RowKit

theorem pre_take (l q : Bs) (n : Nat) : Lib.hasPrefix (l.take n) q = (Lib.hasPrefix l q && decide (q.length ≤ n)) := by
  unfold Lib.hasPrefix
  rw [Bool.eq_iff_iff, Bool.and_eq_true, decide_eq_true_iff, List.isPrefixOf_iff_prefix, List.isPrefixOf_iff_prefix, List.prefix_take_iff]

theorem run_take (p : UInt8 → Bool) : ∀ (l : Bs) (n : Nat), runLen p (l.take n) = min (runLen p l) n
  | [], n => by simp [runLen]
  | c :: r, 0 => by simp [runLen]
  | c :: r, n + 1 => by
    have ih := run_take p r n
    unfold runLen at ih ⊢
    rw [List.take_succ_cons, List.takeWhile_cons, List.takeWhile_cons]
    cases p c with
    | true => simp only [if_true, List.length_cons, ih]; omega
    | false => simp
theorem id_take (l : Bs) (n : Nat) : idLen (l.take n) = min (idLen l) n := by
  cases l with
  | nil => simp [idLen]
  | cons c r =>
    cases n with
    | zero => simp [idLen]
    | succ n =>
      have h := run_take goesB (c :: r) (n + 1)
      rw [List.take_succ_cons] at h ⊢
      show (if begB c then runLen goesB (c :: r.take n) else 0) = min (if begB c then runLen goesB (c :: r) else 0) (n + 1)
      split
      · exact h
      · simp

theorem named_take {l : Bs} {n : Nat} (h2 : 2 ≤ n) (h : namedLen l ≤ n) : namedLen (l.take n) = namedLen l := by
  unfold namedLen at h ⊢
  rw [List.drop_take, id_take, List.drop_take, pre_take]
  by_cases hi : idLen (l.drop 2) < n - 2
  · rw [Nat.min_eq_left (Nat.le_of_lt hi)]
    have : decide (([62] : Bs).length ≤ n - (2 + idLen (l.drop 2))) = true := by simp; omega
    rw [this, Bool.and_true]
  · rw [Nat.min_eq_right (by omega)]
    have : decide (([62] : Bs).length ≤ n - (2 + (n - 2))) = false := by simp; omega
    rw [this, Bool.and_false, if_neg (fun h => by cases h.2)]
    by_cases hc : 0 < idLen (l.drop 2) ∧ Lib.hasPrefix (l.drop (2 + idLen (l.drop 2))) [62] = true
    · rw [if_pos hc] at h; omega
    · rw [if_neg hc]
theorem sign_take {l : Bs} {n : Nat} (h1 : 1 ≤ n) (h : signLen l ≤ n) : signLen (l.take n) = signLen l := by
  cases l with
  | nil => rw [List.take_nil]
  | cons c r =>
    obtain ⟨m, rfl⟩ : ∃ m, n = m + 1 := ⟨n - 1, by omega⟩
    have hp := pre_take (c :: r) [92, 60] (m + 1)
    have hr := run_take signB (c :: r) (m + 1)
    rw [List.take_succ_cons] at hp hr ⊢
    have e1 : signLen (c :: r) = (if pointB c then 1 else if Lib.hasPrefix (c :: r) [92, 60] then namedLen (c :: r) else runLen signB (c :: r)) := rfl
    have e2 : signLen (c :: r.take m) = (if pointB c then 1 else if Lib.hasPrefix (c :: r.take m) [92, 60] then namedLen (c :: r.take m) else runLen signB (c :: r.take m)) := rfl
    rw [e1] at h
    rw [e1, e2, hp]
    by_cases hc : pointB c = true
    · rw [if_pos hc, if_pos hc]
    · rw [if_neg hc] at h
      rw [if_neg hc, if_neg hc]
      by_cases hq : Lib.hasPrefix (c :: r) [92, 60] = true
      · rw [if_pos hq] at h
        rw [if_pos hq, hq, Bool.true_and]
        by_cases hm : 2 ≤ m + 1
        · have : decide (([92, 60] : Bs).length ≤ m + 1) = true := by simp; omega
          rw [if_pos this]
          have := named_take hm h
          rwa [List.take_succ_cons] at this
        · have : decide (([92, 60] : Bs).length ≤ m + 1) = false := by simp; omega
          rw [this, if_neg (by decide)]
          have h0 : runLen signB (c :: r) = 0 := by
            have : c = 92 := by
              have := List.isPrefixOf_iff_prefix.1 hq
              obtain ⟨t, ht⟩ := this
              cases ht
              rfl
            subst this
            show (List.takeWhile signB (92 :: r)).length = 0
            rw [List.takeWhile_cons, show signB 92 = false by decide]
            rfl
          rw [hr, h0]
          unfold namedLen at h ⊢
          split
          · rename_i hh; rw [if_pos hh] at h; omega
          · simp
      · rw [if_neg hq] at h
        have hqf : Lib.hasPrefix (c :: r) [92, 60] = false := by simpa using hq
        rw [if_neg hq, hqf, Bool.false_and, if_neg (by decide), hr]
        omega

theorem more_take : ∀ (N : Nat) (l : Bs) (n : Nat), l.length ≤ N → moreLen l ≤ n → moreLen (l.take n) = moreLen l
  | 0, l, n, h, _ => by
    have : l = [] := List.length_eq_zero_iff.1 (Nat.le_zero.1 h)
    subst this
    rw [List.take_nil]
  | N + 1, l, n, hN, h => by
    rw [moreLen_step] at h
    rw [moreLen_step, moreLen_step l, pre_take, List.drop_take, id_take, List.drop_take]
    by_cases hA : Lib.hasPrefix l [46] = true ∧ 0 < idLen (l.drop 1)
    · rw [if_pos hA] at h
      have hl := dot_lt hA.1
      have hmin : min (idLen (l.drop 1)) (n - 1) = idLen (l.drop 1) := by omega
      rw [hmin, if_pos hA, if_pos ⟨by rw [hA.1]; simp; omega, hA.2⟩, more_take N (l.drop (1 + idLen (l.drop 1))) _ (by rw [List.length_drop]; omega) (by omega)]
    · rw [if_neg hA, if_neg (fun hB => hA ⟨by have := hB.1; rw [Bool.and_eq_true] at this; exact this.1, by have := hB.2; omega⟩)]
theorem long_take {l : Bs} {n : Nat} (h : longLen l ≤ n) : longLen (l.take n) = longLen l := by
  unfold longLen at h ⊢
  rw [id_take]
  by_cases hi : 0 < idLen l
  · rw [if_pos hi] at h
    have hmin : min (idLen l) n = idLen l := by omega
    rw [hmin, if_pos hi, if_pos hi, List.drop_take, more_take _ _ _ (Nat.le_refl _) (by omega)]
  · rw [if_neg hi, if_neg (by omega)]
theorem id_le_long (l : Bs) : idLen l ≤ longLen l := by
  unfold longLen
  split
  · omega
  · omega
theorem kind_take {l : Bs} {n : Nat} (h : longLen l ≤ n) : nameKind (l.take n) = nameKind l := by
  unfold nameKind
  rw [long_take h, id_take, Nat.min_eq_left (Nat.le_trans (id_le_long l) h)]

theorem index_take {kind : Int} {l : Bs} {n : Nat} (h : indexLen kind l ≤ n) : indexLen kind (l.take n) = indexLen kind l := by
  unfold indexLen at h ⊢
  rw [pre_take, List.drop_take, run_take]
  by_cases hA : kind ≠ 3 ∧ Lib.hasPrefix l [46] = true ∧ 0 < runLen digB (l.drop 1)
  · rw [if_pos hA] at h
    have hmin : min (runLen digB (l.drop 1)) (n - 1) = runLen digB (l.drop 1) := by omega
    rw [hmin, if_pos hA, if_pos ⟨hA.1, by rw [hA.2.1]; simp; omega, hA.2.2⟩]
  · rw [if_neg hA, if_neg (fun hB => hA ⟨hB.1, by have := hB.2.1; rw [Bool.and_eq_true] at this; exact this.1, by have := hB.2.2; omega⟩)]

/-- The length of a variable whose mark is known. -/
def varFrom (x : Option (Int × Nat)) (l : Bs) : Nat := match x with
  | none => 0
  | some (kind, m) => if 0 < idLen (l.drop m) then m + idLen (l.drop m) + indexLen kind (l.drop (m + idLen (l.drop m))) else 0
theorem varFrom_take (x : Option (Int × Nat)) {l : Bs} {n : Nat} (h : varFrom x l ≤ n) : varFrom x (l.take n) = varFrom x l := by
  cases x with
  | none => rfl
  | some y =>
    obtain ⟨kind, m⟩ := y
    unfold varFrom at h ⊢
    simp only at h ⊢
    rw [List.drop_take, id_take, List.drop_take]
    by_cases hi : 0 < idLen (l.drop m)
    · rw [if_pos hi] at h
      have hmin : min (idLen (l.drop m)) (n - m) = idLen (l.drop m) := by omega
      rw [hmin, if_pos hi, if_pos hi, index_take (by omega)]
    · rw [if_neg hi, if_neg (by omega)]
theorem mark_take (l : Bs) (n : Nat) (h2 : 2 ≤ n) : markOf (l.take n) = markOf l := by
  unfold markOf
  have d1 : decide (([63, 39] : Bs).length ≤ n) = true := by simp; omega
  have d2 : decide (([63] : Bs).length ≤ n) = true := by simp; omega
  have d3 : decide (([39] : Bs).length ≤ n) = true := by simp; omega
  rw [pre_take, pre_take, pre_take, d1, d2, d3, Bool.and_true, Bool.and_true, Bool.and_true]
theorem mark_one {l : Bs} {x : Int × Nat} (h : markOf l = some x) : 1 ≤ x.2 := by
  unfold markOf at h
  split at h
  · cases h; decide
  · split at h
    · cases h; decide
    · split at h
      · cases h; decide
      · cases h
theorem var_take {l : Bs} {n : Nat} (h1 : 1 ≤ n) (h : varLen l ≤ n) : varLen (l.take n) = varLen l ∧ (0 < varLen l → varKind (l.take n) = varKind l) := by
  have e : ∀ l, varLen l = varFrom (markOf l) l := fun l => rfl
  by_cases h2 : 2 ≤ n
  · refine ⟨?_, fun _ => by unfold varKind; rw [mark_take l n h2]⟩
    rw [e, e l, mark_take l n h2]
    exact varFrom_take _ h
  · obtain rfl : n = 1 := by omega
    have z1 : varLen (l.take 1) = 0 := by
      rw [e]
      cases hm : markOf (l.take 1) with
      | none => rfl
      | some x =>
        obtain ⟨kind, m⟩ := x
        have := mark_one hm
        unfold varFrom
        simp only
        rw [List.drop_eq_nil_of_le (by rw [List.length_take]; simp only at this; omega)]
        rfl
    have z2 : varLen l = 0 := by
      rw [e] at h ⊢
      cases hm : markOf l with
      | none => rfl
      | some x =>
        obtain ⟨kind, m⟩ := x
        have hm1 := mark_one hm
        rw [hm] at h
        unfold varFrom at h ⊢
        simp only at h hm1 ⊢
        split
        · rename_i hi; rw [if_pos hi] at h; omega
        · rfl
    exact ⟨by rw [z1, z2], fun h => by omega⟩

theorem nestF_take (p q : Bs) (hp : p ≠ []) (hq : q ≠ []) : ∀ (f g : Nat) (l : Bs) (d : Int) (m n : Nat), f ≤ g → nestF p q f l d = some m → m ≤ n → nestF p q g (l.take n) d = some m
  | 0, _, _, _, _, _, _, h, _ => by simp [nestF] at h
  | f + 1, 0, _, _, _, _, hg, _, _ => by omega
  | f + 1, g + 1, l, d, m, n, hg, h, hn => by
    have p1 : 1 ≤ p.length := List.length_pos_iff.2 hp
    have q1 : 1 ≤ q.length := List.length_pos_iff.2 hq
    unfold nestF at h ⊢
    by_cases hl : l = []
    · rw [if_pos hl] at h; cases h
    · rw [if_neg hl] at h
      have step : ∀ (k : Nat) (e : Int), (nestF p q f (l.drop k) e).map (k + ·) = some m → k ≤ n ∧ (nestF p q g ((l.take n).drop k) e).map (k + ·) = some m := fun k e hx => by
        obtain ⟨y, hy, hy2⟩ := Option.map_eq_some_iff.1 hx
        refine ⟨by omega, ?_⟩
        rw [List.drop_take, nestF_take p q hp hq f g _ _ y (n - k) (by omega) hy (by omega)]
        exact congrArg some hy2
      have hz : n ≠ 0 → l.take n ≠ [] := fun h0 => by
        cases l with
        | nil => exact absurd rfl hl
        | cons c r =>
          obtain ⟨j, rfl⟩ : ∃ j, n = j + 1 := ⟨n - 1, by omega⟩
          rw [List.take_succ_cons]
          exact List.cons_ne_nil _ _
      rw [pre_take, pre_take]
      by_cases h1 : Lib.hasPrefix l p = true
      · rw [if_pos h1] at h
        have hk : p.length ≤ n := by
          split at h
          · cases h; exact hn
          · exact (step _ _ h).1
        rw [if_neg (hz (by omega)), h1, Bool.true_and, decide_eq_true hk, if_pos rfl]
        by_cases h2 : d + 1 = 0
        · rw [if_pos h2] at h ⊢; exact h
        · rw [if_neg h2] at h ⊢; exact (step _ _ h).2
      · rw [if_neg h1] at h
        have h1f : Lib.hasPrefix l p = false := by simpa using h1
        by_cases h3 : Lib.hasPrefix l q = true
        · rw [if_pos h3] at h
          have hk : q.length ≤ n := by
            split at h
            · cases h; exact hn
            · exact (step _ _ h).1
          rw [if_neg (hz (by omega)), h1f, Bool.false_and, if_neg (by decide), h3, Bool.true_and, decide_eq_true hk, if_pos rfl]
          by_cases h2 : d - 1 = 0
          · rw [if_pos h2] at h ⊢; exact h
          · rw [if_neg h2] at h ⊢; exact (step _ _ h).2
        · rw [if_neg h3] at h
          have h3f : Lib.hasPrefix l q = false := by simpa using h3
          have hk : 1 ≤ n := by
            split at h
            · cases h; exact hn
            · exact (step _ _ h).1
          rw [if_neg (hz (by omega)), h1f, Bool.false_and, if_neg (by decide), h3f, Bool.false_and, if_neg (by decide)]
          by_cases h2 : d = 0
          · rw [if_pos h2] at h ⊢; exact h
          · rw [if_neg h2] at h ⊢; exact (step _ _ h).2
end Go.Proofs.YtdkagjbedinhjaaGreat
end

section
namespace Go.Proofs.YtdkagjbedinhjaaGreat
open Go.RowKit

theorem strF_take : ∀ (f g : Nat) (l : Bs) (r : Bs × Nat) (n : Nat), f ≤ g → strF f l = some r → r.2 ≤ n → strF g (l.take n) = some r
  | 0, _, _, _, _, _, h, _ => by cases h
  | f + 1, 0, _, _, _, hg, _, _ => by omega
  | _ + 1, _ + 1, [], _, _, _, h, _ => by cases h
  | f + 1, g + 1, c :: r, x, n, hg, h, hn => by
    have hx := (strF_le _ _ _ h).1
    obtain ⟨k, rfl⟩ : ∃ k, n = k + 1 := ⟨n - 1, by omega⟩
    rw [List.take_succ_cons]
    simp only [strF] at h ⊢
    split at h
    · cases h
    · rename_i h1
      rw [if_neg h1]
      split at h
      · rename_i h2
        rw [if_pos h2]
        exact h
      · rename_i h2
        rw [if_neg h2]
        split at h
        · rename_i h3
          rw [if_pos h3]
          split at h
          · cases h
          · rename_i h4
            cases r with
            | nil => exact absurd rfl h4
            | cons a r' =>
              obtain ⟨y, hy, hy2⟩ := Option.map_eq_some_iff.1 h
              have hxy : x.2 = 2 + y.2 := by rw [← hy2]
              obtain ⟨j, rfl⟩ : ∃ j, k = j + 1 := ⟨k - 1, by omega⟩
              rw [List.take_succ_cons]
              have e : escL (a :: r'.take j) = escL (a :: r') := rfl
              rw [e, if_neg h4]
              have := strF_take f g _ y j (by omega) hy (by omega)
              show Option.map _ (strF g (r'.take j)) = _
              rw [show strF g (r'.take j) = some y from this]
              exact congrArg some hy2
        · rename_i h3
          rw [if_neg h3]
          obtain ⟨y, hy, hy2⟩ := Option.map_eq_some_iff.1 h
          have hxy : x.2 = 1 + y.2 := by rw [← hy2]
          rw [strF_take f g _ y k (by omega) hy (by omega)]
          exact congrArg some hy2

/-- P is a piece of T. -/
structure Piece (T P : ByteArray) (k n : Nat) : Prop where
  eq : P = T.extract k (k + n)
  le : k + n ≤ T.size
theorem Piece.from' {T P : ByteArray} {k n : Nat} (h : Piece T P k n) : from' P 0 = (from' T k).take n := by
  unfold Go.Proofs.YtdkagjbedinhjaaGreat.from'
  rw [List.drop_zero, h.eq, Lib.extract_eq]
  simp
theorem Piece.fromAt {T P : ByteArray} {k n : Nat} (h : Piece T P k n) (j : Nat) : Go.Proofs.YtdkagjbedinhjaaGreat.from' P j = (Go.Proofs.YtdkagjbedinhjaaGreat.from' T (k + j)).take (n - j) := by
  have e := h.from'
  unfold Go.Proofs.YtdkagjbedinhjaaGreat.from' at e ⊢
  rw [List.drop_zero] at e
  rw [e, List.drop_take, List.drop_drop]
theorem Piece.size {T P : ByteArray} {k n : Nat} (h : Piece T P k n) : P.size = n := by
  have e := from_len P 0
  rw [h.from', List.length_take, from_len, Nat.sub_zero] at e
  have := h.le
  omega
theorem Piece.ext {T P : ByteArray} {k n : Nat} (h : Piece T P k n) {a b : Nat} (hb : b ≤ n) : P.extract a b = T.extract (k + a) (k + b) := by
  refine ext_of ?_
  have e := h.fromAt a
  unfold Go.Proofs.YtdkagjbedinhjaaGreat.from' at e
  rw [e, List.take_take, show k + b - (k + a) = b - a by omega, Nat.min_eq_left (by omega)]

theorem cd_piece {T P : ByteArray} {k n : Nat} (h : Piece T P k n) {g : Nat} (kind kind' : Int) (hg : g ≤ n) (hk : 0 < g → kind' = kind) : cd T k kind g = shC k (cd P 0 kind' g) := by
  unfold cd candTok shC
  by_cases h0 : 0 < g
  · rw [if_pos h0, if_pos h0, hk h0, Nat.zero_add, h.ext hg]
    rfl
  · rw [if_neg h0, if_neg h0, Nat.zero_add]
theorem kw_piece {T P : ByteArray} {k n : Nat} (h : Piece T P k n) (K : ByteArray → Bool) (h0 : 1 ≤ n) (h1 : idLen (from' T k) ≤ n) (h2 : signLen (from' T k) ≤ n) : kwLen K P 0 = kwLen K T k := by
  unfold kwLen
  rw [h.from', id_take, Nat.min_eq_left h1, sign_take h0 h2, Nat.zero_add, Nat.zero_add, h.ext h1, h.ext h2]
  rfl
theorem quote_piece {T P : ByteArray} {k n : Nat} (h : Piece T P k n) {c : Cd} (hc : quoteO T k = some c) (hn : c.2.2 ≤ k + n) : quoteO T k = (quoteO P 0).map (shC k) := by
  unfold quoteO at hc ⊢
  rw [h.from', pre_take]
  by_cases hp : Lib.hasPrefix (from' T k) openL = true
  · rw [if_pos hp] at hc ⊢
    cases hm : nestL openL closeL (from' T k) 0 with
    | none => rw [hm] at hc; cases hc
    | some m =>
      rw [hm] at hc
      have hb := nest_from openL closeL (by decide) (by decide) hp hm
      have h15 : openL.length + closeL.length = 15 := rfl
      have h7 : openL.length = 7 := rfl
      have hcm : k + m ≤ k + n := by cases hc; exact hn
      have hmn : m ≤ n := by omega
      have ht : nestL openL closeL ((from' T k).take n) 0 = some m := by
        have := nestF_take openL closeL (by decide) (by decide) _ (from' T k).length _ _ _ n (Nat.le_refl _) hm hmn
        unfold nestL
        rw [nestF_enough openL closeL (by decide) (by decide) _ (from' T k).length _ _ (Nat.le_refl _) (by rw [List.length_take]; omega)]
        exact this
      rw [hp, decide_eq_true (show openL.length ≤ n by omega), Bool.true_and, if_pos rfl, ht]
      show some _ = some (shC _ _)
      unfold shC
      simp only
      rw [Nat.zero_add, Nat.zero_add, h.ext (by omega), show k + (m - 8) = k + m - 8 by omega]
  · have hpf : Lib.hasPrefix (from' T k) openL = false := by simpa using hp
    rw [if_neg hp, hpf, Bool.false_and, if_neg (by decide)]
    rfl
theorem str_piece {T P : ByteArray} {k n : Nat} (h : Piece T P k n) (h1 : 1 ≤ n) {c : Cd} (hc : strO T k = some c) (hn : c.2.2 ≤ k + n) : strO T k = (strO P 0).map (shC k) := by
  unfold strO at hc ⊢
  have e : (from' P 0).head? = (from' T k).head? := by
    rw [h.from']
    cases from' T k with
    | nil => rw [List.take_nil]
    | cons a r =>
      obtain ⟨j, rfl⟩ : ∃ j, n = j + 1 := ⟨n - 1, by omega⟩
      rfl
  rw [e, h.fromAt]
  by_cases hp : (from' T k).head? = some 34
  · rw [if_pos hp] at hc ⊢
    rw [if_pos hp]
    cases hr : strL (from' T (k + 1)) with
    | none => rw [hr] at hc; cases hc
    | some r =>
      rw [hr] at hc
      have hb := strF_le _ _ _ hr
      have hcm : k + 1 + r.2 ≤ k + n := by cases hc; exact hn
      have ht : strL ((from' T (k + (0 + 1))).take (n - (0 + 1))) = some r := by
        rw [Nat.zero_add]
        have := strF_take _ (from' T (k + 1)).length _ _ (n - 1) (Nat.le_refl _) hr (by omega)
        unfold strL
        rw [strF_enough _ (from' T (k + 1)).length _ (Nat.le_refl _) (by rw [List.length_take]; omega)]
        exact this
      rw [ht]
      show some _ = some (shC _ _)
      unfold shC
      simp only
      rw [show k + (0 + 1 + r.2) = k + 1 + r.2 by omega]
  · rw [if_neg hp, if_neg hp]
    rfl

theorem pickO_max {a b : Option Cd} {c : Cd} (h : pickO a b = some c) : (∀ x, a = some x → x.2.2 ≤ c.2.2) ∧ ∀ x, b = some x → x.2.2 ≤ c.2.2 := by
  obtain ⟨⟨x, rfl⟩, ⟨y, rfl⟩⟩ := pickO_inv h
  rw [pickO_some] at h
  have hc := Option.some.inj h
  subst hc
  refine ⟨fun z hz => ?_, fun z hz => ?_⟩
  · cases hz
    split <;> omega
  · cases hz
    split <;> omega
theorem best_all (C : Nat → Option Cd) (k : Nat) : ∀ (j : Nat) (c : Cd), bestO C k j = some c → ∀ i, i < j → ∃ x, C i = some x ∧ x.2.2 ≤ c.2.2
  | 0, _, _, i, hi => by omega
  | j + 1, c, h, i, hi => by
    obtain ⟨⟨x, hx⟩, ⟨y, hy⟩⟩ := pickO_inv h
    obtain ⟨m1, m2⟩ := pickO_max h
    by_cases hij : i = j
    · subst hij
      exact ⟨y, hy, m2 y hy⟩
    · obtain ⟨z, hz, hz2⟩ := best_all C k j x hx i (by omega)
      exact ⟨z, hz, Nat.le_trans hz2 (m1 x hx)⟩

/-- The token at a place is that of its piece. -/
theorem next_piece {T P : ByteArray} {k n : Nat} (h : Piece T P k n) (h1 : 1 ≤ n) (K : ByteArray → Bool) {c : Cd} (hc : nextO K T k = some c) (hn : c.2.2 = k + n) : nextO K P 0 = some (c.1, c.2.1, n) := by
  have hall := best_all _ k 7 c hc
  obtain ⟨_, e0, l0⟩ := hall 0 (by decide)
  obtain ⟨_, e1, l1⟩ := hall 1 (by decide)
  obtain ⟨_, e2, l2⟩ := hall 2 (by decide)
  obtain ⟨_, e3, l3⟩ := hall 3 (by decide)
  obtain ⟨_, e4, l4⟩ := hall 4 (by decide)
  obtain ⟨y5, e5, l5⟩ := hall 5 (by decide)
  obtain ⟨y6, e6, l6⟩ := hall 6 (by decide)
  cases e0
  cases e1
  cases e2
  cases e3
  cases e4
  simp only [cd] at l0 l1 l2 l3 l4
  have q5 := quote_piece h (show quoteO T k = some y5 from e5) (by omega)
  have q6 := str_piece h h1 (show strO T k = some y6 from e6) (by omega)
  have b1 : longLen (from' T k) ≤ n := by omega
  have b2 : varLen (from' T k) ≤ n := by omega
  have b3 : runLen digB (from' T k) ≤ n := by omega
  have b4 : signLen (from' T k) ≤ n := by omega
  have b0 : idLen (from' T k) ≤ n := Nat.le_trans (id_le_long _) b1
  have hk := kw_piece h K h1 b0 b4
  obtain ⟨v1, v2⟩ := var_take h1 b2
  have key : nextO K T (k + 0) = (nextO K P 0).map (shC k) := by
    unfold nextO
    refine best_sh k 0 _ _ (fun j => ?_) 7
    rw [Nat.add_zero, hk, h.from', long_take b1, v1, run_take, Nat.min_eq_left b3, sign_take h1 b4]
    match j with
    | 0 => exact congrArg some (cd_piece h _ _ (by omega) fun _ => rfl)
    | 1 => exact congrArg some (cd_piece h _ _ b1 fun _ => kind_take b1)
    | 2 => exact congrArg some (cd_piece h _ _ b2 v2)
    | 3 => exact congrArg some (cd_piece h _ _ b3 fun _ => rfl)
    | 4 => exact congrArg some (cd_piece h _ _ b4 fun _ => rfl)
    | 5 => exact q5
    | j + 6 => exact q6
  rw [Nat.add_zero, hc] at key
  cases hp : nextO K P 0 with
  | none => rw [hp] at key; cases key
  | some x =>
    rw [hp] at key
    have hx := Option.some.inj key
    subst hx
    unfold shC at hn
    simp only at hn
    obtain ⟨x0, x1, x2⟩ := x
    simp only at hn
    obtain rfl : x2 = n := by omega
    rfl
end Go.Proofs.YtdkagjbedinhjaaGreat
end

section
namespace Go.Proofs.YtdkagjbedinhjaaGreat
open Go.RowKit

/-- Where nothing stands ahead of a token, nothing stands ahead of its piece. -/
theorem betL_zero_take {l : Bs} {n : Nat} (h1 : 1 ≤ n) (h : betL l = .ok 0) : betL (l.take n) = .ok 0 := by
  cases l with
  | nil => rw [List.take_nil]; exact h
  | cons c r =>
    have hp := pre_take (c :: r) [40, 42] n
    obtain ⟨j, rfl⟩ : ∃ j, n = j + 1 := ⟨n - 1, by omega⟩
    rw [List.take_succ_cons] at hp ⊢
    rw [betL_cons] at h ⊢
    by_cases hb : blankB c = true
    · rw [if_pos hb] at h
      obtain ⟨m, _, hm⟩ := shift_ok h
      omega
    · rw [if_neg hb] at h
      rw [if_neg hb, hp]
      by_cases hq : Lib.hasPrefix (c :: r) [40, 42] = true
      · rw [if_pos hq] at h
        cases hk : nestL [40, 42] [42, 41] (c :: r) 0 with
        | none => rw [hk] at h; cases h
        | some k =>
          rw [hk] at h
          have hcb := com_bounds hq hk
          obtain ⟨m, _, hm⟩ := shift_ok h
          omega
      · have hqf : Lib.hasPrefix (c :: r) [40, 42] = false := by simpa using hq
        rw [hqf, Bool.false_and, if_neg (by decide)]
/-- Behind what stands between nothing stands between. -/
theorem betL_again : ∀ (N : Nat) (l : Bs) (p : Nat), l.length ≤ N → betL l = .ok p → betL (l.drop p) = .ok 0
  | _, [], p, _, h => by
    cases h
    rfl
  | 0, c :: r, p, hN, _ => by simp at hN
  | N + 1, c :: r, p, hN, h => by
    simp only [List.length_cons] at hN
    have h0 := h
    rw [betL_cons] at h
    by_cases hb : blankB c = true
    · rw [if_pos hb] at h
      obtain ⟨m, hm, rfl⟩ := shift_ok h
      rw [Nat.add_comm, List.drop_succ_cons]
      exact betL_again N r m (by omega) hm
    · rw [if_neg hb] at h
      by_cases hq : Lib.hasPrefix (c :: r) [40, 42] = true
      · rw [if_pos hq] at h
        cases hk : nestL [40, 42] [42, 41] (c :: r) 0 with
        | none => rw [hk] at h; cases h
        | some k =>
          rw [hk] at h
          have hcb := com_bounds hq hk
          simp only [List.length_cons] at hcb
          obtain ⟨m, hm, rfl⟩ := shift_ok h
          rw [← List.drop_drop]
          exact betL_again N _ m (by rw [List.length_drop, List.length_cons]; omega) hm
      · rw [if_neg hq] at h
        cases h
        exact h0
theorem betAt_again {T : ByteArray} {k p : Nat} (h : betAt T k = .ok p) : betL (from' T p) = .ok 0 := by
  unfold betAt at h
  obtain ⟨m, hm, rfl⟩ := shift_ok h
  rw [← from_add]
  exact betL_again _ _ m (Nat.le_refl _) hm

/-- A token as it stands in a text. -/
structure Stands (K : ByteArray → Bool) (T : ByteArray) (x : Tk) (n : Nat) : Prop where
  lt : x.2.2 < T.size
  le : x.2.2 + n ≤ T.size
  pos : 1 ≤ n
  bet : betL (from' T x.2.2) = .ok 0
  next : nextO K T x.2.2 = some (x.1, x.2.1, x.2.2 + n)
/-- Tokens that stand one behind the other, from a place on. -/
def Ascend (K : ByteArray → Bool) (T : ByteArray) : Nat → List Tk → Prop
  | _, [] => True
  | k, x :: r => k ≤ x.2.2 ∧ ∃ n, Stands K T x n ∧ Ascend K T (x.2.2 + n) r
theorem scan_ascend (K : ByteArray → Bool) (T : ByteArray) : ∀ (f k : Nat), k ≤ T.size → Ascend K T k (scanF K T f k).1
  | 0, _, _ => trivial
  | f + 1, k, hk => by
    cases hp : betAt T k with
    | error n => rw [scanF_err hp]; trivial
    | ok p =>
      rw [scanF_ok hp]
      have hb := betAt_le hk hp
      by_cases h1 : T.size ≤ p
      · rw [headOf_end h1]; trivial
      · cases hc : nextO K T p with
        | none => rw [headOf_none (by omega) hc]; trivial
        | some c =>
          have hn := nextO_le (by omega) hc
          by_cases h2 : c.2.2 = p
          · rw [headOf_byte (by omega) hc h2]; trivial
          · rw [headOf_some (by omega) hc h2]
            have e : p + (c.2.2 - p) = c.2.2 := by omega
            refine ⟨hb.1, c.2.2 - p, ⟨by show p < _; omega, by show p + _ ≤ _; omega, by omega, betAt_again hp, ?_⟩, ?_⟩
            · show nextO K T p = some (c.1, c.2.1, p + (c.2.2 - p))
              rw [hc, e]
            · show Ascend K T (p + (c.2.2 - p)) _
              rw [e]
              exact scan_ascend K T f c.2.2 hn.2

/-- The piece of a token, scanned. -/
theorem scan_piece {K : ByteArray → Bool} {T : ByteArray} {x : Tk} {n : Nat} (h : Stands K T x n) : scanR K (T.extract x.2.2 (x.2.2 + n)) = ([(x.1, x.2.1, 0)], none) := by
  have hP : Piece T (T.extract x.2.2 (x.2.2 + n)) x.2.2 n := ⟨rfl, h.le⟩
  have hs := hP.size
  generalize T.extract x.2.2 (x.2.2 + n) = P at hP hs
  have hn := next_piece hP h.pos K h.next rfl
  have hb : betAt P 0 = .ok 0 := by
    unfold betAt
    rw [hP.from', betL_zero_take h.pos h.bet]
    rfl
  have he : betAt P n = .ok n := by
    unfold betAt
    rw [from_nil (by omega)]
    rfl
  have hpos := h.pos
  obtain ⟨m, rfl⟩ : ∃ m, n = m + 1 := ⟨n - 1, by omega⟩
  unfold scanR
  rw [hs, scanF_ok hb, headOf_some (by omega) hn (by simp), scanF_ok he, headOf_end (by omega)]
  rfl
end Go.Proofs.YtdkagjbedinhjaaGreat
end

