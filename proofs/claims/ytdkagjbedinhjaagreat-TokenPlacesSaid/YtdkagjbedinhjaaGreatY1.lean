/-
  The piece of a text that a token is: alone, it is read as the same token (TokenPlaces, TokenBack): the bytes.
-/
import Derived.Test.YtdkagjbedinhjaaGreatW6
namespace Go.Proofs.YtdkagjbedinhjaaGreat
open Go.RowKit

theorem pre_take (l q : Bs) (n : Nat) : Lib.hasPrefix (l.take n) q = (Lib.hasPrefix l q && decide (q.length ≤ n)) := by
  unfold Lib.hasPrefix
  rw [Bool.eq_iff_iff, Bool.and_eq_true, decide_eq_true_iff, List.isPrefixOf_iff_prefix, List.isPrefixOf_iff_prefix, List.prefix_take_iff]

theorem run_take (p : UInt8 → Bool) : ∀ (l : Bs) (n : Nat), runLen p (l.take n) = min (runLen p l) n
  | [], n => by simp [runLen]
  | c :: r, 0 => by simp [runLen]
  | c :: r, n + 1 => by
    have ih := run_take p r n
    unfold runLen at ih ⊢
    rw [List.take_succ_cons, List.takeWhile_cons, List.takeWhile_cons]
    cases p c with
    | true => simp only [if_true, List.length_cons, ih]; omega
    | false => simp
theorem id_take (l : Bs) (n : Nat) : idLen (l.take n) = min (idLen l) n := by
  cases l with
  | nil => simp [idLen]
  | cons c r =>
    cases n with
    | zero => simp [idLen]
    | succ n =>
      have h := run_take goesB (c :: r) (n + 1)
      rw [List.take_succ_cons] at h ⊢
      show (if begB c then runLen goesB (c :: r.take n) else 0) = min (if begB c then runLen goesB (c :: r) else 0) (n + 1)
      split
      · exact h
      · simp

theorem named_take {l : Bs} {n : Nat} (h2 : 2 ≤ n) (h : namedLen l ≤ n) : namedLen (l.take n) = namedLen l := by
  unfold namedLen at h ⊢
  rw [List.drop_take, id_take, List.drop_take, pre_take]
  by_cases hi : idLen (l.drop 2) < n - 2
  · rw [Nat.min_eq_left (Nat.le_of_lt hi)]
    have : decide (([62] : Bs).length ≤ n - (2 + idLen (l.drop 2))) = true := by simp; omega
    rw [this, Bool.and_true]
  · rw [Nat.min_eq_right (by omega)]
    have : decide (([62] : Bs).length ≤ n - (2 + (n - 2))) = false := by simp; omega
    rw [this, Bool.and_false, if_neg (fun h => by cases h.2)]
    by_cases hc : 0 < idLen (l.drop 2) ∧ Lib.hasPrefix (l.drop (2 + idLen (l.drop 2))) [62] = true
    · rw [if_pos hc] at h; omega
    · rw [if_neg hc]
theorem sign_take {l : Bs} {n : Nat} (h1 : 1 ≤ n) (h : signLen l ≤ n) : signLen (l.take n) = signLen l := by
  cases l with
  | nil => rw [List.take_nil]
  | cons c r =>
    obtain ⟨m, rfl⟩ : ∃ m, n = m + 1 := ⟨n - 1, by omega⟩
    have hp := pre_take (c :: r) [92, 60] (m + 1)
    have hr := run_take signB (c :: r) (m + 1)
    rw [List.take_succ_cons] at hp hr ⊢
    have e1 : signLen (c :: r) = (if pointB c then 1 else if Lib.hasPrefix (c :: r) [92, 60] then namedLen (c :: r) else runLen signB (c :: r)) := rfl
    have e2 : signLen (c :: r.take m) = (if pointB c then 1 else if Lib.hasPrefix (c :: r.take m) [92, 60] then namedLen (c :: r.take m) else runLen signB (c :: r.take m)) := rfl
    rw [e1] at h
    rw [e1, e2, hp]
    by_cases hc : pointB c = true
    · rw [if_pos hc, if_pos hc]
    · rw [if_neg hc] at h
      rw [if_neg hc, if_neg hc]
      by_cases hq : Lib.hasPrefix (c :: r) [92, 60] = true
      · rw [if_pos hq] at h
        rw [if_pos hq, hq, Bool.true_and]
        by_cases hm : 2 ≤ m + 1
        · have : decide (([92, 60] : Bs).length ≤ m + 1) = true := by simp; omega
          rw [if_pos this]
          have := named_take hm h
          rwa [List.take_succ_cons] at this
        · have : decide (([92, 60] : Bs).length ≤ m + 1) = false := by simp; omega
          rw [this, if_neg (by decide)]
          have h0 : runLen signB (c :: r) = 0 := by
            have : c = 92 := by
              have := List.isPrefixOf_iff_prefix.1 hq
              obtain ⟨t, ht⟩ := this
              cases ht
              rfl
            subst this
            show (List.takeWhile signB (92 :: r)).length = 0
            rw [List.takeWhile_cons, show signB 92 = false by decide]
            rfl
          rw [hr, h0]
          unfold namedLen at h ⊢
          split
          · rename_i hh; rw [if_pos hh] at h; omega
          · simp
      · rw [if_neg hq] at h
        have hqf : Lib.hasPrefix (c :: r) [92, 60] = false := by simpa using hq
        rw [if_neg hq, hqf, Bool.false_and, if_neg (by decide), hr]
        omega

theorem more_take : ∀ (N : Nat) (l : Bs) (n : Nat), l.length ≤ N → moreLen l ≤ n → moreLen (l.take n) = moreLen l
  | 0, l, n, h, _ => by
    have : l = [] := List.length_eq_zero_iff.1 (Nat.le_zero.1 h)
    subst this
    rw [List.take_nil]
  | N + 1, l, n, hN, h => by
    rw [moreLen_step] at h
    rw [moreLen_step, moreLen_step l, pre_take, List.drop_take, id_take, List.drop_take]
    by_cases hA : Lib.hasPrefix l [46] = true ∧ 0 < idLen (l.drop 1)
    · rw [if_pos hA] at h
      have hl := dot_lt hA.1
      have hmin : min (idLen (l.drop 1)) (n - 1) = idLen (l.drop 1) := by omega
      rw [hmin, if_pos hA, if_pos ⟨by rw [hA.1]; simp; omega, hA.2⟩, more_take N (l.drop (1 + idLen (l.drop 1))) _ (by rw [List.length_drop]; omega) (by omega)]
    · rw [if_neg hA, if_neg (fun hB => hA ⟨by have := hB.1; rw [Bool.and_eq_true] at this; exact this.1, by have := hB.2; omega⟩)]
theorem long_take {l : Bs} {n : Nat} (h : longLen l ≤ n) : longLen (l.take n) = longLen l := by
  unfold longLen at h ⊢
  rw [id_take]
  by_cases hi : 0 < idLen l
  · rw [if_pos hi] at h
    have hmin : min (idLen l) n = idLen l := by omega
    rw [hmin, if_pos hi, if_pos hi, List.drop_take, more_take _ _ _ (Nat.le_refl _) (by omega)]
  · rw [if_neg hi, if_neg (by omega)]
theorem id_le_long (l : Bs) : idLen l ≤ longLen l := by
  unfold longLen
  split
  · omega
  · omega
theorem kind_take {l : Bs} {n : Nat} (h : longLen l ≤ n) : nameKind (l.take n) = nameKind l := by
  unfold nameKind
  rw [long_take h, id_take, Nat.min_eq_left (Nat.le_trans (id_le_long l) h)]

theorem index_take {kind : Int} {l : Bs} {n : Nat} (h : indexLen kind l ≤ n) : indexLen kind (l.take n) = indexLen kind l := by
  unfold indexLen at h ⊢
  rw [pre_take, List.drop_take, run_take]
  by_cases hA : kind ≠ 3 ∧ Lib.hasPrefix l [46] = true ∧ 0 < runLen digB (l.drop 1)
  · rw [if_pos hA] at h
    have hmin : min (runLen digB (l.drop 1)) (n - 1) = runLen digB (l.drop 1) := by omega
    rw [hmin, if_pos hA, if_pos ⟨hA.1, by rw [hA.2.1]; simp; omega, hA.2.2⟩]
  · rw [if_neg hA, if_neg (fun hB => hA ⟨hB.1, by have := hB.2.1; rw [Bool.and_eq_true] at this; exact this.1, by have := hB.2.2; omega⟩)]

/-- The length of a variable whose mark is known. -/
def varFrom (x : Option (Int × Nat)) (l : Bs) : Nat := match x with
  | none => 0
  | some (kind, m) => if 0 < idLen (l.drop m) then m + idLen (l.drop m) + indexLen kind (l.drop (m + idLen (l.drop m))) else 0
theorem varFrom_take (x : Option (Int × Nat)) {l : Bs} {n : Nat} (h : varFrom x l ≤ n) : varFrom x (l.take n) = varFrom x l := by
  cases x with
  | none => rfl
  | some y =>
    obtain ⟨kind, m⟩ := y
    unfold varFrom at h ⊢
    simp only at h ⊢
    rw [List.drop_take, id_take, List.drop_take]
    by_cases hi : 0 < idLen (l.drop m)
    · rw [if_pos hi] at h
      have hmin : min (idLen (l.drop m)) (n - m) = idLen (l.drop m) := by omega
      rw [hmin, if_pos hi, if_pos hi, index_take (by omega)]
    · rw [if_neg hi, if_neg (by omega)]
theorem mark_take (l : Bs) (n : Nat) (h2 : 2 ≤ n) : markOf (l.take n) = markOf l := by
  unfold markOf
  have d1 : decide (([63, 39] : Bs).length ≤ n) = true := by simp; omega
  have d2 : decide (([63] : Bs).length ≤ n) = true := by simp; omega
  have d3 : decide (([39] : Bs).length ≤ n) = true := by simp; omega
  rw [pre_take, pre_take, pre_take, d1, d2, d3, Bool.and_true, Bool.and_true, Bool.and_true]
theorem mark_one {l : Bs} {x : Int × Nat} (h : markOf l = some x) : 1 ≤ x.2 := by
  unfold markOf at h
  split at h
  · cases h; decide
  · split at h
    · cases h; decide
    · split at h
      · cases h; decide
      · cases h
theorem var_take {l : Bs} {n : Nat} (h1 : 1 ≤ n) (h : varLen l ≤ n) : varLen (l.take n) = varLen l ∧ (0 < varLen l → varKind (l.take n) = varKind l) := by
  have e : ∀ l, varLen l = varFrom (markOf l) l := fun l => rfl
  by_cases h2 : 2 ≤ n
  · refine ⟨?_, fun _ => by unfold varKind; rw [mark_take l n h2]⟩
    rw [e, e l, mark_take l n h2]
    exact varFrom_take _ h
  · obtain rfl : n = 1 := by omega
    have z1 : varLen (l.take 1) = 0 := by
      rw [e]
      cases hm : markOf (l.take 1) with
      | none => rfl
      | some x =>
        obtain ⟨kind, m⟩ := x
        have := mark_one hm
        unfold varFrom
        simp only
        rw [List.drop_eq_nil_of_le (by rw [List.length_take]; simp only at this; omega)]
        rfl
    have z2 : varLen l = 0 := by
      rw [e] at h ⊢
      cases hm : markOf l with
      | none => rfl
      | some x =>
        obtain ⟨kind, m⟩ := x
        have hm1 := mark_one hm
        rw [hm] at h
        unfold varFrom at h ⊢
        simp only at h hm1 ⊢
        split
        · rename_i hi; rw [if_pos hi] at h; omega
        · rfl
    exact ⟨by rw [z1, z2], fun h => by omega⟩

theorem nestF_take (p q : Bs) (hp : p ≠ []) (hq : q ≠ []) : ∀ (f g : Nat) (l : Bs) (d : Int) (m n : Nat), f ≤ g → nestF p q f l d = some m → m ≤ n → nestF p q g (l.take n) d = some m
  | 0, _, _, _, _, _, _, h, _ => by simp [nestF] at h
  | f + 1, 0, _, _, _, _, hg, _, _ => by omega
  | f + 1, g + 1, l, d, m, n, hg, h, hn => by
    have p1 : 1 ≤ p.length := List.length_pos_iff.2 hp
    have q1 : 1 ≤ q.length := List.length_pos_iff.2 hq
    unfold nestF at h ⊢
    by_cases hl : l = []
    · rw [if_pos hl] at h; cases h
    · rw [if_neg hl] at h
      have step : ∀ (k : Nat) (e : Int), (nestF p q f (l.drop k) e).map (k + ·) = some m → k ≤ n ∧ (nestF p q g ((l.take n).drop k) e).map (k + ·) = some m := fun k e hx => by
        obtain ⟨y, hy, hy2⟩ := Option.map_eq_some_iff.1 hx
        refine ⟨by omega, ?_⟩
        rw [List.drop_take, nestF_take p q hp hq f g _ _ y (n - k) (by omega) hy (by omega)]
        exact congrArg some hy2
      have hz : n ≠ 0 → l.take n ≠ [] := fun h0 => by
        cases l with
        | nil => exact absurd rfl hl
        | cons c r =>
          obtain ⟨j, rfl⟩ : ∃ j, n = j + 1 := ⟨n - 1, by omega⟩
          rw [List.take_succ_cons]
          exact List.cons_ne_nil _ _
      rw [pre_take, pre_take]
      by_cases h1 : Lib.hasPrefix l p = true
      · rw [if_pos h1] at h
        have hk : p.length ≤ n := by
          split at h
          · cases h; exact hn
          · exact (step _ _ h).1
        rw [if_neg (hz (by omega)), h1, Bool.true_and, decide_eq_true hk, if_pos rfl]
        by_cases h2 : d + 1 = 0
        · rw [if_pos h2] at h ⊢; exact h
        · rw [if_neg h2] at h ⊢; exact (step _ _ h).2
      · rw [if_neg h1] at h
        have h1f : Lib.hasPrefix l p = false := by simpa using h1
        by_cases h3 : Lib.hasPrefix l q = true
        · rw [if_pos h3] at h
          have hk : q.length ≤ n := by
            split at h
            · cases h; exact hn
            · exact (step _ _ h).1
          rw [if_neg (hz (by omega)), h1f, Bool.false_and, if_neg (by decide), h3, Bool.true_and, decide_eq_true hk, if_pos rfl]
          by_cases h2 : d - 1 = 0
          · rw [if_pos h2] at h ⊢; exact h
          · rw [if_neg h2] at h ⊢; exact (step _ _ h).2
        · rw [if_neg h3] at h
          have h3f : Lib.hasPrefix l q = false := by simpa using h3
          have hk : 1 ≤ n := by
            split at h
            · cases h; exact hn
            · exact (step _ _ h).1
          rw [if_neg (hz (by omega)), h1f, Bool.false_and, if_neg (by decide), h3f, Bool.false_and, if_neg (by decide)]
          by_cases h2 : d = 0
          · rw [if_pos h2] at h ⊢; exact h
          · rw [if_neg h2] at h ⊢; exact (step _ _ h).2
end Go.Proofs.YtdkagjbedinhjaaGreat
