/-
  A text, a line feed, and another text: what stands ahead of the line feed is read as if it stood alone.
-/
import Derived.Test.YtdkagjbedinhjaaGreatW4
namespace Go.Proofs.YtdkagjbedinhjaaGreat
open Go.RowKit

theorem run_nl (p : UInt8 → Bool) (hp : p 10 = false) (B : Bs) : ∀ l : Bs, runLen p (l ++ 10 :: B) = runLen p l
  | [] => by simp [runLen, List.takeWhile_cons, hp]
  | c :: r => by
    have ih := run_nl p hp B r
    unfold runLen at ih ⊢
    rw [List.cons_append, List.takeWhile_cons, List.takeWhile_cons]
    cases p c with
    | true => simp only [if_true, List.length_cons, ih]
    | false => rfl

theorem pre_nl (B : Bs) : ∀ (q l : Bs), (10 : UInt8) ∉ q → Lib.hasPrefix (l ++ 10 :: B) q = Lib.hasPrefix l q
  | [], l, _ => by simp [Lib.hasPrefix]
  | a :: q, [], h => by
    have ha : a ≠ 10 := fun e => h (by rw [e]; exact List.mem_cons_self)
    simp [Lib.hasPrefix, List.isPrefixOf, ha]
  | a :: q, c :: r, h => by
    have ih := pre_nl B q r (fun hm => h (List.mem_cons_of_mem _ hm))
    unfold Lib.hasPrefix at ih ⊢
    rw [List.cons_append]
    simp only [List.isPrefixOf, ih]

theorem drop_nl {l : Bs} {n : Nat} (h : n ≤ l.length) (X : Bs) : (l ++ X).drop n = l.drop n ++ X := List.drop_append_of_le_length h

theorem goes10 : goesB 10 = false := by decide
theorem beg10 : begB 10 = false := by decide
theorem dig10 : digB 10 = false := by decide
theorem sign10 : signB 10 = false := by decide
theorem point10 : pointB 10 = false := by decide
theorem blank10 : blankB 10 = true := by decide

theorem id_nl (B l : Bs) : idLen (l ++ 10 :: B) = idLen l := by
  cases l with
  | nil => show (if begB 10 then runLen goesB (10 :: B) else 0) = 0; rw [beg10]; rfl
  | cons c r =>
    show (if begB c then runLen goesB ((c :: r) ++ 10 :: B) else 0) = (if begB c then runLen goesB (c :: r) else 0)
    rw [run_nl goesB goes10]

theorem named_nl (B : Bs) {l : Bs} (h : 2 ≤ l.length) : namedLen (l ++ 10 :: B) = namedLen l := by
  have h2 := idLen_le (l.drop 2)
  rw [List.length_drop] at h2
  unfold namedLen
  rw [drop_nl h, id_nl, drop_nl (by omega), pre_nl B _ _ (by decide)]

theorem sign_nl (B l : Bs) : signLen (l ++ 10 :: B) = signLen l := by
  cases l with
  | nil =>
    show (if pointB 10 then 1 else if Lib.hasPrefix ([] ++ 10 :: B) [92, 60] then namedLen (10 :: B) else runLen signB ([] ++ 10 :: B)) = 0
    rw [point10, pre_nl B _ _ (by decide), run_nl signB sign10]
    rfl
  | cons c r =>
    show (if pointB c then 1 else if Lib.hasPrefix ((c :: r) ++ 10 :: B) [92, 60] then namedLen ((c :: r) ++ 10 :: B) else runLen signB ((c :: r) ++ 10 :: B)) = (if pointB c then 1 else if Lib.hasPrefix (c :: r) [92, 60] then namedLen (c :: r) else runLen signB (c :: r))
    rw [pre_nl B _ _ (by decide), run_nl signB sign10]
    split
    · rfl
    · split
      · rename_i h
        exact named_nl B (pre_len h)
      · rfl

theorem more_nl (B : Bs) : ∀ (n : Nat) (l : Bs), l.length ≤ n → moreLen (l ++ 10 :: B) = moreLen l
  | 0, l, h => by
    have : l = [] := List.length_eq_zero_iff.1 (Nat.le_zero.1 h)
    subst this
    rw [moreLen_step, pre_nl B _ _ (by decide)]
    rfl
  | n + 1, l, h => by
    rw [moreLen_step, moreLen_step l, pre_nl B _ _ (by decide)]
    by_cases hp : Lib.hasPrefix l [46] = true
    · have h1 : 1 ≤ l.length := pre_len hp
      have h2 := dot_lt hp
      rw [drop_nl h1, id_nl, drop_nl h2, more_nl B n _ (by rw [List.length_drop]; omega)]
    · rw [if_neg (fun h => hp h.1), if_neg (fun h => hp h.1)]

theorem long_nl (B l : Bs) : longLen (l ++ 10 :: B) = longLen l := by
  unfold longLen
  rw [id_nl, drop_nl (idLen_le l), more_nl B _ _ (Nat.le_refl _)]
theorem kind_nl (B l : Bs) : nameKind (l ++ 10 :: B) = nameKind l := by
  unfold nameKind
  rw [id_nl, long_nl]

theorem mark_nl (B l : Bs) : markOf (l ++ 10 :: B) = markOf l := by
  unfold markOf
  rw [pre_nl B _ _ (by decide), pre_nl B _ _ (by decide), pre_nl B _ _ (by decide)]
theorem mark_le {l : Bs} {kind : Int} {m : Nat} (h : markOf l = some (kind, m)) : m ≤ l.length := by
  unfold markOf at h
  split at h
  · rename_i hp; have := pre_len hp; cases h; exact this
  · split at h
    · rename_i hp; have := pre_len hp; cases h; exact this
    · split at h
      · rename_i hp; have := pre_len hp; cases h; exact this
      · cases h
theorem index_nl (B : Bs) (kind : Int) (l : Bs) : indexLen kind (l ++ 10 :: B) = indexLen kind l := by
  unfold indexLen
  rw [pre_nl B _ _ (by decide)]
  by_cases hp : Lib.hasPrefix l [46] = true
  · rw [drop_nl (show 1 ≤ l.length from pre_len hp), run_nl digB dig10]
  · rw [if_neg (fun h => hp h.2.1), if_neg (fun h => hp h.2.1)]
theorem var_nl (B l : Bs) : varLen (l ++ 10 :: B) = varLen l := by
  unfold varLen
  rw [mark_nl]
  cases hm : markOf l with
  | none => rfl
  | some x =>
    obtain ⟨kind, m⟩ := x
    have h1 := mark_le hm
    have h2 := idLen_le (l.drop m)
    rw [List.length_drop] at h2
    simp only
    rw [drop_nl h1, id_nl, drop_nl (by omega), index_nl]
theorem vkind_nl (B l : Bs) : varKind (l ++ 10 :: B) = varKind l := by
  unfold varKind
  rw [mark_nl]

theorem nestF_nl (B p q : Bs) (hp : (10 : UInt8) ∉ p) (hq : (10 : UInt8) ∉ q) : ∀ (f g : Nat) (l : Bs) (d : Int) (n : Nat), f ≤ g → nestF p q f l d = some n → nestF p q g (l ++ 10 :: B) d = some n
  | 0, _, _, _, _, _, h => by simp [nestF] at h
  | f + 1, 0, _, _, _, hg, _ => by omega
  | f + 1, g + 1, l, d, n, hg, h => by
    unfold nestF at h ⊢
    by_cases hl : l = []
    · rw [if_pos hl] at h; cases h
    · rw [if_neg hl] at h
      rw [if_neg (by simp), pre_nl B _ _ hp, pre_nl B _ _ hq]
      have l1 : 1 ≤ l.length := List.length_pos_iff.2 hl
      have step : ∀ (k : Nat) (e : Int) (m : Nat), k ≤ l.length → (nestF p q f (l.drop k) e).map (m + ·) = some n → (nestF p q g ((l ++ 10 :: B).drop k) e).map (m + ·) = some n := fun k e m hk hx => by
        obtain ⟨y, hy, hy2⟩ := Option.map_eq_some_iff.1 hx
        rw [drop_nl hk, nestF_nl B p q hp hq f g _ _ y (by omega) hy]
        exact congrArg some hy2
      by_cases h1 : Lib.hasPrefix l p = true
      · rw [if_pos h1] at h ⊢
        by_cases h2 : d + 1 = 0
        · rw [if_pos h2] at h ⊢; exact h
        · rw [if_neg h2] at h ⊢
          exact step _ _ _ (pre_len h1) h
      · rw [if_neg h1] at h ⊢
        by_cases h3 : Lib.hasPrefix l q = true
        · rw [if_pos h3] at h ⊢
          by_cases h2 : d - 1 = 0
          · rw [if_pos h2] at h ⊢; exact h
          · rw [if_neg h2] at h ⊢
            exact step _ _ _ (pre_len h3) h
        · rw [if_neg h3] at h ⊢
          by_cases h2 : d = 0
          · rw [if_pos h2] at h ⊢; exact h
          · rw [if_neg h2] at h ⊢
            exact step _ _ _ l1 h
theorem nest_nl (B p q : Bs) (hp : (10 : UInt8) ∉ p) (hq : (10 : UInt8) ∉ q) {l : Bs} {d : Int} {n : Nat} (h : nestL p q l d = some n) : nestL p q (l ++ 10 :: B) d = some n :=
  nestF_nl B p q hp hq _ _ _ _ _ (by simp) h

theorem strF_nl (X : Bs) : ∀ (f g : Nat) (l : Bs) (r : Bs × Nat), f ≤ g → strF f l = some r → strF g (l ++ X) = some r
  | 0, _, _, _, _, h => by cases h
  | f + 1, 0, _, _, hg, _ => by omega
  | _ + 1, _ + 1, [], _, _, h => by cases h
  | f + 1, g + 1, c :: r, x, hg, h => by
    rw [List.cons_append]
    simp only [strF] at h ⊢
    split at h
    · cases h
    · rename_i h1
      rw [if_neg h1]
      split at h
      · rename_i h2
        rw [if_pos h2]
        exact h
      · rename_i h2
        rw [if_neg h2]
        split at h
        · rename_i h3
          rw [if_pos h3]
          split at h
          · cases h
          · rename_i h4
            cases r with
            | nil => exact absurd rfl h4
            | cons a r' =>
              obtain ⟨y, hy, hy2⟩ := Option.map_eq_some_iff.1 h
              have e : escL ((a :: r') ++ X) = escL (a :: r') := rfl
              rw [e, if_neg h4]
              have := strF_nl X f g _ y (by omega) hy
              show Option.map _ (strF g (r' ++ X)) = _
              rw [show strF g (r' ++ X) = some y from this]
              exact congrArg some hy2
        · rename_i h3
          rw [if_neg h3]
          obtain ⟨y, hy, hy2⟩ := Option.map_eq_some_iff.1 h
          rw [strF_nl X f g _ y (by omega) hy]
          exact congrArg some hy2
theorem str_nl (X : Bs) {l : Bs} {r : Bs × Nat} (h : strL l = some r) : strL (l ++ X) = some r := strF_nl X _ _ _ _ (by simp) h

theorem shift_ok {n p : Nat} {o : BR} (h : o.shift n = .ok p) : ∃ m, o = .ok m ∧ p = n + m := by
  cases o with
  | ok m => cases h; exact ⟨m, rfl, rfl⟩
  | error m => cases h

/-- What stands between: a token follows. -/
theorem bet_nl (B : Bs) : ∀ (n : Nat) (l : Bs) (p : Nat), l.length ≤ n → betL l = .ok p → p < l.length → betL (l ++ 10 :: B) = .ok p
  | 0, l, p, hn, _, hp => by omega
  | n + 1, [], p, _, _, hp => by simp at hp
  | n + 1, c :: r, p, hn, h, hp => by
    simp only [List.length_cons] at hn hp
    rw [betL_cons] at h
    rw [List.cons_append, betL_cons]
    by_cases h1 : blankB c = true
    · rw [if_pos h1] at h ⊢
      obtain ⟨m, hm, rfl⟩ := shift_ok h
      rw [bet_nl B n r m (by omega) hm (by omega)]
      rfl
    · rw [if_neg h1] at h ⊢
      have e := pre_nl B [40, 42] (c :: r) (by decide)
      rw [List.cons_append] at e
      rw [e]
      by_cases h2 : Lib.hasPrefix (c :: r) [40, 42] = true
      · rw [if_pos h2] at h ⊢
        cases hk : nestL [40, 42] [42, 41] (c :: r) 0 with
        | none => rw [hk] at h; cases h
        | some k =>
          rw [hk] at h
          have hb := com_bounds h2 hk
          have := nest_nl B [40, 42] [42, 41] (by decide) (by decide) hk
          rw [List.cons_append] at this
          rw [this]
          simp only at h ⊢
          obtain ⟨m, hm, rfl⟩ := shift_ok h
          rw [← List.cons_append, drop_nl hb.2]
          simp only [List.length_cons] at hb
          rw [bet_nl B n _ m (by rw [List.length_drop, List.length_cons]; omega) hm (by rw [List.length_drop, List.length_cons]; omega)]
          rfl
      · rw [if_neg h2] at h ⊢
        exact h
/-- What stands between: nothing follows. -/
theorem bet_end (B : Bs) : ∀ (n : Nat) (l : Bs), l.length ≤ n → betL l = .ok l.length → betL (l ++ 10 :: B) = (betL B).shift (l.length + 1)
  | n, [], _, _ => by
    rw [List.nil_append, betL_cons, if_pos blank10]
    rfl
  | 0, c :: r, hn, _ => by simp at hn
  | n + 1, c :: r, hn, h => by
    simp only [List.length_cons] at hn h
    rw [betL_cons] at h
    rw [List.cons_append, betL_cons]
    by_cases h1 : blankB c = true
    · rw [if_pos h1] at h ⊢
      obtain ⟨m, hm, hm2⟩ := shift_ok h
      obtain rfl : m = r.length := by omega
      rw [bet_end B n r (by omega) hm, shift_shift, List.length_cons]
      congr 1
      omega
    · rw [if_neg h1] at h ⊢
      have e := pre_nl B [40, 42] (c :: r) (by decide)
      rw [List.cons_append] at e
      rw [e]
      by_cases h2 : Lib.hasPrefix (c :: r) [40, 42] = true
      · rw [if_pos h2] at h ⊢
        cases hk : nestL [40, 42] [42, 41] (c :: r) 0 with
        | none => rw [hk] at h; cases h
        | some k =>
          rw [hk] at h
          have hb := com_bounds h2 hk
          have := nest_nl B [40, 42] [42, 41] (by decide) (by decide) hk
          rw [List.cons_append] at this
          rw [this]
          simp only at h ⊢
          obtain ⟨m, hm, hm2⟩ := shift_ok h
          rw [← List.cons_append, drop_nl hb.2]
          simp only [List.length_cons] at hb
          have hl : ((c :: r).drop k).length = m := by rw [List.length_drop, List.length_cons]; omega
          rw [bet_end B n _ (by omega) (by rw [hl]; exact hm), shift_shift, hl, List.length_cons]
          congr 1
          omega
      · rw [if_neg h2] at h
        cases h
end Go.Proofs.YtdkagjbedinhjaaGreat
