/-
  A text, a space, and another text: what stands ahead of the space is read as if it stood alone.
-/
import Derived.Test.YtdkagjbedinhjaaGreatY5
section
namespace Go.Proofs.YtdkagjbedinhjaaGreat.Sp
open Go.RowKit

theorem run_nl (p : UInt8 → Bool) (hp : p 32 = false) (B : Bs) : ∀ l : Bs, runLen p (l ++ 32 :: B) = runLen p l
  | [] => by simp [runLen, List.takeWhile_cons, hp]
  | c :: r => by
    have ih := run_nl p hp B r
    unfold runLen at ih ⊢
    rw [List.cons_append, List.takeWhile_cons, List.takeWhile_cons]
    cases p c with
    | true => simp only [if_true, List.length_cons, ih]
    | false => rfl

theorem pre_nl (B : Bs) : ∀ (q l : Bs), (32 : UInt8) ∉ q → Lib.hasPrefix (l ++ 32 :: B) q = Lib.hasPrefix l q
  | [], l, _ => by simp [Lib.hasPrefix]
  | a :: q, [], h => by
    have ha : a ≠ 32 := fun e => h (by rw [e]; exact List.mem_cons_self)
    simp [Lib.hasPrefix, List.isPrefixOf, ha]
  | a :: q, c :: r, h => by
    have ih := pre_nl B q r (fun hm => h (List.mem_cons_of_mem _ hm))
    unfold Lib.hasPrefix at ih ⊢
    rw [List.cons_append]
    simp only [List.isPrefixOf, ih]

theorem drop_nl {l : Bs} {n : Nat} (h : n ≤ l.length) (X : Bs) : (l ++ X).drop n = l.drop n ++ X := List.drop_append_of_le_length h

theorem goes10 : goesB 32 = false := by decide
theorem beg10 : begB 32 = false := by decide
theorem dig10 : digB 32 = false := by decide
theorem sign10 : signB 32 = false := by decide
theorem point10 : pointB 32 = false := by decide
theorem blank10 : blankB 32 = true := by decide

theorem id_nl (B l : Bs) : idLen (l ++ 32 :: B) = idLen l := by
  cases l with
  | nil => show (if begB 32 then runLen goesB (32 :: B) else 0) = 0; rw [beg10]; rfl
  | cons c r =>
    show (if begB c then runLen goesB ((c :: r) ++ 32 :: B) else 0) = (if begB c then runLen goesB (c :: r) else 0)
    rw [run_nl goesB goes10]

theorem named_nl (B : Bs) {l : Bs} (h : 2 ≤ l.length) : namedLen (l ++ 32 :: B) = namedLen l := by
  have h2 := idLen_le (l.drop 2)
  rw [List.length_drop] at h2
  unfold namedLen
  rw [drop_nl h, id_nl, drop_nl (by omega), pre_nl B _ _ (by decide)]

theorem sign_nl (B l : Bs) : signLen (l ++ 32 :: B) = signLen l := by
  cases l with
  | nil =>
    show (if pointB 32 then 1 else if Lib.hasPrefix ([] ++ 32 :: B) [92, 60] then namedLen (32 :: B) else runLen signB ([] ++ 32 :: B)) = 0
    rw [point10, pre_nl B _ _ (by decide), run_nl signB sign10]
    rfl
  | cons c r =>
    show (if pointB c then 1 else if Lib.hasPrefix ((c :: r) ++ 32 :: B) [92, 60] then namedLen ((c :: r) ++ 32 :: B) else runLen signB ((c :: r) ++ 32 :: B)) = (if pointB c then 1 else if Lib.hasPrefix (c :: r) [92, 60] then namedLen (c :: r) else runLen signB (c :: r))
    rw [pre_nl B _ _ (by decide), run_nl signB sign10]
    split
    · rfl
    · split
      · rename_i h
        exact named_nl B (pre_len h)
      · rfl

theorem more_nl (B : Bs) : ∀ (n : Nat) (l : Bs), l.length ≤ n → moreLen (l ++ 32 :: B) = moreLen l
  | 0, l, h => by
    have : l = [] := List.length_eq_zero_iff.1 (Nat.le_zero.1 h)
    subst this
    rw [moreLen_step, pre_nl B _ _ (by decide)]
    rfl
  | n + 1, l, h => by
    rw [moreLen_step, moreLen_step l, pre_nl B _ _ (by decide)]
    by_cases hp : Lib.hasPrefix l [46] = true
    · have h1 : 1 ≤ l.length := pre_len hp
      have h2 := dot_lt hp
      rw [drop_nl h1, id_nl, drop_nl h2, more_nl B n _ (by rw [List.length_drop]; omega)]
    · rw [if_neg (fun h => hp h.1), if_neg (fun h => hp h.1)]

theorem long_nl (B l : Bs) : longLen (l ++ 32 :: B) = longLen l := by
  unfold longLen
  rw [id_nl, drop_nl (idLen_le l), more_nl B _ _ (Nat.le_refl _)]
theorem kind_nl (B l : Bs) : nameKind (l ++ 32 :: B) = nameKind l := by
  unfold nameKind
  rw [id_nl, long_nl]

theorem mark_nl (B l : Bs) : markOf (l ++ 32 :: B) = markOf l := by
  unfold markOf
  rw [pre_nl B _ _ (by decide), pre_nl B _ _ (by decide), pre_nl B _ _ (by decide)]
theorem mark_le {l : Bs} {kind : Int} {m : Nat} (h : markOf l = some (kind, m)) : m ≤ l.length := by
  unfold markOf at h
  split at h
  · rename_i hp; have := pre_len hp; cases h; exact this
  · split at h
    · rename_i hp; have := pre_len hp; cases h; exact this
    · split at h
      · rename_i hp; have := pre_len hp; cases h; exact this
      · cases h
theorem index_nl (B : Bs) (kind : Int) (l : Bs) : indexLen kind (l ++ 32 :: B) = indexLen kind l := by
  unfold indexLen
  rw [pre_nl B _ _ (by decide)]
  by_cases hp : Lib.hasPrefix l [46] = true
  · rw [drop_nl (show 1 ≤ l.length from pre_len hp), run_nl digB dig10]
  · rw [if_neg (fun h => hp h.2.1), if_neg (fun h => hp h.2.1)]
theorem var_nl (B l : Bs) : varLen (l ++ 32 :: B) = varLen l := by
  unfold varLen
  rw [mark_nl]
  cases hm : markOf l with
  | none => rfl
  | some x =>
    obtain ⟨kind, m⟩ := x
    have h1 := mark_le hm
    have h2 := idLen_le (l.drop m)
    rw [List.length_drop] at h2
    simp only
    rw [drop_nl h1, id_nl, drop_nl (by omega), index_nl]
theorem vkind_nl (B l : Bs) : varKind (l ++ 32 :: B) = varKind l := by
  unfold varKind
  rw [mark_nl]

theorem nestF_nl (B p q : Bs) (hp : (32 : UInt8) ∉ p) (hq : (32 : UInt8) ∉ q) : ∀ (f g : Nat) (l : Bs) (d : Int) (n : Nat), f ≤ g → nestF p q f l d = some n → nestF p q g (l ++ 32 :: B) d = some n
  | 0, _, _, _, _, _, h => by simp [nestF] at h
  | f + 1, 0, _, _, _, hg, _ => by omega
  | f + 1, g + 1, l, d, n, hg, h => by
    unfold nestF at h ⊢
    by_cases hl : l = []
    · rw [if_pos hl] at h; cases h
    · rw [if_neg hl] at h
      rw [if_neg (by simp), pre_nl B _ _ hp, pre_nl B _ _ hq]
      have l1 : 1 ≤ l.length := List.length_pos_iff.2 hl
      have step : ∀ (k : Nat) (e : Int) (m : Nat), k ≤ l.length → (nestF p q f (l.drop k) e).map (m + ·) = some n → (nestF p q g ((l ++ 32 :: B).drop k) e).map (m + ·) = some n := fun k e m hk hx => by
        obtain ⟨y, hy, hy2⟩ := Option.map_eq_some_iff.1 hx
        rw [drop_nl hk, nestF_nl B p q hp hq f g _ _ y (by omega) hy]
        exact congrArg some hy2
      by_cases h1 : Lib.hasPrefix l p = true
      · rw [if_pos h1] at h ⊢
        by_cases h2 : d + 1 = 0
        · rw [if_pos h2] at h ⊢; exact h
        · rw [if_neg h2] at h ⊢
          exact step _ _ _ (pre_len h1) h
      · rw [if_neg h1] at h ⊢
        by_cases h3 : Lib.hasPrefix l q = true
        · rw [if_pos h3] at h ⊢
          by_cases h2 : d - 1 = 0
          · rw [if_pos h2] at h ⊢; exact h
          · rw [if_neg h2] at h ⊢
            exact step _ _ _ (pre_len h3) h
        · rw [if_neg h3] at h ⊢
          by_cases h2 : d = 0
          · rw [if_pos h2] at h ⊢; exact h
          · rw [if_neg h2] at h ⊢
            exact step _ _ _ l1 h
theorem nest_nl (B p q : Bs) (hp : (32 : UInt8) ∉ p) (hq : (32 : UInt8) ∉ q) {l : Bs} {d : Int} {n : Nat} (h : nestL p q l d = some n) : nestL p q (l ++ 32 :: B) d = some n :=
  nestF_nl B p q hp hq _ _ _ _ _ (by simp) h

theorem strF_nl (X : Bs) : ∀ (f g : Nat) (l : Bs) (r : Bs × Nat), f ≤ g → strF f l = some r → strF g (l ++ X) = some r
  | 0, _, _, _, _, h => by cases h
  | f + 1, 0, _, _, hg, _ => by omega
  | _ + 1, _ + 1, [], _, _, h => by cases h
  | f + 1, g + 1, c :: r, x, hg, h => by
    rw [List.cons_append]
    simp only [strF] at h ⊢
    split at h
    · cases h
    · rename_i h1
      rw [if_neg h1]
      split at h
      · rename_i h2
        rw [if_pos h2]
        exact h
      · rename_i h2
        rw [if_neg h2]
        split at h
        · rename_i h3
          rw [if_pos h3]
          split at h
          · cases h
          · rename_i h4
            cases r with
            | nil => exact absurd rfl h4
            | cons a r' =>
              obtain ⟨y, hy, hy2⟩ := Option.map_eq_some_iff.1 h
              have e : escL ((a :: r') ++ X) = escL (a :: r') := rfl
              rw [e, if_neg h4]
              have := strF_nl X f g _ y (by omega) hy
              show Option.map _ (strF g (r' ++ X)) = _
              rw [show strF g (r' ++ X) = some y from this]
              exact congrArg some hy2
        · rename_i h3
          rw [if_neg h3]
          obtain ⟨y, hy, hy2⟩ := Option.map_eq_some_iff.1 h
          rw [strF_nl X f g _ y (by omega) hy]
          exact congrArg some hy2
theorem str_nl (X : Bs) {l : Bs} {r : Bs × Nat} (h : strL l = some r) : strL (l ++ X) = some r := strF_nl X _ _ _ _ (by simp) h

theorem shift_ok {n p : Nat} {o : BR} (h : o.shift n = .ok p) : ∃ m, o = .ok m ∧ p = n + m := by
  cases o with
  | ok m => cases h; exact ⟨m, rfl, rfl⟩
  | error m => cases h

/-- What stands between: a token follows. -/
theorem bet_nl (B : Bs) : ∀ (n : Nat) (l : Bs) (p : Nat), l.length ≤ n → betL l = .ok p → p < l.length → betL (l ++ 32 :: B) = .ok p
  | 0, l, p, hn, _, hp => by omega
  | n + 1, [], p, _, _, hp => by simp at hp
  | n + 1, c :: r, p, hn, h, hp => by
    simp only [List.length_cons] at hn hp
    rw [betL_cons] at h
    rw [List.cons_append, betL_cons]
    by_cases h1 : blankB c = true
    · rw [if_pos h1] at h ⊢
      obtain ⟨m, hm, rfl⟩ := shift_ok h
      rw [bet_nl B n r m (by omega) hm (by omega)]
      rfl
    · rw [if_neg h1] at h ⊢
      have e := pre_nl B [40, 42] (c :: r) (by decide)
      rw [List.cons_append] at e
      rw [e]
      by_cases h2 : Lib.hasPrefix (c :: r) [40, 42] = true
      · rw [if_pos h2] at h ⊢
        cases hk : nestL [40, 42] [42, 41] (c :: r) 0 with
        | none => rw [hk] at h; cases h
        | some k =>
          rw [hk] at h
          have hb := com_bounds h2 hk
          have := nest_nl B [40, 42] [42, 41] (by decide) (by decide) hk
          rw [List.cons_append] at this
          rw [this]
          simp only at h ⊢
          obtain ⟨m, hm, rfl⟩ := shift_ok h
          rw [← List.cons_append, drop_nl hb.2]
          simp only [List.length_cons] at hb
          rw [bet_nl B n _ m (by rw [List.length_drop, List.length_cons]; omega) hm (by rw [List.length_drop, List.length_cons]; omega)]
          rfl
      · rw [if_neg h2] at h ⊢
        exact h
/-- What stands between: nothing follows. -/
theorem bet_end (B : Bs) : ∀ (n : Nat) (l : Bs), l.length ≤ n → betL l = .ok l.length → betL (l ++ 32 :: B) = (betL B).shift (l.length + 1)
  | n, [], _, _ => by
    rw [List.nil_append, betL_cons, if_pos blank10]
    rfl
  | 0, c :: r, hn, _ => by simp at hn
  | n + 1, c :: r, hn, h => by
    simp only [List.length_cons] at hn h
    rw [betL_cons] at h
    rw [List.cons_append, betL_cons]
    by_cases h1 : blankB c = true
    · rw [if_pos h1] at h ⊢
      obtain ⟨m, hm, hm2⟩ := shift_ok h
      obtain rfl : m = r.length := by omega
      rw [bet_end B n r (by omega) hm, shift_shift, List.length_cons]
      congr 1
      omega
    · rw [if_neg h1] at h ⊢
      have e := pre_nl B [40, 42] (c :: r) (by decide)
      rw [List.cons_append] at e
      rw [e]
      by_cases h2 : Lib.hasPrefix (c :: r) [40, 42] = true
      · rw [if_pos h2] at h ⊢
        cases hk : nestL [40, 42] [42, 41] (c :: r) 0 with
        | none => rw [hk] at h; cases h
        | some k =>
          rw [hk] at h
          have hb := com_bounds h2 hk
          have := nest_nl B [40, 42] [42, 41] (by decide) (by decide) hk
          rw [List.cons_append] at this
          rw [this]
          simp only at h ⊢
          obtain ⟨m, hm, hm2⟩ := shift_ok h
          rw [← List.cons_append, drop_nl hb.2]
          simp only [List.length_cons] at hb
          have hl : ((c :: r).drop k).length = m := by rw [List.length_drop, List.length_cons]; omega
          rw [bet_end B n _ (by omega) (by rw [hl]; exact hm), shift_shift, hl, List.length_cons]
          congr 1
          omega
      · rw [if_neg h2] at h
        cases h
theorem ext_of {S A : ByteArray} {a b c d : Nat} (h : (S.data.toList.drop a).take (b - a) = (A.data.toList.drop c).take (d - c)) : S.extract a b = A.extract c d := by
  rw [Lib.extract_eq, Lib.extract_eq, h]

/-- S is A, a line feed, B. -/
structure Glue (S A B : ByteArray) : Prop where
  eq : S.data.toList = A.data.toList ++ 32 :: B.data.toList
theorem Glue.size {S A B : ByteArray} (h : Glue S A B) : S.size = A.size + 1 + B.size := by
  rw [Lib.size_eq, h.eq, List.length_append, List.length_cons, Lib.size_eq, Lib.size_eq]
  omega
theorem Glue.left {S A B : ByteArray} (h : Glue S A B) {k : Nat} (hk : k ≤ A.size) : from' S k = from' A k ++ 32 :: B.data.toList := by
  unfold from'
  rw [h.eq, drop_nl (by rw [← Lib.size_eq]; exact hk)]
theorem Glue.right {S A B : ByteArray} (h : Glue S A B) (k : Nat) : from' S (A.size + 1 + k) = from' B k := by
  unfold from'
  rw [h.eq, ← List.drop_drop]
  congr 1
  rw [show A.data.toList ++ 32 :: B.data.toList = (A.data.toList ++ [32]) ++ B.data.toList by simp]
  exact List.drop_left' (by rw [List.length_append, ← Lib.size_eq]; rfl)
theorem Glue.ext {S A B : ByteArray} (h : Glue S A B) {a b : Nat} (hb : b ≤ A.size) : S.extract a b = A.extract a b := by
  by_cases hab : a ≤ b
  · refine ext_of ?_
    have := h.left (k := a) (by omega)
    unfold from' at this
    rw [this]
    exact List.take_append_of_le_length (by rw [List.length_drop, ← Lib.size_eq]; omega)
  · refine ext_of ?_
    rw [show b - a = 0 by omega]
    rfl
theorem Glue.ext_right {S A B : ByteArray} (h : Glue S A B) (a b : Nat) : S.extract (A.size + 1 + a) (A.size + 1 + b) = B.extract a b := by
  refine ext_of ?_
  have := h.right a
  unfold from' at this
  rw [this, show A.size + 1 + b - (A.size + 1 + a) = b - a by omega]

/-! ### ahead of the line feed -/
theorem cd_left {S A B : ByteArray} (h : Glue S A B) {k n : Nat} (kind : Int) (hn : k + n ≤ A.size) : cd S k kind n = cd A k kind n := by
  unfold cd candTok
  rw [h.ext hn]
theorem kw_left {S A B : ByteArray} (h : Glue S A B) (K : ByteArray → Bool) {k : Nat} (hk : k ≤ A.size) : kwLen K S k = kwLen K A k := by
  have h1 := idLen_le (from' A k)
  have h2 := signLen_le (from' A k)
  rw [from_len] at h1 h2
  unfold kwLen
  rw [h.left hk, id_nl, sign_nl, h.ext (by omega), h.ext (by omega)]
theorem quote_left {S A B : ByteArray} (h : Glue S A B) {k : Nat} (hk : k ≤ A.size) {c : Cd} (hc : quoteO A k = some c) : quoteO S k = some c := by
  unfold quoteO at hc ⊢
  rw [h.left hk, pre_nl _ _ _ (by decide)]
  by_cases hp : Lib.hasPrefix (from' A k) openL = true
  · rw [if_pos hp] at hc ⊢
    cases hn : nestL openL closeL (from' A k) 0 with
    | none => rw [hn] at hc; cases hc
    | some n =>
      rw [hn] at hc
      have hb := nest_from openL closeL (by decide) (by decide) hp hn
      rw [from_len] at hb
      rw [nest_nl _ openL closeL (by decide) (by decide) hn]
      simp only at hc ⊢
      rw [h.ext (by omega)]
      exact hc
  · rw [if_neg hp] at hc ⊢
    exact hc
theorem str_left {S A B : ByteArray} (h : Glue S A B) {k : Nat} (hk : k < A.size) {c : Cd} (hc : strO A k = some c) : strO S k = some c := by
  unfold strO at hc ⊢
  have e : (from' S k).head? = (from' A k).head? := by
    rw [h.left (Nat.le_of_lt hk), from_cons hk]
    rfl
  rw [e, h.left (k := k + 1) hk]
  by_cases hp : (from' A k).head? = some 34
  · rw [if_pos hp] at hc ⊢
    cases hn : strL (from' A (k + 1)) with
    | none => rw [hn] at hc; cases hc
    | some r =>
      rw [hn] at hc
      rw [str_nl _ hn]
      exact hc
  · rw [if_neg hp] at hc ⊢
    exact hc
theorem pickO_inv {a b : Option Cd} {c : Cd} (h : pickO a b = some c) : (∃ x, a = some x) ∧ ∃ y, b = some y := by
  cases a with
  | none => cases h
  | some x =>
    cases b with
    | none => cases h
    | some y => exact ⟨⟨x, rfl⟩, ⟨y, rfl⟩⟩
theorem next_left {S A B : ByteArray} (h : Glue S A B) (K : ByteArray → Bool) {k : Nat} (hk : k < A.size) {c : Cd} (hc : nextO K A k = some c) : nextO K S k = some c := by
  have hk' := Nat.le_of_lt hk
  have hl := from_len A k
  have h1 := kwLen_le K A k
  have h2 := longLen_le (from' A k)
  have h3 := varLen_le (from' A k)
  have h4 := runLen_le digB (from' A k)
  have h5 := signLen_le (from' A k)
  obtain ⟨⟨x, hx⟩, ⟨y6, hy6⟩⟩ := pickO_inv hc
  obtain ⟨_, ⟨y5, hy5⟩⟩ := pickO_inv hx
  have q5 := quote_left h hk' (show quoteO A k = some y5 from hy5)
  have q6 := str_left h hk (show strO A k = some y6 from hy6)
  unfold nextO at hc ⊢
  rw [q5, q6, kw_left h K hk', cd_left h 10 (by omega), h.left hk', kind_nl, long_nl, vkind_nl, var_nl, run_nl digB dig10, sign_nl, cd_left h _ (by omega), cd_left h _ (by omega), cd_left h _ (by omega), cd_left h _ (by omega)]
  rw [show quoteO A k = some y5 from hy5, show strO A k = some y6 from hy6] at hc
  exact hc
theorem betAt_left {S A B : ByteArray} (h : Glue S A B) {k p : Nat} (hk : k ≤ A.size) (hp : betAt A k = .ok p) (hlt : p < A.size) : betAt S k = .ok p := by
  unfold betAt at hp ⊢
  obtain ⟨m, hm, rfl⟩ := shift_ok hp
  rw [h.left hk, bet_nl _ _ _ m (Nat.le_refl _) hm (by rw [from_len]; omega)]
  rfl
theorem betAt_glue {S A B : ByteArray} (h : Glue S A B) {k : Nat} (hk : k ≤ A.size) (hp : betAt A k = .ok A.size) : betAt S k = betAt S (A.size + 1) := by
  unfold betAt at hp ⊢
  obtain ⟨m, hm, hm2⟩ := shift_ok hp
  have hl := from_len A k
  obtain rfl : m = (from' A k).length := by omega
  have e := h.right 0
  rw [Nat.add_zero] at e
  rw [h.left hk, bet_end _ _ _ (Nat.le_refl _) hm, shift_shift, e]
  unfold from'
  rw [List.drop_zero]
  congr 1
  unfold from' at hl
  omega

/-! ### behind it -/
def shC (m : Nat) (c : Cd) : Cd := (c.1, c.2.1, m + c.2.2)
theorem cd_right {S A B : ByteArray} (h : Glue S A B) (k n : Nat) (kind : Int) : cd S (A.size + 1 + k) kind n = shC (A.size + 1) (cd B k kind n) := by
  unfold cd candTok shC
  rw [show A.size + 1 + k + n = A.size + 1 + (k + n) by omega, h.ext_right]
theorem kw_right {S A B : ByteArray} (h : Glue S A B) (K : ByteArray → Bool) (k : Nat) : kwLen K S (A.size + 1 + k) = kwLen K B k := by
  unfold kwLen
  rw [h.right, show A.size + 1 + k + idLen (from' B k) = A.size + 1 + (k + idLen (from' B k)) by omega, show A.size + 1 + k + signLen (from' B k) = A.size + 1 + (k + signLen (from' B k)) by omega, h.ext_right, h.ext_right]
theorem quote_right {S A B : ByteArray} (h : Glue S A B) (k : Nat) : quoteO S (A.size + 1 + k) = (quoteO B k).map (shC (A.size + 1)) := by
  unfold quoteO
  rw [h.right]
  by_cases hp : Lib.hasPrefix (from' B k) openL = true
  · rw [if_pos hp, if_pos hp]
    cases hn : nestL openL closeL (from' B k) 0 with
    | none => rfl
    | some n =>
      have hb := (nest_from openL closeL (by decide) (by decide) hp hn).1
      have h8 : openL.length + closeL.length = 15 := rfl
      show some _ = some (shC _ _)
      unfold shC
      simp only
      rw [show A.size + 1 + k + 7 = A.size + 1 + (k + 7) by omega, show A.size + 1 + k + n - 8 = A.size + 1 + (k + n - 8) by omega, h.ext_right, show A.size + 1 + k + n = A.size + 1 + (k + n) by omega]
  · rw [if_neg hp, if_neg hp]
    rfl
theorem str_right {S A B : ByteArray} (h : Glue S A B) (k : Nat) : strO S (A.size + 1 + k) = (strO B k).map (shC (A.size + 1)) := by
  unfold strO
  rw [h.right, show A.size + 1 + k + 1 = A.size + 1 + (k + 1) by omega, h.right]
  by_cases hp : (from' B k).head? = some 34
  · rw [if_pos hp, if_pos hp]
    cases hn : strL (from' B (k + 1)) with
    | none => rfl
    | some r =>
      show some _ = some (shC _ _)
      unfold shC
      simp only
      rw [show A.size + 1 + (k + 1) + r.2 = A.size + 1 + (k + 1 + r.2) by omega]
  · rw [if_neg hp, if_neg hp]
    rfl
theorem pick_sh (m : Nat) (a b : Option Cd) : pickO (a.map (shC m)) (b.map (shC m)) = (pickO a b).map (shC m) := by
  cases a with
  | none => rfl
  | some x =>
    cases b with
    | none => rfl
    | some y =>
      show some (if m + x.2.2 < m + y.2.2 then shC m y else shC m x) = some (shC m (if x.2.2 < y.2.2 then y else x))
      by_cases hlt : x.2.2 < y.2.2
      · rw [if_pos hlt, if_pos (by omega)]
      · rw [if_neg hlt, if_neg (by omega)]
theorem best_sh (m k : Nat) (C D : Nat → Option Cd) (h : ∀ j, D j = (C j).map (shC m)) : ∀ j, bestO D (m + k) j = (bestO C k j).map (shC m)
  | 0 => rfl
  | j + 1 => by
    show pickO (bestO D (m + k) j) (D j) = _
    rw [best_sh m k C D h j, h j, pick_sh]
    rfl
theorem next_right {S A B : ByteArray} (h : Glue S A B) (K : ByteArray → Bool) (k : Nat) : nextO K S (A.size + 1 + k) = (nextO K B k).map (shC (A.size + 1)) := by
  unfold nextO
  refine best_sh (A.size + 1) k _ _ (fun j => ?_) 7
  rw [kw_right h, h.right]
  match j with
  | 0 => exact congrArg some (cd_right h _ _ _)
  | 1 => exact congrArg some (cd_right h _ _ _)
  | 2 => exact congrArg some (cd_right h _ _ _)
  | 3 => exact congrArg some (cd_right h _ _ _)
  | 4 => exact congrArg some (cd_right h _ _ _)
  | 5 => exact quote_right h k
  | j + 6 => exact str_right h k
theorem betAt_right {S A B : ByteArray} (h : Glue S A B) (k : Nat) : betAt S (A.size + 1 + k) = (betAt B k).shift (A.size + 1) := by
  unfold betAt
  rw [h.right, shift_shift]

/-- Tokens and a fault, moved. -/
def shT (m : Nat) (x : Tk) : Tk := (x.1, x.2.1, m + x.2.2)
def shR (m : Nat) (r : SR) : SR := (r.1.map (shT m), r.2.map fun x => (m + x.1, x.2))
theorem scan_right {S A B : ByteArray} (h : Glue S A B) (K : ByteArray → Bool) : ∀ (f k : Nat), scanF K S f (A.size + 1 + k) = shR (A.size + 1) (scanF K B f k)
  | 0, _ => rfl
  | f + 1, k => by
    have hb := betAt_right h k
    have hs := h.size
    cases hp : betAt B k with
    | error n =>
      rw [hp] at hb
      rw [scanF_err hb, scanF_err hp]
      rfl
    | ok p =>
      rw [hp] at hb
      rw [scanF_ok hb, scanF_ok hp]
      by_cases h1 : B.size ≤ p
      · rw [headOf_end h1, headOf_end (by omega)]
        rfl
      · have hn := next_right h K p
        cases hc : nextO K B p with
        | none =>
          rw [hc] at hn
          rw [headOf_none (by omega) hc, headOf_none (by omega) hn]
          rfl
        | some c =>
          rw [hc] at hn
          by_cases h2 : c.2.2 = p
          · rw [headOf_byte (by omega) hc h2, headOf_byte (by omega) hn (by show A.size + 1 + c.2.2 = _; rw [h2])]
            rfl
          · rw [headOf_some (by omega) hc h2, headOf_some (by omega) hn (by show A.size + 1 + c.2.2 ≠ _; omega)]
            show SR.cons _ (scanF K S f (A.size + 1 + c.2.2)) = _
            rw [scan_right h K f c.2.2]
            rfl

theorem scanF_enough (K : ByteArray → Bool) (T : ByteArray) : ∀ (f g k : Nat), k ≤ T.size → T.size < f + k → T.size < g + k → scanF K T f k = scanF K T g k
  | 0, _, k, h, h1, _ => by omega
  | f + 1, 0, k, h, _, h2 => by omega
  | f + 1, g + 1, k, h, h1, h2 => by
    cases hp : betAt T k with
    | error n => rw [scanF_err hp, scanF_err hp]
    | ok p =>
      rw [scanF_ok hp, scanF_ok hp]
      have hb := betAt_le h hp
      by_cases h3 : T.size ≤ p
      · rw [headOf_end h3, headOf_end h3]
      · cases hc : nextO K T p with
        | none => rw [headOf_none (by omega) hc, headOf_none (by omega) hc]
        | some c =>
          have hn := nextO_le (by omega) hc
          by_cases h4 : c.2.2 = p
          · rw [headOf_byte (by omega) hc h4, headOf_byte (by omega) hc h4]
          · rw [headOf_some (by omega) hc h4, headOf_some (by omega) hc h4, scanF_enough K T f g c.2.2 hn.2 (by omega) (by omega)]

theorem cons_inv {x : Tk} {r : SR} {xs : List Tk} (h : SR.cons x r = (xs, none)) : ∃ ys, xs = x :: ys ∧ r = (ys, none) := by
  obtain ⟨ys, o⟩ := r
  unfold SR.cons at h
  obtain ⟨rfl, h2⟩ := Prod.mk.inj h
  exact ⟨ys, rfl, by rw [← h2]⟩

theorem scan_left {S A B : ByteArray} (h : Glue S A B) (K : ByteArray → Bool) : ∀ (f g k : Nat) (xs : List Tk), k ≤ A.size → A.size < f + k → S.size < g + k → scanF K A f k = (xs, none) → scanF K S g k = SR.pre xs (scanF K S (S.size + 1) (A.size + 1))
  | 0, _, k, _, hk, hf, _, _ => by omega
  | f + 1, 0, k, _, hk, _, hg, _ => by have := h.size; omega
  | f + 1, g + 1, k, xs, hk, hf, hg, hx => by
    have hs := h.size
    cases hp : betAt A k with
    | error n => rw [scanF_err hp] at hx; cases hx
    | ok p =>
      rw [scanF_ok hp] at hx
      have hb := betAt_le hk hp
      by_cases h3 : A.size ≤ p
      · rw [headOf_end h3] at hx
        obtain rfl : xs = [] := by cases hx; rfl
        obtain rfl : p = A.size := by omega
        have he := betAt_glue h hk hp
        have e1 : scanF K S (g + 1) k = scanF K S (g + 1) (A.size + 1) := by
          cases hq : betAt S (A.size + 1) with
          | error n => rw [scanF_err (he.trans hq), scanF_err hq]
          | ok q => rw [scanF_ok (he.trans hq), scanF_ok hq]
        rw [e1, scanF_enough K S (g + 1) (S.size + 1) (A.size + 1) (by omega) (by omega) (by omega)]
        rfl
      · have hS := betAt_left h hk hp (by omega)
        cases hc : nextO K A p with
        | none => rw [headOf_none (by omega) hc] at hx; cases hx
        | some c =>
          have hn := nextO_le (by omega) hc
          by_cases h4 : c.2.2 = p
          · rw [headOf_byte (by omega) hc h4] at hx; cases hx
          · rw [headOf_some (by omega) hc h4] at hx
            obtain ⟨ys, rfl, hy⟩ := cons_inv hx
            have hq := next_left h K (by omega) hc
            rw [scanF_ok hS, headOf_some (by omega) hq h4, scan_left h K f g c.2.2 ys hn.2 (by omega) (by omega) hy]
            rfl

/-- The tokens of both. -/
theorem scan_glue {S A B : ByteArray} (h : Glue S A B) (K : ByteArray → Bool) {xs : List Tk} (hx : scanR K A = (xs, none)) : scanR K S = SR.pre xs (shR (A.size + 1) (scanR K B)) := by
  have hs := h.size
  unfold scanR at hx ⊢
  rw [scan_left h K _ _ 0 xs (by omega) (by omega) (by omega) hx]
  have := scan_right h K (S.size + 1) 0
  rw [Nat.add_zero] at this
  rw [this, scanF_enough K B (S.size + 1) (B.size + 1) 0 (by omega) (by omega) (by omega)]
end Go.Proofs.YtdkagjbedinhjaaGreat.Sp
end

section
namespace Go.Proofs.YtdkagjbedinhjaaGreat
open Go.RowKit

theorem run_far (p : UInt8 → Bool) (l : Bs) (m : Nat) (h : runLen p (l.take m) + 1 ≤ m) : runLen p l ≤ m := by
  rw [run_take] at h
  omega
theorem id_far (l : Bs) (m : Nat) (h : idLen (l.take m) + 1 ≤ m) : idLen l = idLen (l.take m) := by
  rw [id_take] at h ⊢
  omega
theorem pre_far (l q : Bs) (m : Nat) (h : q.length ≤ m) : Lib.hasPrefix (l.take m) q = Lib.hasPrefix l q := by
  rw [pre_take, decide_eq_true h, Bool.and_true]

theorem sign_far {l : Bs} {m : Nat} (hm : 3 ≤ m) (h : signLen (l.take m) + 1 ≤ m) (hn : ¬ (Lib.hasPrefix l [92, 60] = true ∧ m ≤ 2 + idLen (l.drop 2))) : signLen l ≤ m := by
  cases l with
  | nil => exact Nat.zero_le _
  | cons c r =>
    have hp := pre_far (c :: r) [92, 60] m (by simp; omega)
    have hr := run_take signB (c :: r) m
    obtain ⟨j, rfl⟩ : ∃ j, m = j + 1 := ⟨m - 1, by omega⟩
    have e1 : signLen (c :: r) = (if pointB c then 1 else if Lib.hasPrefix (c :: r) [92, 60] then namedLen (c :: r) else runLen signB (c :: r)) := rfl
    rw [List.take_succ_cons] at hp hr h
    have e2 : signLen (c :: r.take j) = (if pointB c then 1 else if Lib.hasPrefix (c :: r.take j) [92, 60] then namedLen (c :: r.take j) else runLen signB (c :: r.take j)) := rfl
    rw [e2] at h
    rw [e1]
    split
    · omega
    · rename_i h1
      rw [if_neg h1] at h
      rw [hp] at h
      split
      · rename_i h2
        have h3 : ¬ j + 1 ≤ 2 + idLen ((c :: r).drop 2) := fun h3 => hn ⟨h2, h3⟩
        unfold namedLen
        split <;> omega
      · rename_i h2
        rw [if_neg h2, hr] at h
        omega

theorem more_far : ∀ (N : Nat) (l : Bs) (m : Nat), l.length ≤ N → moreLen (l.take m) + 2 ≤ m → moreLen l = moreLen (l.take m)
  | 0, l, m, hN, _ => by
    have : l = [] := List.length_eq_zero_iff.1 (Nat.le_zero.1 hN)
    subst this
    rw [List.take_nil]
  | N + 1, l, m, hN, h => by
    rw [moreLen_step] at h
    rw [moreLen_step, moreLen_step (l.take m)]
    rw [pre_far _ _ _ (show ([46] : Bs).length ≤ m by simp; omega), List.drop_take, id_take, List.drop_take] at h ⊢
    by_cases hA : Lib.hasPrefix l [46] = true ∧ 0 < idLen (l.drop 1)
    · rw [if_pos ⟨hA.1, by omega⟩] at h
      have hl := dot_lt hA.1
      have hmin : min (idLen (l.drop 1)) (m - 1) = idLen (l.drop 1) := by omega
      rw [hmin] at h ⊢
      rw [if_pos hA, if_pos hA, more_far N (l.drop (1 + idLen (l.drop 1))) (m - (1 + idLen (l.drop 1))) (by rw [List.length_drop]; omega) (by omega)]
    · rw [if_neg hA, if_neg (fun hB => hA ⟨hB.1, by have := hB.2; omega⟩)]
theorem long_far {l : Bs} {m : Nat} (h : longLen (l.take m) + 2 ≤ m) : longLen l ≤ m := by
  unfold longLen at h ⊢
  rw [id_take] at h
  by_cases hi : 0 < idLen l
  · rw [if_pos (by omega)] at h
    have hmin : min (idLen l) m = idLen l := by omega
    rw [hmin, List.drop_take] at h
    rw [if_pos hi, more_far _ _ (m - idLen l) (Nat.le_refl _) (by omega)]
    omega
  · rw [if_neg hi]
    omega
theorem index_far {kind : Int} {l : Bs} {m : Nat} (h : indexLen kind (l.take m) + 2 ≤ m) : indexLen kind l ≤ m := by
  unfold indexLen at h ⊢
  rw [pre_far _ _ _ (show ([46] : Bs).length ≤ m by simp; omega), List.drop_take, run_take] at h
  by_cases hA : kind ≠ 3 ∧ Lib.hasPrefix l [46] = true ∧ 0 < runLen digB (l.drop 1)
  · rw [if_pos ⟨hA.1, hA.2.1, by omega⟩] at h
    rw [if_pos hA]
    omega
  · rw [if_neg hA]
    omega
theorem var_far {l : Bs} {m : Nat} (hm : 3 ≤ m) (h : varLen (l.take m) + 2 ≤ m) : varLen l ≤ m := by
  have e : ∀ l, varLen l = varFrom (markOf l) l := fun l => rfl
  rw [e, mark_take l m (by omega)] at h
  rw [e]
  cases hk : markOf l with
  | none => exact Nat.zero_le _
  | some y =>
    obtain ⟨kind, k⟩ := y
    have hk2 : k ≤ 2 := by
      unfold markOf at hk
      split at hk
      · cases hk; decide
      · split at hk
        · cases hk; decide
        · split at hk
          · cases hk; decide
          · cases hk
    rw [hk] at h
    unfold varFrom at h ⊢
    simp only at h ⊢
    rw [List.drop_take, id_take, List.drop_take] at h
    by_cases hi : 0 < idLen (l.drop k)
    · rw [if_pos (by omega)] at h
      have hmin : min (idLen (l.drop k)) (m - k) = idLen (l.drop k) := by omega
      rw [hmin] at h
      have := index_far (kind := kind) (l := l.drop (k + idLen (l.drop k))) (m := m - (k + idLen (l.drop k))) (by omega)
      rw [if_pos hi]
      omega
    · rw [if_neg hi]
      omega

theorem pre_app (X l q : Bs) (h : q.length ≤ l.length) : Lib.hasPrefix (l ++ X) q = Lib.hasPrefix l q := by
  have := pre_far (l ++ X) q l.length h
  rw [List.take_left] at this
  exact this.symm
theorem nestF_app (p q X : Bs) (hpq : p.length ≤ q.length) (hq : 1 ≤ q.length) : ∀ (f g : Nat) (l : Bs) (d : Int) (n : Nat), f ≤ g → 1 ≤ d → nestF p q f l d = some n → nestF p q g (l ++ X) d = some n
  | 0, _, _, _, _, _, _, h => by simp [nestF] at h
  | f + 1, 0, _, _, _, hg, _, _ => by omega
  | f + 1, g + 1, l, d, n, hg, hd, h => by
    have hb := nest_bounds p q _ _ _ _ hd h
    unfold nestF at h ⊢
    by_cases hl : l = []
    · rw [if_pos hl] at h; cases h
    · rw [if_neg hl] at h
      rw [if_neg (by simp [hl]), pre_app X l p (by omega), pre_app X l q (by omega)]
      have l1 : 1 ≤ l.length := List.length_pos_iff.2 hl
      have step : ∀ (k : Nat) (e : Int) (m : Nat), k ≤ l.length → 1 ≤ e → (nestF p q f (l.drop k) e).map (m + ·) = some n → (nestF p q g ((l ++ X).drop k) e).map (m + ·) = some n := fun k e m hk he hx => by
        obtain ⟨y, hy, hy2⟩ := Option.map_eq_some_iff.1 hx
        rw [List.drop_append_of_le_length hk, nestF_app p q X hpq hq f g _ _ y (by omega) he hy]
        exact congrArg some hy2
      by_cases h1 : Lib.hasPrefix l p = true
      · rw [if_pos h1] at h ⊢
        rw [if_neg (by omega)] at h ⊢
        exact step _ _ _ (pre_len h1) (by omega) h
      · rw [if_neg h1] at h ⊢
        by_cases h3 : Lib.hasPrefix l q = true
        · rw [if_pos h3] at h ⊢
          by_cases h2 : d - 1 = 0
          · rw [if_pos h2] at h ⊢; exact h
          · rw [if_neg h2] at h ⊢
            exact step _ _ _ (pre_len h3) (by omega) h
        · rw [if_neg h3] at h ⊢
          rw [if_neg (by omega)] at h ⊢
          exact step _ _ _ l1 hd h
theorem nest_app (p q X : Bs) (hp0 : p ≠ []) (hpq : p.length ≤ q.length) (hq : 1 ≤ q.length) {l : Bs} {n : Nat} (hp : Lib.hasPrefix l p = true) (h : nestL p q l 0 = some n) : nestL p q (l ++ X) 0 = some n := by
  have p1 : 1 ≤ p.length := List.length_pos_iff.2 hp0
  have hpl := pre_len hp
  have hl : l ≠ [] := fun e => by subst e; have h0 : p.length ≤ 0 := hpl; omega
  have hq0 : q ≠ [] := fun e => by subst e; simp at hq
  rw [nestL_step p q hp0 hq0 hl, if_pos hp, if_neg (by decide)] at h
  rw [nestL_step p q hp0 hq0 (by simp [hl]), pre_app X l p hpl, if_pos hp, if_neg (by decide)]
  obtain ⟨y, hy, hy2⟩ := Option.map_eq_some_iff.1 h
  rw [List.drop_append_of_le_length hpl]
  rw [show nestL p q (l.drop p.length ++ X) (0 + 1) = some y from nestF_app p q X hpq hq _ _ _ _ _ (by simp) (by decide) hy]
  exact congrArg some hy2

theorem bet_app (X : Bs) : ∀ (n : Nat) (l : Bs) (p : Nat), l.length ≤ n → betL l = .ok p → p + 2 ≤ l.length → betL (l ++ X) = .ok p
  | 0, l, p, hn, _, hp => by omega
  | n + 1, [], p, _, _, hp => by simp at hp
  | n + 1, c :: r, p, hn, h, hp => by
    simp only [List.length_cons] at hn hp
    rw [betL_cons] at h
    rw [List.cons_append, betL_cons]
    by_cases h1 : blankB c = true
    · rw [if_pos h1] at h ⊢
      obtain ⟨m, hm, rfl⟩ := shift_ok h
      rw [bet_app X n r m (by omega) hm (by omega)]
      rfl
    · rw [if_neg h1] at h ⊢
      have e := pre_app X (c :: r) [40, 42] (by simp; omega)
      rw [List.cons_append] at e
      rw [e]
      by_cases h2 : Lib.hasPrefix (c :: r) [40, 42] = true
      · rw [if_pos h2] at h ⊢
        cases hk : nestL [40, 42] [42, 41] (c :: r) 0 with
        | none => rw [hk] at h; cases h
        | some k =>
          rw [hk] at h
          have hb := com_bounds h2 hk
          have := nest_app [40, 42] [42, 41] X (by decide) (by decide) (by decide) h2 hk
          rw [List.cons_append] at this
          rw [this]
          simp only at h ⊢
          obtain ⟨m, hm, rfl⟩ := shift_ok h
          rw [← List.cons_append, List.drop_append_of_le_length hb.2]
          simp only [List.length_cons] at hb
          rw [bet_app X n _ m (by rw [List.length_drop, List.length_cons]; omega) hm (by rw [List.length_drop, List.length_cons]; omega)]
          rfl
      · rw [if_neg h2] at h ⊢
        exact h
end Go.Proofs.YtdkagjbedinhjaaGreat
end

section
namespace Go.Proofs.YtdkagjbedinhjaaGreat
open Go.RowKit

/-- S begins with A. -/
structure App (S A : ByteArray) (B : Bs) : Prop where
  eq : S.data.toList = A.data.toList ++ B
theorem App.size {S A : ByteArray} {B : Bs} (h : App S A B) : S.size = A.size + B.length := by
  rw [Lib.size_eq, h.eq, List.length_append, Lib.size_eq]
theorem App.left {S A : ByteArray} {B : Bs} (h : App S A B) {k : Nat} (hk : k ≤ A.size) : from' S k = from' A k ++ B := by
  unfold from'
  rw [h.eq, List.drop_append_of_le_length (by rw [← Lib.size_eq]; exact hk)]
theorem App.take {S A : ByteArray} {B : Bs} (h : App S A B) {k : Nat} (hk : k ≤ A.size) : from' A k = (from' S k).take (A.size - k) := by
  rw [h.left hk, List.take_append_of_le_length (by rw [from_len]; exact Nat.le_refl _), List.take_of_length_le (by rw [from_len]; exact Nat.le_refl _)]
theorem App.ext {S A : ByteArray} {B : Bs} (h : App S A B) {a b : Nat} (hb : b ≤ A.size) : S.extract a b = A.extract a b := by
  by_cases hab : a ≤ b
  · refine ext_of ?_
    have := h.left (k := a) (by omega)
    unfold from' at this
    rw [this]
    exact List.take_append_of_le_length (by rw [List.length_drop, ← Lib.size_eq]; omega)
  · refine ext_of ?_
    rw [show b - a = 0 by omega]
    rfl
theorem cd_app {S A : ByteArray} {B : Bs} (h : App S A B) {k n : Nat} (kind kind' : Int) (hn : k + n ≤ A.size) (hk : 0 < n → kind' = kind) : cd S k kind n = cd A k kind' n := by
  unfold cd candTok
  by_cases h0 : 0 < n
  · rw [if_pos h0, if_pos h0, h.ext hn, hk h0]
  · rw [if_neg h0, if_neg h0]

/-- Where a text ends in a half of a named symbol no token begins. -/
theorem half_none {K : ByteArray → Bool} {A : ByteArray} {k : Nat} (hk : k < A.size) {c : Cd} (hc : nextO K A k = some c) {l : Bs} (hl : from' A k = l.take (A.size - k)) (hm : 3 ≤ A.size - k) (hp : Lib.hasPrefix l [92, 60] = true) (hi : A.size - k ≤ 2 + idLen (l.drop 2)) : c.2.2 = k := by
  obtain ⟨t, ht⟩ := List.isPrefixOf_iff_prefix.1 hp
  obtain ⟨j, hj⟩ : ∃ j, A.size - k = j + 3 := ⟨A.size - k - 3, by omega⟩
  have hl2 : from' A k = 92 :: 60 :: (l.drop 2).take (j + 1) := by
    rw [hl, ← ht, hj]
    rfl
  have hdl : (l.drop 2).length = (l.drop 2).length := rfl
  have hid := id_take (l.drop 2) (j + 1)
  rw [Nat.min_eq_right (by omega)] at hid
  have hlen : ((l.drop 2).take (j + 1)).length = j + 1 := by
    have := from_len A k
    rw [hl2] at this
    simp only [List.length_cons] at this
    omega
  have e1 : idLen (from' A k) = 0 := by rw [hl2]; rfl
  have e2 : signLen (from' A k) = 0 := by
    rw [hl2]
    show (if pointB 92 then 1 else if Lib.hasPrefix (92 :: 60 :: (l.drop 2).take (j + 1)) [92, 60] then namedLen (92 :: 60 :: (l.drop 2).take (j + 1)) else runLen signB (92 :: 60 :: (l.drop 2).take (j + 1))) = 0
    rw [if_neg (by decide), if_pos (by simp [Lib.hasPrefix, List.isPrefixOf])]
    unfold namedLen
    rw [show (92 :: 60 :: (l.drop 2).take (j + 1)).drop 2 = (l.drop 2).take (j + 1) from rfl, hid]
    have hz : (92 :: 60 :: (l.drop 2).take (j + 1)).drop (2 + (j + 1)) = [] := List.drop_eq_nil_of_le (by simp only [List.length_cons]; omega)
    rw [hz, if_neg (fun h => by cases h.2)]
  have e3 : longLen (from' A k) = 0 := by unfold longLen; rw [e1]; rfl
  have e4 : varLen (from' A k) = 0 := by
    unfold varLen
    have : markOf (from' A k) = none := by
      rw [hl2]
      rfl
    rw [this]
  have e5 : runLen digB (from' A k) = 0 := by rw [hl2]; rfl
  have e6 : kwLen K A k = 0 := by unfold kwLen; rw [e1, e2]; split <;> rfl
  have q5 : quoteO A k = some (0, ⟨#[]⟩, k) := by
    unfold quoteO
    rw [if_neg]
    intro ho
    obtain ⟨t', ht'⟩ := List.isPrefixOf_iff_prefix.1 ho
    have h3 : (l.drop 2).take (j + 1) = [111, 112, 101, 110, 62] ++ t' := by
      rw [hl2] at ht'
      have := congrArg (List.drop 2) ht'
      exact this.symm
    rw [h3] at hid hlen
    have h4 : idLen ([111, 112, 101, 110, 62] ++ t') = 4 := rfl
    rw [h4] at hid
    simp at hlen
    omega
  have q6 : strO A k = some (0, ⟨#[]⟩, k) := by
    unfold strO
    rw [hl2]
    rfl
  have hz : ∀ kind, (cd A k kind 0).2.2 = k := fun _ => rfl
  unfold nextO at hc
  rw [e6, e3, e4, e5, e2, q5, q6] at hc
  have := best_le (m := k) _ (Nat.le_refl _) (fun j x hx => ?_) 7 c hc
  · omega
  · match j, hx with
    | 0, hx => cases hx; rw [hz]; exact ⟨Nat.le_refl _, Nat.le_refl _⟩
    | 1, hx => cases hx; rw [hz]; exact ⟨Nat.le_refl _, Nat.le_refl _⟩
    | 2, hx => cases hx; rw [hz]; exact ⟨Nat.le_refl _, Nat.le_refl _⟩
    | 3, hx => cases hx; rw [hz]; exact ⟨Nat.le_refl _, Nat.le_refl _⟩
    | 4, hx => cases hx; rw [hz]; exact ⟨Nat.le_refl _, Nat.le_refl _⟩
    | 5, hx => cases hx; exact ⟨Nat.le_refl _, Nat.le_refl _⟩
    | j + 6, hx => cases hx; exact ⟨Nat.le_refl _, Nat.le_refl _⟩

theorem next_app {S A : ByteArray} {B : Bs} (h : App S A B) (K : ByteArray → Bool) {k : Nat} (hk : k < A.size) {c : Cd} (hc : nextO K A k = some c) (hne : c.2.2 ≠ k) (h2 : c.2.2 + 2 ≤ A.size) : nextO K S k = some c := by
  have hk' := Nat.le_of_lt hk
  have hcl := nextO_le hk hc
  have ht := h.take hk'
  obtain ⟨m, hm⟩ : ∃ m, A.size - k = m := ⟨_, rfl⟩
  have hm3 : 3 ≤ m := by omega
  have hn : ¬ (Lib.hasPrefix (from' S k) [92, 60] = true ∧ m ≤ 2 + idLen ((from' S k).drop 2)) := fun hb => hne (half_none hk hc ht (by omega) hb.1 (by omega))
  rw [hm] at ht
  have hall := best_all _ k 7 c hc
  obtain ⟨_, e0, l0⟩ := hall 0 (by decide)
  obtain ⟨_, e1, l1⟩ := hall 1 (by decide)
  obtain ⟨_, e2, l2⟩ := hall 2 (by decide)
  obtain ⟨_, e3, l3⟩ := hall 3 (by decide)
  obtain ⟨_, e4, l4⟩ := hall 4 (by decide)
  obtain ⟨y5, e5, l5⟩ := hall 5 (by decide)
  obtain ⟨y6, e6, l6⟩ := hall 6 (by decide)
  cases e0
  cases e1
  cases e2
  cases e3
  cases e4
  simp only [cd] at l0 l1 l2 l3 l4
  rw [ht] at l1 l2 l3 l4
  have b1 : longLen (from' S k) ≤ m := long_far (by omega)
  have b2 : varLen (from' S k) ≤ m := var_far hm3 (by omega)
  have b3 : runLen digB (from' S k) ≤ m := run_far _ _ _ (by omega)
  have b4 : signLen (from' S k) ≤ m := sign_far hm3 (by omega) hn
  have b0 : idLen (from' S k) ≤ m := Nat.le_trans (id_le_long _) b1
  obtain ⟨v1, v2⟩ := var_take (show 1 ≤ m by omega) b2
  have t1 := long_take b1
  have t3 : runLen digB ((from' S k).take m) = runLen digB (from' S k) := by rw [run_take, Nat.min_eq_left b3]
  have t4 := sign_take (show 1 ≤ m by omega) b4
  have t0 : idLen ((from' S k).take m) = idLen (from' S k) := by rw [id_take, Nat.min_eq_left b0]
  have hkw : kwLen K S k = kwLen K A k := by
    unfold kwLen
    rw [ht, t0, t4, h.ext (by omega), h.ext (by omega)]
  have hkl := kwLen_le K A k
  rw [from_len] at hkl
  have q5 : quoteO S k = some y5 := by
    have hy : quoteO A k = some y5 := e5
    unfold quoteO at hy ⊢
    by_cases hp : Lib.hasPrefix (from' A k) openL = true
    · have hpl := pre_len hp
      rw [h.left hk', pre_app B _ _ hpl]
      rw [if_pos hp] at hy ⊢
      cases hn5 : nestL openL closeL (from' A k) 0 with
      | none => rw [hn5] at hy; cases hy
      | some n =>
        rw [hn5] at hy
        have hb := nest_from openL closeL (by decide) (by decide) hp hn5
        rw [from_len] at hb
        rw [nest_app openL closeL B (by decide) (by decide) (by decide) hp hn5]
        simp only at hy ⊢
        rw [h.ext (by omega)]
        exact hy
    · rw [if_neg hp] at hy
      rw [if_neg]
      · exact hy
      · intro ho
        by_cases h7 : 7 ≤ m
        · exact hp (by rw [ht, pre_far _ _ _ (show openL.length ≤ m from h7)]; exact ho)
        · refine hn ?_
          obtain ⟨t', ht'⟩ := List.isPrefixOf_iff_prefix.1 ho
          rw [← ht']
          refine ⟨rfl, ?_⟩
          have : idLen ((openL ++ t').drop 2) = 4 := rfl
          rw [this]
          omega
  have q6 : strO S k = some y6 := by
    have hy : strO A k = some y6 := e6
    unfold strO at hy ⊢
    have e : (from' S k).head? = (from' A k).head? := by
      rw [h.left hk', from_cons hk]
      rfl
    rw [e, h.left (k := k + 1) hk]
    by_cases hp : (from' A k).head? = some 34
    · rw [if_pos hp] at hy ⊢
      cases hn6 : strL (from' A (k + 1)) with
      | none => rw [hn6] at hy; cases hy
      | some r =>
        rw [hn6] at hy
        rw [str_nl _ hn6]
        exact hy
    · rw [if_neg hp] at hy ⊢
      exact hy
  rw [← hc]
  unfold nextO
  rw [hkw, q5, q6, show quoteO A k = some y5 from e5, show strO A k = some y6 from e6, ht, t1, v1, t3, t4]
  rw [t1] at l1
  rw [v1] at l2
  rw [t3] at l3
  rw [t4] at l4
  rw [cd_app h 10 10 (by omega) (fun _ => rfl), cd_app h _ (nameKind ((from' S k).take m)) (by omega) (fun _ => kind_take b1), cd_app h _ (varKind ((from' S k).take m)) (by omega) v2, cd_app h 6 6 (by omega) (fun _ => rfl), cd_app h 7 7 (by omega) (fun _ => rfl)]
theorem betAt_app {S A : ByteArray} {B : Bs} (h : App S A B) {k p : Nat} (hk : k ≤ A.size) (hp : betAt A k = .ok p) (h2 : p + 2 ≤ A.size) : betAt S k = .ok p := by
  unfold betAt at hp ⊢
  obtain ⟨m, hm, rfl⟩ := shift_ok hp
  rw [h.left hk, bet_app B _ _ m (Nat.le_refl _) hm (by rw [from_len]; omega)]
  rfl
end Go.Proofs.YtdkagjbedinhjaaGreat
end

section
namespace Go.Proofs.YtdkagjbedinhjaaGreat
open Go.RowKit

/-- B is S from a place on. -/
structure Suf (S B : ByteArray) (q0 : Nat) : Prop where
  size : S.size = q0 + B.size
  right : ∀ k, from' S (q0 + k) = from' B k
namespace Suf
theorem ext_right {S B : ByteArray} {q0 : Nat} (h : Suf S B q0) (a b : Nat) : S.extract (q0 + a) (q0 + b) = B.extract a b := by
  refine ext_of ?_
  have := h.right a
  unfold from' at this
  rw [this, show q0 + b - (q0 + a) = b - a by omega]
theorem cd_right {S B : ByteArray} {q0 : Nat} (h : Suf S B q0) (k n : Nat) (kind : Int) : cd S (q0 + k) kind n = shC (q0) (cd B k kind n) := by
  unfold cd candTok shC
  rw [show q0 + k + n = q0 + (k + n) by omega, h.ext_right]
theorem kw_right {S B : ByteArray} {q0 : Nat} (h : Suf S B q0) (K : ByteArray → Bool) (k : Nat) : kwLen K S (q0 + k) = kwLen K B k := by
  unfold kwLen
  rw [h.right, show q0 + k + idLen (from' B k) = q0 + (k + idLen (from' B k)) by omega, show q0 + k + signLen (from' B k) = q0 + (k + signLen (from' B k)) by omega, h.ext_right, h.ext_right]
theorem quote_right {S B : ByteArray} {q0 : Nat} (h : Suf S B q0) (k : Nat) : quoteO S (q0 + k) = (quoteO B k).map (shC (q0)) := by
  unfold quoteO
  rw [h.right]
  by_cases hp : Lib.hasPrefix (from' B k) openL = true
  · rw [if_pos hp, if_pos hp]
    cases hn : nestL openL closeL (from' B k) 0 with
    | none => rfl
    | some n =>
      have hb := (nest_from openL closeL (by decide) (by decide) hp hn).1
      have h8 : openL.length + closeL.length = 15 := rfl
      show some _ = some (shC _ _)
      unfold shC
      simp only
      rw [show q0 + k + 7 = q0 + (k + 7) by omega, show q0 + k + n - 8 = q0 + (k + n - 8) by omega, h.ext_right, show q0 + k + n = q0 + (k + n) by omega]
  · rw [if_neg hp, if_neg hp]
    rfl
theorem str_right {S B : ByteArray} {q0 : Nat} (h : Suf S B q0) (k : Nat) : strO S (q0 + k) = (strO B k).map (shC (q0)) := by
  unfold strO
  rw [h.right, show q0 + k + 1 = q0 + (k + 1) by omega, h.right]
  by_cases hp : (from' B k).head? = some 34
  · rw [if_pos hp, if_pos hp]
    cases hn : strL (from' B (k + 1)) with
    | none => rfl
    | some r =>
      show some _ = some (shC _ _)
      unfold shC
      simp only
      rw [show q0 + (k + 1) + r.2 = q0 + (k + 1 + r.2) by omega]
  · rw [if_neg hp, if_neg hp]
    rfl
theorem next_right {S B : ByteArray} {q0 : Nat} (h : Suf S B q0) (K : ByteArray → Bool) (k : Nat) : nextO K S (q0 + k) = (nextO K B k).map (shC (q0)) := by
  unfold nextO
  refine best_sh (q0) k _ _ (fun j => ?_) 7
  rw [kw_right h, h.right]
  match j with
  | 0 => exact congrArg some (cd_right h _ _ _)
  | 1 => exact congrArg some (cd_right h _ _ _)
  | 2 => exact congrArg some (cd_right h _ _ _)
  | 3 => exact congrArg some (cd_right h _ _ _)
  | 4 => exact congrArg some (cd_right h _ _ _)
  | 5 => exact quote_right h k
  | j + 6 => exact str_right h k
theorem betAt_right {S B : ByteArray} {q0 : Nat} (h : Suf S B q0) (k : Nat) : betAt S (q0 + k) = (betAt B k).shift (q0) := by
  unfold betAt
  rw [h.right, shift_shift]

theorem scan_right {S B : ByteArray} {q0 : Nat} (h : Suf S B q0) (K : ByteArray → Bool) : ∀ (f k : Nat), scanF K S f (q0 + k) = shR (q0) (scanF K B f k)
  | 0, _ => rfl
  | f + 1, k => by
    have hb := betAt_right h k
    have hs := h.size
    cases hp : betAt B k with
    | error n =>
      rw [hp] at hb
      rw [scanF_err hb, scanF_err hp]
      rfl
    | ok p =>
      rw [hp] at hb
      rw [scanF_ok hb, scanF_ok hp]
      by_cases h1 : B.size ≤ p
      · rw [headOf_end h1, headOf_end (by omega)]
        rfl
      · have hn := next_right h K p
        cases hc : nextO K B p with
        | none =>
          rw [hc] at hn
          rw [headOf_none (by omega) hc, headOf_none (by omega) hn]
          rfl
        | some c =>
          rw [hc] at hn
          by_cases h2 : c.2.2 = p
          · rw [headOf_byte (by omega) hc h2, headOf_byte (by omega) hn (by show q0 + c.2.2 = _; rw [h2])]
            rfl
          · rw [headOf_some (by omega) hc h2, headOf_some (by omega) hn (by show q0 + c.2.2 ≠ _; omega)]
            show SR.cons _ (scanF K S f (q0 + c.2.2)) = _
            rw [scan_right h K f c.2.2]
            rfl

end Suf

theorem betAt_self {T : ByteArray} {k p : Nat} (h : betAt T k = .ok p) : betAt T p = .ok p := by
  unfold betAt
  rw [betAt_again h]
  rfl
theorem ascend_two {K : ByteArray → Bool} {T : ByteArray} {x y : Tk} {r : List Tk} : ∀ (ys : List Tk) (k : Nat), Ascend K T k (ys ++ x :: y :: r) → k ≤ x.2.2 ∧ x.2.2 + 2 ≤ T.size
  | [], k, h => by
    obtain ⟨h1, n, hs, h2, m, hm, _⟩ := h
    have := hs.pos
    have := hm.pos
    have := hm.le
    exact ⟨h1, by omega⟩
  | z :: ys, k, h => by
    obtain ⟨h1, n, hs, h2⟩ := h
    have := ascend_two ys _ h2
    exact ⟨by omega, this.2⟩

/-- The tokens ahead of the last two stay. -/
theorem scan_app {S A : ByteArray} {B : Bs} (h : App S A B) (K : ByteArray → Bool) {x y : Tk} {r : List Tk} : ∀ (ys : List Tk) (f g k : Nat), k ≤ A.size → A.size < f + k → S.size < g + k → scanF K A f k = (ys ++ x :: y :: r, none) → scanF K S g k = SR.pre ys (scanF K S (S.size + 1) x.2.2)
  | _, 0, _, k, hk, hf, _, _ => by omega
  | _, f + 1, 0, k, hk, _, hg, _ => by have := h.size; omega
  | ys, f + 1, g + 1, k, hk, hf, hg, hx => by
    have hs := h.size
    have hasc := scan_ascend K A (f + 1) k hk
    rw [hx] at hasc
    have h2 := ascend_two ys k hasc
    cases hp : betAt A k with
    | error n => rw [scanF_err hp] at hx; cases ys <;> cases hx
    | ok p =>
      rw [scanF_ok hp] at hx
      have hb := betAt_le hk hp
      by_cases h3 : A.size ≤ p
      · rw [headOf_end h3] at hx; cases ys <;> cases hx
      · cases hc : nextO K A p with
        | none => rw [headOf_none (by omega) hc] at hx; cases ys <;> cases hx
        | some c =>
          have hn := nextO_le (by omega) hc
          by_cases h4 : c.2.2 = p
          · rw [headOf_byte (by omega) hc h4] at hx; cases ys <;> cases hx
          · rw [headOf_some (by omega) hc h4] at hx
            obtain ⟨zs, hz, hy⟩ := cons_inv hx
            cases ys with
            | nil =>
              obtain ⟨hx1, hx2⟩ := List.cons.inj hz
              have hpx : x.2.2 = p := by rw [hx1]
              rw [hpx] at h2 ⊢
              have hS := betAt_app h hk hp h2.2
              have e : scanF K S (g + 1) k = scanF K S (g + 1) p := by rw [scanF_ok hS, scanF_ok (betAt_self hS)]
              rw [e, scanF_enough K S (g + 1) (S.size + 1) p (by omega) (by omega) (by omega)]
              rfl
            | cons y0 ys' =>
              obtain ⟨hx1, hx2⟩ := List.cons.inj hz
              subst hx2
              have hasc2 := scan_ascend K A f c.2.2 hn.2
              rw [hy] at hasc2
              have h5 := ascend_two ys' _ hasc2
              have hS := betAt_app h hk hp (by omega)
              have hq := next_app h K (by omega) hc h4 (by omega)
              rw [scanF_ok hS, headOf_some (by omega) hq h4, scan_app h K ys' f g c.2.2 hn.2 (by omega) (by omega) hy, hx1]
              rfl
end Go.Proofs.YtdkagjbedinhjaaGreat
end

section
namespace Go.Proofs.YtdkagjbedinhjaaGreat
open Go.RowKit

abbrev BA (l : Bs) : ByteArray := ⟨l.toArray⟩
theorem BA_list (l : Bs) : (BA l).data.toList = l := by simp
theorem BA_back (s : ByteArray) : BA s.data.toList = s := by cases s; simp
theorem BA_size (l : Bs) : (BA l).size = l.length := by rw [Lib.size_eq, BA_list]
theorem BA_from (l : Bs) (k : Nat) : from' (BA l) k = l.drop k := by unfold from'; rw [BA_list]

/-- A token, written. -/
structure Word (K : ByteArray → Bool) (t : Tk) (P : Bs) : Prop where
  scan : scanR K (BA P) = ([(t.1, t.2.1, 0)], none)
  first : betL P = .ok 0
  pos : 1 ≤ P.length
  wr : P = writtenT t.1 t.2.1.data.toList
theorem word_of_stands {K : ByteArray → Bool} {T : ByteArray} {x : Tk} {n : Nat} (h : Stands K T x n) : Word K x (T.extract x.2.2 (x.2.2 + n)).data.toList := by
  have hP : Piece T (T.extract x.2.2 (x.2.2 + n)) x.2.2 n := ⟨rfl, h.le⟩
  have hl : (T.extract x.2.2 (x.2.2 + n)).data.toList = (from' T x.2.2).take n := by
    have := hP.from'
    unfold Go.Proofs.YtdkagjbedinhjaaGreat.from' at this
    rw [List.drop_zero] at this
    exact this
  refine ⟨?_, ?_, ?_, stands_written h⟩
  · rw [show BA (T.extract x.2.2 (x.2.2 + n)).data.toList = T.extract x.2.2 (x.2.2 + n) from BA_back _]
    exact scan_piece h
  · rw [hl]
    exact betL_zero_take h.pos h.bet
  · have := hP.size
    rw [Lib.size_eq] at this
    have := h.pos
    omega

def zipT (ts : List Tk) (ps : List Nat) : List Tk := List.zipWith (fun t p => (t.1, t.2.1, p)) ts ps
theorem zipT_snoc {ts : List Tk} {ps : List Nat} (h : ps.length = ts.length) (t : Tk) (p : Nat) : zipT (ts ++ [t]) (ps ++ [p]) = zipT ts ps ++ [(t.1, t.2.1, p)] := by
  unfold zipT
  rw [List.zipWith_append h.symm]
  rfl

/-- A text that was built of words, with a space between some. -/
inductive Built (K : ByteArray → Bool) : List Tk → List Nat → Bs → Prop
  | nil : Built K [] [] []
  | snoc {ts : List Tk} {ps : List Nat} {A : Bs} {t : Tk} {P : Bs} (gap : Bs) (h : Built K ts ps A) (w : Word K t P) (hg : gap = [] ∨ gap = [32]) (h0 : ts = [] → gap = []) : Built K (ts ++ [t]) (ps ++ [A.length + gap.length]) (A ++ gap ++ P)
theorem Built.len {K : ByteArray → Bool} {ts : List Tk} {ps : List Nat} {A : Bs} (h : Built K ts ps A) : ps.length = ts.length := by
  induction h with
  | nil => rfl
  | snoc gap h w hg h0 ih => simp [ih]
theorem Built.bound {K : ByteArray → Bool} {ts : List Tk} {ps : List Nat} {A : Bs} (h : Built K ts ps A) : A.length ≤ ((ts.map fun t => (writtenT t.1 t.2.1.data.toList).length).sum) + (ts.length - 1) := by
  induction h with
  | nil => exact Nat.zero_le _
  | @snoc ts ps A t P gap h w hg h0 ih =>
    have hp : P.length = (writtenT t.1 t.2.1.data.toList).length := by rw [← w.wr]
    have hgl : gap.length ≤ 1 := by rcases hg with rfl | rfl <;> simp
    rw [List.map_append, List.sum_append, List.length_append, List.length_append, List.length_append]
    simp only [List.map_cons, List.map_nil, List.sum_cons, List.sum_nil, List.length_cons, List.length_nil]
    by_cases ht : ts = []
    · have := h0 ht
      subst this ht
      have hA : A.length ≤ 0 := ih
      simp only [List.map_nil, List.sum_nil, List.length_nil]
      omega
    · have : 1 ≤ ts.length := List.length_pos_iff.2 ht
      omega

/-- The same kinds and texts. -/
def Al (xs ys : List Tk) : Prop := xs.map (fun x => (x.1, x.2.1)) = ys.map fun x => (x.1, x.2.1)
theorem piece_len {K : ByteArray → Bool} {N : ByteArray} {x t : Tk} {n : Nat} {P : Bs} (h : Stands K N x n) (hw : Word K t P) (h1 : x.1 = t.1) (h2 : x.2.1 = t.2.1) : n = P.length := by
  have hs := stands_written h
  have hP : (N.extract x.2.2 (x.2.2 + n)).size = n := (⟨rfl, h.le⟩ : Piece N (N.extract x.2.2 (x.2.2 + n)) x.2.2 n).size
  rw [Lib.size_eq, hs, h1, h2, ← hw.wr] at hP
  exact hP.symm

theorem first_place {K : ByteArray → Bool} {N : ByteArray} {x : Tk} {r : List Tk} (h : scanR K N = (x :: r, none)) : betAt N 0 = .ok x.2.2 := by
  unfold scanR at h
  cases hp : betAt N 0 with
  | error n => rw [scanF_err hp] at h; cases h
  | ok p =>
    rw [scanF_ok hp] at h
    by_cases h3 : N.size ≤ p
    · rw [headOf_end h3] at h; cases h
    · cases hc : nextO K N p with
      | none => rw [headOf_none (by omega) hc] at h; cases h
      | some c =>
        by_cases h4 : c.2.2 = p
        · rw [headOf_byte (by omega) hc h4] at h; cases h
        · rw [headOf_some (by omega) hc h4] at h
          obtain ⟨zs, hz, hy⟩ := cons_inv h
          obtain ⟨hx1, _⟩ := List.cons.inj hz
          rw [hx1]
theorem not_blank {c : UInt8} {r : Bs} (h : betL (c :: r) = .ok 0) : blankB c = false := by
  rw [betL_cons] at h
  cases hb : blankB c with
  | false => rfl
  | true =>
    rw [hb, if_pos rfl] at h
    obtain ⟨m, _, hm⟩ := shift_ok h
    omega
theorem first_zero' {P X : Bs} (hP : betL P = .ok 0) (h1 : 1 ≤ P.length) (h : betL (P ++ X) = .ok 1) : False := by
  cases P with
  | nil => simp at h1
  | cons c r =>
    have hb := not_blank hP
    rw [List.cons_append, betL_cons, hb, if_neg (by decide)] at h
    split at h
    · rename_i hp
      cases hk : nestL [40, 42] [42, 41] (c :: (r ++ X)) 0 with
      | none => rw [hk] at h; cases h
      | some k =>
        rw [hk] at h
        have hcb := com_bounds hp hk
        obtain ⟨m, _, hm⟩ := shift_ok h
        omega
    · cases h

theorem al_two {zs : List Tk} {a t : Tk} (h : Al zs [a, t]) : ∃ x y, zs = [x, y] ∧ x.1 = a.1 ∧ x.2.1 = a.2.1 ∧ y.1 = t.1 ∧ y.2.1 = t.2.1 := by
  unfold Al at h
  rcases zs with _ | ⟨x, _ | ⟨y, _ | ⟨z, r⟩⟩⟩
  · simp at h
  · simp at h
  · simp only [List.map_cons, List.map_nil, List.cons.injEq, Prod.mk.injEq, and_true] at h
    exact ⟨x, y, rfl, h.1.1, h.1.2, h.2.1, h.2.2⟩
  · simp at h
theorem al_three {zs : List Tk} {a b t : Tk} (h : Al zs [a, b, t]) : ∃ x y z, zs = [x, y, z] ∧ (x.1 = a.1 ∧ x.2.1 = a.2.1) ∧ (y.1 = b.1 ∧ y.2.1 = b.2.1) ∧ z.1 = t.1 ∧ z.2.1 = t.2.1 := by
  unfold Al at h
  rcases zs with _ | ⟨x, _ | ⟨y, _ | ⟨z, _ | ⟨u, r⟩⟩⟩⟩
  · simp at h
  · simp at h
  · simp at h
  · simp only [List.map_cons, List.map_nil, List.cons.injEq, Prod.mk.injEq, and_true] at h
    exact ⟨x, y, z, rfl, h.1, h.2.1, h.2.2⟩
  · simp at h
theorem tk_eq {x t : Tk} {p : Nat} (h1 : x.1 = t.1) (h2 : x.2.1 = t.2.1) (h3 : x.2.2 = p) : x = (t.1, t.2.1, p) := by
  obtain ⟨a, b, c⟩ := x
  subst h3
  simp only at h1 h2
  rw [h1, h2]

theorem forced_two {K : ByteArray → Bool} {a t : Tk} {Pa P : Bs} {zs : List Tk} (ha : Word K a Pa) (ht : Word K t P) (hs : scanR K (BA (Pa ++ P)) = (zs, none)) (hal : Al zs [a, t]) : zs = [(a.1, a.2.1, 0), (t.1, t.2.1, Pa.length)] := by
  obtain ⟨x, y, rfl, x1, x2, y1, y2⟩ := al_two hal
  have hasc := scan_ascend K (BA (Pa ++ P)) ((BA (Pa ++ P)).size + 1) 0 (Nat.zero_le _)
  rw [show scanF K (BA (Pa ++ P)) ((BA (Pa ++ P)).size + 1) 0 = _ from hs] at hasc
  obtain ⟨g1, n, hn, g2, m, hm, _⟩ := hasc
  have e1 := piece_len hn ha x1 x2
  have e2 := piece_len hm ht y1 y2
  have hle := hm.le
  rw [BA_size, List.length_append] at hle
  rw [tk_eq (p := 0) x1 x2 (by omega), tk_eq (p := Pa.length) y1 y2 (by omega)]
theorem forced_three {K : ByteArray → Bool} {a b t : Tk} {Pa Pb P gap : Bs} {zs : List Tk} (ha : Word K a Pa) (hb : Word K b Pb) (ht : Word K t P) (hg : gap = [] ∨ gap = [32]) (hs : scanR K (BA (Pa ++ gap ++ Pb ++ P)) = (zs, none)) (hal : Al zs [a, b, t]) :
    zs = [(a.1, a.2.1, 0), (b.1, b.2.1, Pa.length + gap.length), (t.1, t.2.1, Pa.length + gap.length + Pb.length)] := by
  obtain ⟨x, y, z, rfl, ⟨x1, x2⟩, ⟨y1, y2⟩, z1, z2⟩ := al_three hal
  have hasc := scan_ascend K (BA (Pa ++ gap ++ Pb ++ P)) ((BA (Pa ++ gap ++ Pb ++ P)).size + 1) 0 (Nat.zero_le _)
  rw [show scanF K (BA (Pa ++ gap ++ Pb ++ P)) ((BA (Pa ++ gap ++ Pb ++ P)).size + 1) 0 = _ from hs] at hasc
  obtain ⟨g1, n, hn, g2, m, hm, g3, k, hk, _⟩ := hasc
  have e1 := piece_len hn ha x1 x2
  have e2 := piece_len hm hb y1 y2
  have e3 := piece_len hk ht z1 z2
  have hle := hk.le
  rw [BA_size, List.length_append, List.length_append, List.length_append] at hle
  have hgl : gap.length ≤ 1 := by rcases hg with rfl | rfl <;> simp
  have hx0 : x.2.2 = 0 := by
    by_cases h0 : x.2.2 = 0
    · exact h0
    · have hx1 : x.2.2 = 1 := by omega
      have hf := first_place hs
      rw [hx1] at hf
      unfold betAt at hf
      obtain ⟨q, hq, hq1⟩ := shift_ok hf
      have : q = 1 := by omega
      subst this
      rw [BA_from, List.drop_zero, List.append_assoc, List.append_assoc] at hq
      exact (first_zero' ha.first ha.pos hq).elim
  have hy0 : y.2.2 = Pa.length + gap.length := by
    rcases hg with rfl | rfl
    · simp at hle ⊢; omega
    · by_cases h1 : y.2.2 = Pa.length
      · have hb0 := hm.bet
        rw [h1, BA_from] at hb0
        have e : (Pa ++ [32] ++ Pb ++ P).drop Pa.length = 32 :: (Pb ++ P) := by simp
        rw [e] at hb0
        have := not_blank hb0
        exact absurd this (by decide)
      · simp at hle ⊢; omega
  rw [tk_eq (p := 0) x1 x2 hx0, tk_eq (p := Pa.length + gap.length) y1 y2 hy0, tk_eq (p := Pa.length + gap.length + Pb.length) z1 z2 (by omega)]

/-- The text near its end. -/
def nearOf (A : Bs) (ps : List Nat) : Bs := match ps[ps.length - 2]? with
  | some p => A.drop p
  | none => []

theorem join_spaced {K : ByteArray → Bool} {ts : List Tk} {ps : List Nat} {A P : Bs} {t : Tk} (hB : Built K ts ps A) (hs : scanR K (BA A) = (zipT ts ps, none)) (hw : Word K t P) : scanR K (BA (A ++ [32] ++ P)) = (zipT (ts ++ [t]) (ps ++ [A.length + 1]), none) := by
  have hG : Sp.Glue (BA (A ++ [32] ++ P)) (BA A) (BA P) := ⟨by rw [BA_list, BA_list, BA_list]; simp⟩
  rw [Sp.scan_glue hG K hs, hw.scan, zipT_snoc hB.len, BA_size]
  rfl
theorem join_glued {K : ByteArray → Bool} {ts : List Tk} {ps : List Nat} {A P : Bs} {t : Tk} {zs : List Tk} (hB : Built K ts ps A) (hs : scanR K (BA A) = (zipT ts ps, none)) (hw : Word K t P) (hz : scanR K (BA (nearOf A ps ++ P)) = (zs, none)) (hal : Al zs ((ts ++ [t]).drop (ts.length - 2))) :
    scanR K (BA (A ++ P)) = (zipT (ts ++ [t]) (ps ++ [A.length]), none) := by
  rw [zipT_snoc hB.len]
  cases hB with
  | nil => exact hw.scan
  | @snoc ts1 ps1 A1 b Pb gb hB1 wb hgb hb0 =>
    cases hB1 with
    | nil =>
      obtain rfl := hb0 rfl
      have hn : nearOf ([] ++ [] ++ Pb) ([] ++ [([] : Bs).length + ([] : Bs).length]) = Pb := rfl
      rw [hn] at hz
      have := forced_two wb hw hz hal
      subst this
      exact hz
    | @snoc ts2 ps2 A2 a Pa ga hB2 wa hga ha0 =>
      obtain ⟨pa, hpa⟩ : ∃ pa, A2.length + ga.length = pa := ⟨_, rfl⟩
      have hl2 := hB2.len
      have hn : nearOf (A2 ++ ga ++ Pa ++ gb ++ Pb) (ps2 ++ [A2.length + ga.length] ++ [(A2 ++ ga ++ Pa).length + gb.length]) = Pa ++ gb ++ Pb := by
        unfold nearOf
        have e : (ps2 ++ [A2.length + ga.length] ++ [(A2 ++ ga ++ Pa).length + gb.length])[(ps2 ++ [A2.length + ga.length] ++ [(A2 ++ ga ++ Pa).length + gb.length]).length - 2]? = some (A2.length + ga.length) := by
          simp
        rw [e]
        show (A2 ++ ga ++ Pa ++ gb ++ Pb).drop (A2.length + ga.length) = _
        rw [show A2 ++ ga ++ Pa ++ gb ++ Pb = (A2 ++ ga) ++ (Pa ++ gb ++ Pb) by simp]
        exact List.drop_left' (by simp)
      rw [hn] at hz
      have hd : (ts2 ++ [a] ++ [b] ++ [t]).drop ((ts2 ++ [a] ++ [b]).length - 2) = [a, b, t] := by
        rw [show ts2 ++ [a] ++ [b] ++ [t] = ts2 ++ [a, b, t] by simp]
        exact List.drop_left' (by simp)
      rw [hd] at hal
      have hzs := forced_three wa wb hw hgb hz hal
      subst hzs
      have hl1 : (ps2 ++ [A2.length + ga.length]).length = (ts2 ++ [a]).length := by simp [hl2]
      rw [zipT_snoc hl1, zipT_snoc hl2] at hs
      rw [zipT_snoc hl1, zipT_snoc hl2]
      obtain ⟨S, hS⟩ : ∃ S, BA (A2 ++ ga ++ Pa ++ gb ++ Pb ++ P) = S := ⟨_, rfl⟩
      have hApp : App S (BA (A2 ++ ga ++ Pa ++ gb ++ Pb)) P := ⟨by rw [← hS, BA_list, BA_list]⟩
      have hSuf : Suf S (BA (Pa ++ gb ++ Pb ++ P)) (A2.length + ga.length) := by
        refine ⟨by rw [← hS, BA_size, BA_size]; simp; omega, fun k => ?_⟩
        rw [← hS, BA_from, BA_from, ← List.drop_drop]
        congr 1
        rw [show A2 ++ ga ++ Pa ++ gb ++ Pb ++ P = (A2 ++ ga) ++ (Pa ++ gb ++ Pb ++ P) by simp]
        exact List.drop_left' (by simp)
      rw [hS]
      have hsz := hApp.size
      unfold scanR at hs ⊢
      have h1 := scan_app hApp K (x := (a.1, a.2.1, A2.length + ga.length)) (y := (b.1, b.2.1, (A2 ++ ga ++ Pa).length + gb.length)) (r := []) (zipT ts2 ps2) ((BA (A2 ++ ga ++ Pa ++ gb ++ Pb)).size + 1) (S.size + 1) 0 (Nat.zero_le _) (by omega) (by omega) (by rw [hs]; simp)
      rw [h1]
      have h2 := Suf.scan_right hSuf K (S.size + 1) 0
      have h2 : scanF K S (S.size + 1) (A2.length + ga.length) = _ := h2
      have hss := hSuf.size
      show SR.pre (zipT ts2 ps2) (scanF K S (S.size + 1) (A2.length + ga.length)) = _
      rw [h2, scanF_enough K (BA (Pa ++ gb ++ Pb ++ P)) (S.size + 1) ((BA (Pa ++ gb ++ Pb ++ P)).size + 1) 0 (Nat.zero_le _) (by omega) (by omega)]
      rw [show scanF K (BA (Pa ++ gb ++ Pb ++ P)) ((BA (Pa ++ gb ++ Pb ++ P)).size + 1) 0 = _ from hz]
      unfold SR.pre shR shT
      simp
      omega
end Go.Proofs.YtdkagjbedinhjaaGreat
end

