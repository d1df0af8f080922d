/-
  What the reference's least and above return.
-/
import Derived.Test.YtlaibimdkamcfaaM3
namespace Go.Proofs.Ytlaibimdkamcfaa

/-! ### A name put into an ascending list -/
open Classical in
/-- The list with the name. -/
noncomputable def putL (s : ByteArray) : List ByteArray → List ByteArray
  | [] => [s]
  | x :: l => if ltS x s then x :: putL s l else if x = s then x :: l else s :: x :: l

theorem putL_mem (s : ByteArray) : ∀ (l : List ByteArray) (c : ByteArray), c ∈ putL s l ↔ c = s ∨ c ∈ l := by
  intro l
  induction l with
  | nil => intro c; simp [putL]
  | cons x l ih =>
    intro c
    unfold putL
    split
    · rw [List.mem_cons, ih, List.mem_cons]
      constructor
      · rintro (h | h | h) <;> simp [h]
      · rintro (h | h | h) <;> simp [h]
    · split
      · rename_i h
        subst h
        simp [List.mem_cons]
      · simp [List.mem_cons]

theorem putL_asc (s : ByteArray) : ∀ (l : List ByteArray), l.Pairwise ltS → (putL s l).Pairwise ltS := by
  intro l
  induction l with
  | nil => intro _; simp [putL]
  | cons x l ih =>
    intro h
    rw [List.pairwise_cons] at h
    unfold putL
    split
    · rename_i hx
      refine List.pairwise_cons.2 ⟨fun c hc => ?_, ih h.2⟩
      rcases (putL_mem s l c).1 hc with rfl | hc
      · exact hx
      · exact h.1 c hc
    · rename_i hx
      split
      · exact List.pairwise_cons.2 h
      · rename_i he
        have hs : ltS s x := Classical.byContradiction fun hn => he (ltS_conn hx hn)
        refine List.pairwise_cons.2 ⟨fun c hc => ?_, List.pairwise_cons.2 h⟩
        rcases List.mem_cons.1 hc with rfl | hc
        · exact hs
        · exact ltS_trans _ _ _ hs (h.1 c hc)

theorem putL_len (s : ByteArray) : ∀ (l : List ByteArray), (putL s l).length ≤ l.length + 1 := by
  intro l
  induction l with
  | nil => simp [putL]
  | cons x l ih =>
    unfold putL
    split
    · simp only [List.length_cons]; omega
    · split <;> simp

/-- put's loop, a round: not yet done. -/
theorem putL_step {s x : ByteArray} {pre l r : List ByteArray} (hx : ltS x s) (h : pre ++ putL s (x :: l) = r) : (pre ++ [x]) ++ putL s l = r := by
  unfold putL at h
  rw [if_pos hx] at h
  rw [← h, List.append_assoc]; rfl
theorem putL_found {s x : ByteArray} {pre l r : List ByteArray} (hx : ¬ ltS x s) (h : pre ++ putL s (x :: l) = r) : (if x = s then pre ++ [x] else pre ++ [s] ++ [x]) ++ l = r := by
  unfold putL at h
  rw [if_neg hx] at h
  split at h
  · rename_i he
    rw [if_pos he, ← h, List.append_assoc]; rfl
  · rename_i he
    rw [if_neg he, ← h]; simp

/-! ### The least ones, one by one -/
/-- Is another one of the sort below it? -/
def dropB (B : ByteArray → ByteArray → Bool) (s : List ByteArray) (c : ByteArray) : Bool := s.any fun d => !decide (d = c) && B d c

theorem dropB_least {B : ByteArray → ByteArray → Bool} {s : List ByteArray} {c : ByteArray} (hc : c ∈ s) : dropB B s c = false ↔ IsLeast B s c := by
  unfold dropB IsLeast
  rw [List.any_eq_false]
  constructor
  · intro h
    refine ⟨hc, fun d hd hb => Classical.byContradiction fun hn => h d hd ?_⟩
    simp [hn, hb]
  · rintro ⟨_, h⟩ d hd hn
    have hn' : d ≠ c ∧ B d c = true := by simpa using hn
    exact hn'.1 (h d hd hn'.2)

/-- The least ones of the first ones. -/
noncomputable def leastFrom (B : ByteArray → ByteArray → Bool) (s : List ByteArray) (out : List ByteArray) : List ByteArray → List ByteArray
  | [] => out
  | x :: l => leastFrom B s (if dropB B s x then out else putL x out) l

theorem leastFrom_ok {B : ByteArray → ByteArray → Bool} {s : List ByteArray} : ∀ (l out : List ByteArray), out.Pairwise ltS →
    (leastFrom B s out l).Pairwise ltS ∧ (∀ c, c ∈ leastFrom B s out l ↔ c ∈ out ∨ (c ∈ l ∧ dropB B s c = false)) ∧ (leastFrom B s out l).length ≤ out.length + l.length := by
  intro l
  induction l with
  | nil => intro out h; exact ⟨h, fun c => by simp [leastFrom], by simp [leastFrom]⟩
  | cons x l ih =>
    intro out h
    unfold leastFrom
    cases hd : dropB B s x
    · rw [if_neg (by simp)]
      obtain ⟨h1, h2, h3⟩ := ih (putL x out) (putL_asc x out h)
      refine ⟨h1, fun c => ?_, ?_⟩
      · rw [h2, putL_mem, List.mem_cons]
        constructor
        · rintro ((rfl | h) | h)
          · exact .inr ⟨.inl rfl, hd⟩
          · exact .inl h
          · exact .inr ⟨.inr h.1, h.2⟩
        · rintro (h | ⟨rfl | h, h'⟩)
          · exact .inl (.inr h)
          · exact .inl (.inl rfl)
          · exact .inr ⟨h, h'⟩
      · have := putL_len x out
        simp only [List.length_cons]; omega
    · rw [if_pos rfl]
      obtain ⟨h1, h2, h3⟩ := ih out h
      refine ⟨h1, fun c => ?_, by simp only [List.length_cons]; omega⟩
      rw [h2, List.mem_cons]
      constructor
      · rintro (h | h)
        · exact .inl h
        · exact .inr ⟨.inr h.1, h.2⟩
      · rintro (h | ⟨rfl | h, h'⟩)
        · exact .inl h
        · rw [hd] at h'; cases h'
        · exact .inr ⟨h, h'⟩

/-- The reference's least is what Normal gives. -/
theorem leastFrom_normal (B : ByteArray → ByteArray → Bool) (s : List ByteArray) : IsNormalOf ltS B s (leastFrom B s [] s) := by
  obtain ⟨h1, h2, h3⟩ := leastFrom_ok (B := B) (s := s) s [] List.Pairwise.nil
  refine ⟨h1, fun c => ?_, by simpa using h3⟩
  rw [h2]
  constructor
  · rintro (h | ⟨hc, h⟩)
    · cases h
    · exact (dropB_least hc).1 h
  · intro h
    exact .inr ⟨h.1, (dropB_least h.1).2 h⟩

/-- Meet of the reference: the least ones of both sorts are those of both Normals. -/
theorem least_meet {K : ByteArray → Bool} {B : ByteArray → ByteArray → Bool} (o : Ord K B) {a b p q : List ByteArray} (hp : IsNormalOf ltS B a p) (hq : IsNormalOf ltS B b q) (ka : ∀ c ∈ a, K c = true) (kb : ∀ c ∈ b, K c = true) (c : ByteArray) :
    IsLeast B (p ++ q) c ↔ IsLeast B (a ++ b) c := by
  have sub : ∀ d, d ∈ p ++ q → d ∈ a ++ b := fun d hd => by
    rcases List.mem_append.1 hd with h | h
    · exact List.mem_append.2 (.inl ((hp.mem d).1 h).1)
    · exact List.mem_append.2 (.inr ((hq.mem d).1 h).1)
  have low : ∀ d, d ∈ a ++ b → ∃ e, e ∈ p ++ q ∧ B e d = true := fun d hd => by
    rcases List.mem_append.1 hd with h | h
    · obtain ⟨e, he, hb⟩ := least_below o h (ka d h)
      exact ⟨e, List.mem_append.2 (.inl ((hp.mem e).2 he)), hb⟩
    · obtain ⟨e, he, hb⟩ := least_below o h (kb d h)
      exact ⟨e, List.mem_append.2 (.inr ((hq.mem e).2 he)), hb⟩
  constructor
  · rintro ⟨hc, h⟩
    refine ⟨sub c hc, fun d hd hb => ?_⟩
    obtain ⟨e, he, hed⟩ := low d hd
    have hec := h e he (o.trans _ _ _ hed hb)
    subst hec
    exact o.anti _ _ hb hed
  · rintro ⟨hc, h⟩
    obtain ⟨e, he, hec⟩ := low c hc
    have := h e (sub e he) hec
    subst this
    exact ⟨he, fun d hd hb => h d (sub d hd) hb⟩

/-! ### The marks of above -/
/-- All have been looked at. -/
theorem MarksAt.whole {sup : Nat → List Nat} {i : Nat} {m : Nat → Bool} (h1 : m i = true) (h2 : ∀ j, m j = true → Reach sup i j) (h3 : ∀ j, m j = true → ∀ j' ∈ sup j, m j' = true) (j : Nat) : m j = true ↔ Reach sup i j := by
  refine ⟨h2 j, fun h => ?_⟩
  have : ∀ a b, Reach sup a b → m a = true → m b = true := fun a b h => by
    induction h with
    | refl => exact id
    | step h1 _ ih => exact fun hm => ih (h3 _ hm _ h1)
  exact this i j h h1
end Go.Proofs.Ytlaibimdkamcfaa

/-
  The marks of the reference's above, round by round.
-/
namespace Go.Proofs.Ytlaibimdkamcfaa

/-- The marks when the classes from kk on have been looked at. -/
structure MK (sup : Nat → List Nat) (i kk : Nat) (bs : List Bool) : Prop where
  self : bs[i]? = some true
  reach : ∀ j, bs[j]? = some true → Reach sup i j
  closed : ∀ j, kk ≤ j → bs[j]? = some true → ∀ j', j' ∈ sup j → bs[j']? = some true

variable {sup : Nat → List Nat} {i m kk : Nat} {bs : List Bool}

theorem set_true {j j0 : Nat} (h : bs[j0]? = some true) : (bs.set j true)[j0]? = some true := by
  rw [List.getElem?_set]
  split
  · rename_i e
    subst e
    rw [if_pos]
    exact (List.getElem?_eq_some_iff.1 h).1
  · exact h

theorem MK.start (n : Nat) (hi : i < n) : MK sup i (i + 1) ((List.replicate n false).set i true) := by
  have key : ∀ j, ((List.replicate n false).set i true)[j]? = some true → j = i := fun j h => by
    rw [List.getElem?_set] at h
    split at h
    · rename_i e; exact e.symm
    · rw [List.getElem?_replicate] at h
      split at h <;> simp at h
  refine ⟨?_, fun j h => ?_, fun j hj h => ?_⟩
  · rw [List.getElem?_set_self (by simpa using hi)]
  · rw [key j h]; exact .refl i
  · have := key j h; omega

theorem MK.skip (h : MK sup i (m + 1) bs) (hb : bs[m]? = some false) : MK sup i m bs :=
  ⟨h.self, h.reach, fun j hj hm => by
    by_cases e : j = m
    · subst e; rw [hb] at hm; cases hm
    · exact h.closed j (by omega) hm⟩

theorem MK.mark (h : MK sup i kk bs) {j : Nat} (hm : bs[m]? = some true) (hj : j ∈ sup m) (hk : j < kk) : MK sup i kk (bs.set j true) := by
  refine ⟨set_true h.self, fun j0 h0 => ?_, fun j0 hj0 h0 j' hj' => ?_⟩
  · rw [List.getElem?_set] at h0
    split at h0
    · rename_i e
      subst e
      exact (h.reach m hm).snoc hj
    · exact h.reach j0 h0
  · rw [List.getElem?_set, if_neg (by omega)] at h0
    exact set_true (h.closed j0 hj0 h0 j' hj')

theorem MK.close (h : MK sup i (m + 1) bs) (hs : ∀ j, j ∈ sup m → bs[j]? = some true) : MK sup i m bs :=
  ⟨h.self, h.reach, fun j hj hm => by
    by_cases e : j = m
    · subst e; exact hs
    · exact h.closed j (by omega) hm⟩

theorem MK.whole (h : MK sup i 0 bs) (j : Nat) : bs[j]? = some true ↔ Reach sup i j := by
  refine ⟨h.reach j, fun hr => ?_⟩
  have : ∀ a b, Reach sup a b → bs[a]? = some true → bs[b]? = some true := fun a b hr => by
    induction hr with
    | refl => exact id
    | step h1 _ ih => exact fun hm => ih (h.closed _ (Nat.zero_le _) hm _ h1)
  exact this i j hr h.self
end Go.Proofs.Ytlaibimdkamcfaa
