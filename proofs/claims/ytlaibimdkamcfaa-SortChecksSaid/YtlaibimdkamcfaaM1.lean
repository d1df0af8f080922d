/-
  The least ones of a finite list under an order: what Normal, Meet and Less mean.
-/
namespace Go.Proofs.Ytlaibimdkamcfaa

/-- Whom a theory knows, and who is below whom: an order on those. -/
structure Ord {α : Type} (K : α → Bool) (B : α → α → Bool) : Prop where
  refl : ∀ x, K x = true → B x x = true
  trans : ∀ x y z, B x y = true → B y z = true → B x z = true
  anti : ∀ x y, B x y = true → B y x = true → x = y
  left : ∀ x y, B x y = true → K x = true
  right : ∀ x y, B x y = true → K y = true

section
variable {α : Type} {K : α → Bool} {B : α → α → Bool}

/-- One of the least. -/
def IsLeast (B : α → α → Bool) (s : List α) (c : α) : Prop := c ∈ s ∧ ∀ d, d ∈ s → B d c = true → d = c

def lessB (K : α → Bool) (B : α → α → Bool) (x y : List α) : Bool := x.all K && y.all (fun c => x.any (fun d => B d c))

theorem lessB_iff {x y : List α} : lessB K B x y = true ↔ (∀ c ∈ x, K c = true) ∧ ∀ c ∈ y, ∃ d ∈ x, B d c = true := by
  unfold lessB
  simp [List.all_eq_true, List.any_eq_true]

theorem filter_lt {p q : α → Bool} {l : List α} (h : ∀ x, p x = true → q x = true) {x : α} (hx : x ∈ l) (hq : q x = true) (hp : p x = false) : (l.filter p).length < (l.filter q).length := by
  have mono : ∀ l : List α, (l.filter p).length ≤ (l.filter q).length := by
    intro l
    induction l with
    | nil => simp
    | cons a l ih =>
      cases ha : p a
      · rw [List.filter_cons_of_neg (by simp [ha])]
        cases hb : q a
        · rw [List.filter_cons_of_neg (by simp [hb])]; exact ih
        · rw [List.filter_cons_of_pos hb, List.length_cons]; omega
      · rw [List.filter_cons_of_pos ha, List.filter_cons_of_pos (h a ha), List.length_cons, List.length_cons]; omega
  induction l with
  | nil => cases hx
  | cons a l ih =>
    rcases List.mem_cons.1 hx with rfl | hx
    · rw [List.filter_cons_of_neg (by simp [hp]), List.filter_cons_of_pos hq, List.length_cons]
      have := mono l; omega
    · have := ih hx
      cases ha : p a
      · rw [List.filter_cons_of_neg (by simp [ha])]
        cases hb : q a
        · rw [List.filter_cons_of_neg (by simp [hb])]; exact this
        · rw [List.filter_cons_of_pos hb, List.length_cons]; omega
      · rw [List.filter_cons_of_pos ha, List.filter_cons_of_pos (h a ha), List.length_cons, List.length_cons]; omega

/-- Below each there is a least one. -/
theorem exists_least (o : Ord K B) (s : List α) : ∀ (n : Nat) (c : α), c ∈ s → K c = true → (s.filter (fun d => B d c)).length ≤ n → ∃ d, IsLeast B s d ∧ B d c = true := by
  intro n
  induction n with
  | zero =>
    intro c hc hk hn
    have : c ∈ s.filter (fun d => B d c) := List.mem_filter.2 ⟨hc, o.refl c hk⟩
    have := List.length_pos_of_mem this
    omega
  | succ n ih =>
    intro c hc hk hn
    by_cases h : ∀ d, d ∈ s → B d c = true → d = c
    · exact ⟨c, ⟨hc, h⟩, o.refl c hk⟩
    · have ⟨d, hd⟩ : ∃ d, ¬ (d ∈ s → B d c = true → d = c) := Classical.byContradiction fun hn => h fun d => Classical.byContradiction fun hd => hn ⟨d, hd⟩
      have hds : d ∈ s := Classical.byContradiction fun hn => hd fun h => absurd h hn
      have hdb : B d c = true := Classical.byContradiction fun hn => hd fun _ h => absurd h hn
      have hdc : d ≠ c := fun hn => hd fun _ _ => hn
      have hcd : B c d = false := by
        cases hh : B c d
        · rfl
        · exact absurd (o.anti _ _ hdb hh) hdc
      have hlt := filter_lt (l := s) (p := fun e => B e d) (q := fun e => B e c) (fun e he => o.trans _ _ _ he hdb) hc (o.refl c hk) hcd
      obtain ⟨e, he, hed⟩ := ih d hds (o.left _ _ hdb) (by omega)
      exact ⟨e, he, o.trans _ _ _ hed hdb⟩

theorem least_below (o : Ord K B) {s : List α} {c : α} (hc : c ∈ s) (hk : K c = true) : ∃ d, IsLeast B s d ∧ B d c = true := exists_least o s _ c hc hk (Nat.le_refl _)

/-- What Normal gives: ascending (by lt), and just the least ones. -/
structure IsNormalOf (lt : α → α → Prop) (B : α → α → Bool) (s r : List α) : Prop where
  asc : r.Pairwise lt
  mem : ∀ c, c ∈ r ↔ IsLeast B s c
  len : r.length ≤ s.length

variable {lt : α → α → Prop}

theorem asc_ext (irr : ∀ x, ¬ lt x x) (tr : ∀ x y z, lt x y → lt y z → lt x z) : ∀ {r r' : List α}, r.Pairwise lt → r'.Pairwise lt → (∀ c, c ∈ r ↔ c ∈ r') → r = r' := by
  intro r
  induction r with
  | nil =>
    intro r' _ _ h
    cases r' with
    | nil => rfl
    | cons a l => exact absurd ((h a).2 List.mem_cons_self) (by simp)
  | cons a l ih =>
    intro r' h1 h2 h
    cases r' with
    | nil => exact absurd ((h a).1 List.mem_cons_self) (by simp)
    | cons b l' =>
      have ⟨h1a, h1l⟩ := List.pairwise_cons.1 h1
      have ⟨h2b, h2l⟩ := List.pairwise_cons.1 h2
      have e : a = b := by
        rcases List.mem_cons.1 ((h a).1 List.mem_cons_self) with e | e
        · exact e
        · rcases List.mem_cons.1 ((h b).2 List.mem_cons_self) with e' | e'
          · exact e'.symm
          · exact absurd (tr _ _ _ (h2b a e) (h1a b e')) (irr b)
      subst e
      rw [ih h1l h2l fun c => ?_]
      constructor
      · intro hc
        rcases List.mem_cons.1 ((h c).1 (List.mem_cons_of_mem _ hc)) with e | e
        · subst e; exact absurd (h1a c hc) (irr c)
        · exact e
      · intro hc
        rcases List.mem_cons.1 ((h c).2 (List.mem_cons_of_mem _ hc)) with e | e
        · subst e; exact absurd (h2b c hc) (irr c)
        · exact e

theorem IsNormalOf.unique (irr : ∀ x, ¬ lt x x) (tr : ∀ x y z, lt x y → lt y z → lt x z) {s s' r r' : List α} (h : IsNormalOf lt B s r) (h' : IsNormalOf lt B s' r') (e : ∀ c, IsLeast B s c ↔ IsLeast B s' c) : r = r' :=
  asc_ext irr tr h.asc h'.asc fun c => (h.mem c).trans ((e c).trans (h'.mem c).symm)

theorem isLeast_of_mem {s s' : List α} (h : ∀ c, c ∈ s ↔ c ∈ s') (c : α) : IsLeast B s c ↔ IsLeast B s' c :=
  ⟨fun ⟨a, b⟩ => ⟨(h c).1 a, fun d hd => b d ((h d).2 hd)⟩, fun ⟨a, b⟩ => ⟨(h c).2 a, fun d hd => b d ((h d).1 hd)⟩⟩

theorem isLeast_idem {s r : List α} (h : IsNormalOf lt B s r) (c : α) : IsLeast B r c ↔ IsLeast B s c :=
  ⟨fun ⟨a, _⟩ => (h.mem c).1 a, fun ha => ⟨(h.mem c).2 ha, fun d hd hb => ha.2 d ((h.mem d).1 hd).1 hb⟩⟩

theorem normal_known {s r : List α} (h : IsNormalOf lt B s r) (hk : ∀ c ∈ s, K c = true) : ∀ c ∈ r, K c = true := fun c hc => hk c ((h.mem c).1 hc).1

/-- Sorts within each other have one Normal, and only these. -/
theorem normal_eq_iff (o : Ord K B) (irr : ∀ x, ¬ lt x x) (tr : ∀ x y z, lt x y → lt y z → lt x z) {a b n m : List α} (hn : IsNormalOf lt B a n) (hm : IsNormalOf lt B b m) (ka : ∀ c ∈ a, K c = true) (kb : ∀ c ∈ b, K c = true) :
    (lessB K B a b = true ∧ lessB K B b a = true) ↔ n = m := by
  constructor
  · rintro ⟨h1, h2⟩
    have ⟨_, h1⟩ := lessB_iff.1 h1
    have ⟨_, h2⟩ := lessB_iff.1 h2
    have half : ∀ a b : List α, (∀ c ∈ b, ∃ d ∈ a, B d c = true) → (∀ c ∈ a, ∃ d ∈ b, B d c = true) → ∀ c, IsLeast B a c → IsLeast B b c := by
      intro a b h1 h2 c ⟨hc, hl⟩
      obtain ⟨d, hd, hdc⟩ := h2 c hc
      obtain ⟨e, he, hed⟩ := h1 d hd
      have e1 := hl e he (o.trans _ _ _ hed hdc)
      subst e1
      have e2 := o.anti _ _ hdc hed
      subst e2
      refine ⟨hd, fun d' hd' hb => ?_⟩
      obtain ⟨f, hf, hfd⟩ := h1 d' hd'
      have e3 := hl f hf (o.trans _ _ _ hfd hb)
      subst e3
      exact o.anti _ _ hb hfd
    exact hn.unique irr tr hm fun c => ⟨half a b h1 h2 c, half b a h2 h1 c⟩
  · intro e
    subst e
    refine ⟨lessB_iff.2 ⟨ka, fun c hc => ?_⟩, lessB_iff.2 ⟨kb, fun c hc => ?_⟩⟩
    · obtain ⟨d, hd, hb⟩ := least_below o hc (kb c hc)
      exact ⟨d, ((hn.mem d).1 ((hm.mem d).2 hd)).1, hb⟩
    · obtain ⟨d, hd, hb⟩ := least_below o hc (ka c hc)
      exact ⟨d, ((hm.mem d).1 ((hn.mem d).2 hd)).1, hb⟩

theorem less_refl (o : Ord K B) {a : List α} (ka : ∀ c ∈ a, K c = true) : lessB K B a a = true := lessB_iff.2 ⟨ka, fun c hc => ⟨c, hc, o.refl c (ka c hc)⟩⟩

theorem less_trans (o : Ord K B) {a b c : List α} (h1 : lessB K B a b = true) (h2 : lessB K B b c = true) : lessB K B a c = true := by
  have ⟨k1, h1⟩ := lessB_iff.1 h1
  have ⟨_, h2⟩ := lessB_iff.1 h2
  refine lessB_iff.2 ⟨k1, fun x hx => ?_⟩
  obtain ⟨d, hd, hb⟩ := h2 x hx
  obtain ⟨e, he, hb'⟩ := h1 d hd
  exact ⟨e, he, o.trans _ _ _ hb' hb⟩

theorem less_normal_left (o : Ord K B) {a n : List α} (hn : IsNormalOf lt B a n) (ka : ∀ c ∈ a, K c = true) : lessB K B n a = true :=
  lessB_iff.2 ⟨normal_known hn ka, fun c hc => by obtain ⟨d, hd, hb⟩ := least_below o hc (ka c hc); exact ⟨d, (hn.mem d).2 hd, hb⟩⟩

theorem less_normal_right (o : Ord K B) {a n : List α} (hn : IsNormalOf lt B a n) (ka : ∀ c ∈ a, K c = true) : lessB K B a n = true :=
  lessB_iff.2 ⟨ka, fun c hc => ⟨c, ((hn.mem c).1 hc).1, o.refl c (normal_known hn ka c hc)⟩⟩

theorem less_append {x a b : List α} : lessB K B x (a ++ b) = (lessB K B x a && lessB K B x b) := by
  unfold lessB
  rw [List.all_append]
  cases x.all K <;> simp

theorem less_sub (o : Ord K B) {a b : List α} (ka : ∀ c ∈ a, K c = true) (h : ∀ c ∈ b, c ∈ a) : lessB K B a b = true :=
  lessB_iff.2 ⟨ka, fun c hc => ⟨c, h c hc, o.refl c (ka c (h c hc))⟩⟩

/-- Meet: the greatest sort within both. -/
theorem meet_greatest (o : Ord K B) {a b p q m c : List α} (hp : IsNormalOf lt B a p) (hq : IsNormalOf lt B b q) (hm : IsNormalOf lt B (p ++ q) m) (ka : ∀ c ∈ a, K c = true) (kb : ∀ c ∈ b, K c = true) :
    lessB K B m a = true ∧ lessB K B m b = true ∧ lessB K B c m = (lessB K B c a && lessB K B c b) := by
  have kp := normal_known hp ka
  have kq := normal_known hq kb
  have kpq : ∀ c ∈ p ++ q, K c = true := fun c hc => by rcases List.mem_append.1 hc with h | h; exact kp c h; exact kq c h
  have ma : lessB K B m (p ++ q) = true := less_normal_left o hm kpq
  have am : lessB K B (p ++ q) m = true := less_normal_right o hm kpq
  have pa := less_normal_left o hp ka
  have ap := less_normal_right o hp ka
  have qb := less_normal_left o hq kb
  have bq := less_normal_right o hq kb
  have h := ma
  rw [less_append, Bool.and_eq_true] at h
  have h1 := less_trans o h.1 pa
  have h2 := less_trans o h.2 qb
  refine ⟨h1, h2, ?_⟩
  rw [Bool.eq_iff_iff, Bool.and_eq_true]
  constructor
  · intro hc; exact ⟨less_trans o hc h1, less_trans o hc h2⟩
  · rintro ⟨ha, hb⟩
    refine less_trans o ?_ am
    rw [less_append, less_trans o ha ap, less_trans o hb bq]; rfl

end

/-! ### Reaching -/
inductive Reach (sup : Nat → List Nat) : Nat → Nat → Prop
  | refl (i : Nat) : Reach sup i i
  | step {i j k : Nat} : j ∈ sup i → Reach sup j k → Reach sup i k

theorem Reach.trans {sup : Nat → List Nat} {i j k : Nat} (h : Reach sup i j) (h' : Reach sup j k) : Reach sup i k := by
  induction h with
  | refl => exact h'
  | step hm _ ih => exact .step hm (ih h')

theorem Reach.le {sup : Nat → List Nat} (hs : ∀ i j, j ∈ sup i → j < i) {i j : Nat} (h : Reach sup i j) : j ≤ i := by
  induction h with
  | refl => exact Nat.le_refl _
  | step hm _ ih => have := hs _ _ hm; omega

theorem Reach.anti {sup : Nat → List Nat} (hs : ∀ i j, j ∈ sup i → j < i) {i j : Nat} (h : Reach sup i j) (h' : Reach sup j i) : i = j := Nat.le_antisymm (h'.le hs) (h.le hs)

theorem Reach.snoc {sup : Nat → List Nat} {i j k : Nat} (h : Reach sup i j) (hm : k ∈ sup j) : Reach sup i k := h.trans (.step hm (.refl k))

/-- What has the first one, and the supers of each of its own, has all that are reached. -/
theorem Reach.closed {sup : Nat → List Nat} {P : Nat → Prop} {i j : Nat} (h : Reach sup i j) (h0 : P i) (hc : ∀ x, P x → ∀ y ∈ sup x, P y) : P j := by
  induction h with
  | refl => exact h0
  | step hm _ ih => exact ih (hc _ h0 _ hm)

/-- Only what stands in the table counts: another table that says the same of all up to n. -/
theorem Reach.congr {sup sup' : Nat → List Nat} {n i j : Nat} (hs : ∀ i j, i < n → j ∈ sup i → j < n) (e : ∀ k, k < n → sup k = sup' k) (hi : i < n) (h : Reach sup i j) : Reach sup' i j := by
  induction h with
  | refl => exact .refl _
  | step hm _ ih => exact .step (by rw [← e _ hi]; exact hm) (ih (hs _ _ hi hm))
end Go.Proofs.Ytlaibimdkamcfaa
