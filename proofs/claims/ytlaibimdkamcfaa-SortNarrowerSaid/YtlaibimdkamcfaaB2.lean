import Derived.Shelf.SlSortCmp.Insertion
import Derived.Lib.Bytealg
import Derived.WalkKit
import Derived.Test.YtlaibimdkamcfaaProg
import Derived.WalkSpells
import Derived.WalkLawsBesides
import Derived.ProofKit
import Derived.Laws.BitsAllLaws
import Derived.Laws.Bits64b
import Derived.Maps.OwnOps
import Derived.Maps.OwnSet
import Derived.Maps.Views
section
/-
  The least ones of a finite list under an order: what Normal, Meet and Less mean.
-/
namespace Go.Proofs.Ytlaibimdkamcfaa

/-- Whom a theory knows, and who is below whom: an order on those. -/
structure Ord {α : Type} (K : α → Bool) (B : α → α → Bool) : Prop where
  refl : ∀ x, K x = true → B x x = true
  trans : ∀ x y z, B x y = true → B y z = true → B x z = true
  anti : ∀ x y, B x y = true → B y x = true → x = y
  left : ∀ x y, B x y = true → K x = true
  right : ∀ x y, B x y = true → K y = true

section
variable {α : Type} {K : α → Bool} {B : α → α → Bool}

/-- One of the least. -/
def IsLeast (B : α → α → Bool) (s : List α) (c : α) : Prop := c ∈ s ∧ ∀ d, d ∈ s → B d c = true → d = c

def lessB (K : α → Bool) (B : α → α → Bool) (x y : List α) : Bool := x.all K && y.all (fun c => x.any (fun d => B d c))

theorem lessB_iff {x y : List α} : lessB K B x y = true ↔ (∀ c ∈ x, K c = true) ∧ ∀ c ∈ y, ∃ d ∈ x, B d c = true := by
  unfold lessB
  simp [List.all_eq_true, List.any_eq_true]

theorem filter_lt {p q : α → Bool} {l : List α} (h : ∀ x, p x = true → q x = true) {x : α} (hx : x ∈ l) (hq : q x = true) (hp : p x = false) : (l.filter p).length < (l.filter q).length := by
  have mono : ∀ l : List α, (l.filter p).length ≤ (l.filter q).length := by
    intro l
    induction l with
    | nil => simp
    | cons a l ih =>
      cases ha : p a
      · rw [List.filter_cons_of_neg (by simp [ha])]
        cases hb : q a
        · rw [List.filter_cons_of_neg (by simp [hb])]; exact ih
        · rw [List.filter_cons_of_pos hb, List.length_cons]; omega
      · rw [List.filter_cons_of_pos ha, List.filter_cons_of_pos (h a ha), List.length_cons, List.length_cons]; omega
  induction l with
  | nil => cases hx
  | cons a l ih =>
    rcases List.mem_cons.1 hx with rfl | hx
    · rw [List.filter_cons_of_neg (by simp [hp]), List.filter_cons_of_pos hq, List.length_cons]
      have := mono l; omega
    · have := ih hx
      cases ha : p a
      · rw [List.filter_cons_of_neg (by simp [ha])]
        cases hb : q a
        · rw [List.filter_cons_of_neg (by simp [hb])]; exact this
        · rw [List.filter_cons_of_pos hb, List.length_cons]; omega
      · rw [List.filter_cons_of_pos ha, List.filter_cons_of_pos (h a ha), List.length_cons, List.length_cons]; omega

/-- Below each there is a least one. -/
theorem exists_least (o : Ord K B) (s : List α) : ∀ (n : Nat) (c : α), c ∈ s → K c = true → (s.filter (fun d => B d c)).length ≤ n → ∃ d, IsLeast B s d ∧ B d c = true := by
  intro n
  induction n with
  | zero =>
    intro c hc hk hn
    have : c ∈ s.filter (fun d => B d c) := List.mem_filter.2 ⟨hc, o.refl c hk⟩
    have := List.length_pos_of_mem this
    omega
  | succ n ih =>
    intro c hc hk hn
    by_cases h : ∀ d, d ∈ s → B d c = true → d = c
    · exact ⟨c, ⟨hc, h⟩, o.refl c hk⟩
    · have ⟨d, hd⟩ : ∃ d, ¬ (d ∈ s → B d c = true → d = c) := Classical.byContradiction fun hn => h fun d => Classical.byContradiction fun hd => hn ⟨d, hd⟩
      have hds : d ∈ s := Classical.byContradiction fun hn => hd fun h => absurd h hn
      have hdb : B d c = true := Classical.byContradiction fun hn => hd fun _ h => absurd h hn
      have hdc : d ≠ c := fun hn => hd fun _ _ => hn
      have hcd : B c d = false := by
        cases hh : B c d
        · rfl
        · exact absurd (o.anti _ _ hdb hh) hdc
      have hlt := filter_lt (l := s) (p := fun e => B e d) (q := fun e => B e c) (fun e he => o.trans _ _ _ he hdb) hc (o.refl c hk) hcd
      obtain ⟨e, he, hed⟩ := ih d hds (o.left _ _ hdb) (by omega)
      exact ⟨e, he, o.trans _ _ _ hed hdb⟩

theorem least_below (o : Ord K B) {s : List α} {c : α} (hc : c ∈ s) (hk : K c = true) : ∃ d, IsLeast B s d ∧ B d c = true := exists_least o s _ c hc hk (Nat.le_refl _)

/-- What Normal gives: ascending (by lt), and just the least ones. -/
structure IsNormalOf (lt : α → α → Prop) (B : α → α → Bool) (s r : List α) : Prop where
  asc : r.Pairwise lt
  mem : ∀ c, c ∈ r ↔ IsLeast B s c
  len : r.length ≤ s.length

variable {lt : α → α → Prop}

theorem asc_ext (irr : ∀ x, ¬ lt x x) (tr : ∀ x y z, lt x y → lt y z → lt x z) : ∀ {r r' : List α}, r.Pairwise lt → r'.Pairwise lt → (∀ c, c ∈ r ↔ c ∈ r') → r = r' := by
  intro r
  induction r with
  | nil =>
    intro r' _ _ h
    cases r' with
    | nil => rfl
    | cons a l => exact absurd ((h a).2 List.mem_cons_self) (by simp)
  | cons a l ih =>
    intro r' h1 h2 h
    cases r' with
    | nil => exact absurd ((h a).1 List.mem_cons_self) (by simp)
    | cons b l' =>
      have ⟨h1a, h1l⟩ := List.pairwise_cons.1 h1
      have ⟨h2b, h2l⟩ := List.pairwise_cons.1 h2
      have e : a = b := by
        rcases List.mem_cons.1 ((h a).1 List.mem_cons_self) with e | e
        · exact e
        · rcases List.mem_cons.1 ((h b).2 List.mem_cons_self) with e' | e'
          · exact e'.symm
          · exact absurd (tr _ _ _ (h2b a e) (h1a b e')) (irr b)
      subst e
      rw [ih h1l h2l fun c => ?_]
      constructor
      · intro hc
        rcases List.mem_cons.1 ((h c).1 (List.mem_cons_of_mem _ hc)) with e | e
        · subst e; exact absurd (h1a c hc) (irr c)
        · exact e
      · intro hc
        rcases List.mem_cons.1 ((h c).2 (List.mem_cons_of_mem _ hc)) with e | e
        · subst e; exact absurd (h2b c hc) (irr c)
        · exact e

theorem IsNormalOf.unique (irr : ∀ x, ¬ lt x x) (tr : ∀ x y z, lt x y → lt y z → lt x z) {s s' r r' : List α} (h : IsNormalOf lt B s r) (h' : IsNormalOf lt B s' r') (e : ∀ c, IsLeast B s c ↔ IsLeast B s' c) : r = r' :=
  asc_ext irr tr h.asc h'.asc fun c => (h.mem c).trans ((e c).trans (h'.mem c).symm)

theorem isLeast_of_mem {s s' : List α} (h : ∀ c, c ∈ s ↔ c ∈ s') (c : α) : IsLeast B s c ↔ IsLeast B s' c :=
  ⟨fun ⟨a, b⟩ => ⟨(h c).1 a, fun d hd => b d ((h d).2 hd)⟩, fun ⟨a, b⟩ => ⟨(h c).2 a, fun d hd => b d ((h d).1 hd)⟩⟩

theorem isLeast_idem {s r : List α} (h : IsNormalOf lt B s r) (c : α) : IsLeast B r c ↔ IsLeast B s c :=
  ⟨fun ⟨a, _⟩ => (h.mem c).1 a, fun ha => ⟨(h.mem c).2 ha, fun d hd hb => ha.2 d ((h.mem d).1 hd).1 hb⟩⟩

theorem normal_known {s r : List α} (h : IsNormalOf lt B s r) (hk : ∀ c ∈ s, K c = true) : ∀ c ∈ r, K c = true := fun c hc => hk c ((h.mem c).1 hc).1

/-- Sorts within each other have one Normal, and only these. -/
theorem normal_eq_iff (o : Ord K B) (irr : ∀ x, ¬ lt x x) (tr : ∀ x y z, lt x y → lt y z → lt x z) {a b n m : List α} (hn : IsNormalOf lt B a n) (hm : IsNormalOf lt B b m) (ka : ∀ c ∈ a, K c = true) (kb : ∀ c ∈ b, K c = true) :
    (lessB K B a b = true ∧ lessB K B b a = true) ↔ n = m := by
  constructor
  · rintro ⟨h1, h2⟩
    have ⟨_, h1⟩ := lessB_iff.1 h1
    have ⟨_, h2⟩ := lessB_iff.1 h2
    have half : ∀ a b : List α, (∀ c ∈ b, ∃ d ∈ a, B d c = true) → (∀ c ∈ a, ∃ d ∈ b, B d c = true) → ∀ c, IsLeast B a c → IsLeast B b c := by
      intro a b h1 h2 c ⟨hc, hl⟩
      obtain ⟨d, hd, hdc⟩ := h2 c hc
      obtain ⟨e, he, hed⟩ := h1 d hd
      have e1 := hl e he (o.trans _ _ _ hed hdc)
      subst e1
      have e2 := o.anti _ _ hdc hed
      subst e2
      refine ⟨hd, fun d' hd' hb => ?_⟩
      obtain ⟨f, hf, hfd⟩ := h1 d' hd'
      have e3 := hl f hf (o.trans _ _ _ hfd hb)
      subst e3
      exact o.anti _ _ hb hfd
    exact hn.unique irr tr hm fun c => ⟨half a b h1 h2 c, half b a h2 h1 c⟩
  · intro e
    subst e
    refine ⟨lessB_iff.2 ⟨ka, fun c hc => ?_⟩, lessB_iff.2 ⟨kb, fun c hc => ?_⟩⟩
    · obtain ⟨d, hd, hb⟩ := least_below o hc (kb c hc)
      exact ⟨d, ((hn.mem d).1 ((hm.mem d).2 hd)).1, hb⟩
    · obtain ⟨d, hd, hb⟩ := least_below o hc (ka c hc)
      exact ⟨d, ((hm.mem d).1 ((hn.mem d).2 hd)).1, hb⟩

theorem less_refl (o : Ord K B) {a : List α} (ka : ∀ c ∈ a, K c = true) : lessB K B a a = true := lessB_iff.2 ⟨ka, fun c hc => ⟨c, hc, o.refl c (ka c hc)⟩⟩

theorem less_trans (o : Ord K B) {a b c : List α} (h1 : lessB K B a b = true) (h2 : lessB K B b c = true) : lessB K B a c = true := by
  have ⟨k1, h1⟩ := lessB_iff.1 h1
  have ⟨_, h2⟩ := lessB_iff.1 h2
  refine lessB_iff.2 ⟨k1, fun x hx => ?_⟩
  obtain ⟨d, hd, hb⟩ := h2 x hx
  obtain ⟨e, he, hb'⟩ := h1 d hd
  exact ⟨e, he, o.trans _ _ _ hb' hb⟩

theorem less_normal_left (o : Ord K B) {a n : List α} (hn : IsNormalOf lt B a n) (ka : ∀ c ∈ a, K c = true) : lessB K B n a = true :=
  lessB_iff.2 ⟨normal_known hn ka, fun c hc => by obtain ⟨d, hd, hb⟩ := least_below o hc (ka c hc); exact ⟨d, (hn.mem d).2 hd, hb⟩⟩

theorem less_normal_right (o : Ord K B) {a n : List α} (hn : IsNormalOf lt B a n) (ka : ∀ c ∈ a, K c = true) : lessB K B a n = true :=
  lessB_iff.2 ⟨ka, fun c hc => ⟨c, ((hn.mem c).1 hc).1, o.refl c (normal_known hn ka c hc)⟩⟩

theorem less_append {x a b : List α} : lessB K B x (a ++ b) = (lessB K B x a && lessB K B x b) := by
  unfold lessB
  rw [List.all_append]
  cases x.all K <;> simp

theorem less_sub (o : Ord K B) {a b : List α} (ka : ∀ c ∈ a, K c = true) (h : ∀ c ∈ b, c ∈ a) : lessB K B a b = true :=
  lessB_iff.2 ⟨ka, fun c hc => ⟨c, h c hc, o.refl c (ka c (h c hc))⟩⟩

/-- Meet: the greatest sort within both. -/
theorem meet_greatest (o : Ord K B) {a b p q m c : List α} (hp : IsNormalOf lt B a p) (hq : IsNormalOf lt B b q) (hm : IsNormalOf lt B (p ++ q) m) (ka : ∀ c ∈ a, K c = true) (kb : ∀ c ∈ b, K c = true) :
    lessB K B m a = true ∧ lessB K B m b = true ∧ lessB K B c m = (lessB K B c a && lessB K B c b) := by
  have kp := normal_known hp ka
  have kq := normal_known hq kb
  have kpq : ∀ c ∈ p ++ q, K c = true := fun c hc => by rcases List.mem_append.1 hc with h | h; exact kp c h; exact kq c h
  have ma : lessB K B m (p ++ q) = true := less_normal_left o hm kpq
  have am : lessB K B (p ++ q) m = true := less_normal_right o hm kpq
  have pa := less_normal_left o hp ka
  have ap := less_normal_right o hp ka
  have qb := less_normal_left o hq kb
  have bq := less_normal_right o hq kb
  have h := ma
  rw [less_append, Bool.and_eq_true] at h
  have h1 := less_trans o h.1 pa
  have h2 := less_trans o h.2 qb
  refine ⟨h1, h2, ?_⟩
  rw [Bool.eq_iff_iff, Bool.and_eq_true]
  constructor
  · intro hc; exact ⟨less_trans o hc h1, less_trans o hc h2⟩
  · rintro ⟨ha, hb⟩
    refine less_trans o ?_ am
    rw [less_append, less_trans o ha ap, less_trans o hb bq]; rfl

end

/-! ### Reaching -/
inductive Reach (sup : Nat → List Nat) : Nat → Nat → Prop
  | refl (i : Nat) : Reach sup i i
  | step {i j k : Nat} : j ∈ sup i → Reach sup j k → Reach sup i k

theorem Reach.trans {sup : Nat → List Nat} {i j k : Nat} (h : Reach sup i j) (h' : Reach sup j k) : Reach sup i k := by
  induction h with
  | refl => exact h'
  | step hm _ ih => exact .step hm (ih h')

theorem Reach.le {sup : Nat → List Nat} (hs : ∀ i j, j ∈ sup i → j < i) {i j : Nat} (h : Reach sup i j) : j ≤ i := by
  induction h with
  | refl => exact Nat.le_refl _
  | step hm _ ih => have := hs _ _ hm; omega

theorem Reach.anti {sup : Nat → List Nat} (hs : ∀ i j, j ∈ sup i → j < i) {i j : Nat} (h : Reach sup i j) (h' : Reach sup j i) : i = j := Nat.le_antisymm (h'.le hs) (h.le hs)

theorem Reach.snoc {sup : Nat → List Nat} {i j k : Nat} (h : Reach sup i j) (hm : k ∈ sup j) : Reach sup i k := h.trans (.step hm (.refl k))

/-- What has the first one, and the supers of each of its own, has all that are reached. -/
theorem Reach.closed {sup : Nat → List Nat} {P : Nat → Prop} {i j : Nat} (h : Reach sup i j) (h0 : P i) (hc : ∀ x, P x → ∀ y ∈ sup x, P y) : P j := by
  induction h with
  | refl => exact h0
  | step hm _ ih => exact ih (hc _ h0 _ hm)

/-- Only what stands in the table counts: another table that says the same of all up to n. -/
theorem Reach.congr {sup sup' : Nat → List Nat} {n i j : Nat} (hs : ∀ i j, i < n → j ∈ sup i → j < n) (e : ∀ k, k < n → sup k = sup' k) (hi : i < n) (h : Reach sup i j) : Reach sup' i j := by
  induction h with
  | refl => exact .refl _
  | step hm _ ih => exact .step (by rw [← e _ hi]; exact hm) (ih (hs _ _ hi hm))
end Go.Proofs.Ytlaibimdkamcfaa
end

section
/-
  Strings in order of their bytes; what the list of a theory's classes says: its error, who is known, who is below whom; that this is an order.
-/
namespace Go.Proofs.Ytlaibimdkamcfaa
open Go.Lib Classical

/-! ### Strings -/
theorem cmp_self : ∀ a : List UInt8, compareBytes a a = 0
  | [] => rfl
  | x :: a => by unfold compareBytes; rw [if_neg (by simp [UInt8.lt_iff_toNat_lt]), if_neg (by simp [UInt8.lt_iff_toNat_lt])]; exact cmp_self a

theorem cmp_zero : ∀ a b : List UInt8, compareBytes a b = 0 → a = b
  | [], [], _ => rfl
  | [], _ :: _, h => by simp [compareBytes] at h
  | _ :: _, [], h => by simp [compareBytes] at h
  | x :: a, y :: b, h => by
    unfold compareBytes at h
    split at h
    · simp at h
    · split at h
      · simp at h
      · rename_i h1 h2
        have e : x = y := UInt8.toNat_inj.1 (by simp only [UInt8.lt_iff_toNat_lt] at h1 h2; omega)
        rw [e, cmp_zero a b h]

theorem cmp_swap : ∀ a b : List UInt8, compareBytes a b < 0 ↔ 0 < compareBytes b a
  | [], [] => by simp [compareBytes]
  | [], _ :: _ => by simp [compareBytes]
  | _ :: _, [] => by simp [compareBytes]
  | x :: a, y :: b => by
    unfold compareBytes
    simp only [UInt8.lt_iff_toNat_lt]
    by_cases h1 : x.toNat < y.toNat
    · rw [if_pos h1, if_neg (by omega), if_pos h1]; simp
    · by_cases h2 : y.toNat < x.toNat
      · rw [if_neg h1, if_pos h2, if_pos h2]; simp
      · rw [if_neg h1, if_neg h2, if_neg h2, if_neg h1]; exact cmp_swap a b

theorem cmp_trans : ∀ a b c : List UInt8, compareBytes a b < 0 → compareBytes b c < 0 → compareBytes a c < 0
  | [], [], _, h, _ => by simp [compareBytes] at h
  | _, _ :: _, [], _, h => by simp [compareBytes] at h
  | _ :: _, [], _, h, _ => by simp [compareBytes] at h
  | [], _ :: _, _ :: _, _, _ => by simp [compareBytes]
  | x :: a, y :: b, z :: c, h, h' => by
    unfold compareBytes at h h' ⊢
    simp only [UInt8.lt_iff_toNat_lt] at h h' ⊢
    by_cases h1 : x.toNat < y.toNat
    · by_cases h2 : y.toNat < z.toNat
      · rw [if_pos (by omega)]; simp
      · by_cases h3 : z.toNat < y.toNat
        · rw [if_neg h2, if_pos h3] at h'; simp at h'
        · rw [if_pos (by omega)]; simp
    · by_cases h2 : y.toNat < x.toNat
      · rw [if_neg h1, if_pos h2] at h; simp at h
      · rw [if_neg h1, if_neg h2] at h
        by_cases h3 : y.toNat < z.toNat
        · rw [if_pos (by omega)]; simp
        · by_cases h4 : z.toNat < y.toNat
          · rw [if_neg h3, if_pos h4] at h'; simp at h'
          · rw [if_neg h3, if_neg h4] at h'
            rw [if_neg (by omega), if_neg (by omega)]
            exact cmp_trans a b c h h'

def cmpS (x y : ByteArray) : Int := compareBytes x.data.toList y.data.toList
/-- A string stands ahead of another one. -/
def ltS (x y : ByteArray) : Prop := cmpS x y < 0

theorem data_inj {x y : ByteArray} (h : x.data.toList = y.data.toList) : x = y := by
  cases x; cases y; simp only [Array.toList_inj] at h; subst h; rfl

theorem ltS_irr (x : ByteArray) : ¬ ltS x x := by unfold ltS cmpS; rw [cmp_self]; decide
theorem ltS_trans (x y z : ByteArray) : ltS x y → ltS y z → ltS x z := cmp_trans _ _ _
theorem ltS_conn {x y : ByteArray} (h : ¬ ltS x y) (h' : ¬ ltS y x) : x = y := by
  have := cmp_swap y.data.toList x.data.toList
  unfold ltS cmpS at h h'
  exact data_inj (cmp_zero _ _ (by omega))

theorem swo_cmpS : Go.Sort.SWO (Go.Proofs.ltOf cmpS) where
  irrefl x := by unfold Go.Proofs.ltOf cmpS; rw [cmp_self]; decide
  trans x y z h h' := by unfold Go.Proofs.ltOf at *; simp only [decide_eq_true_eq] at *; exact ltS_trans x y z h h'
  ntrans x y z h h' := by
    unfold Go.Proofs.ltOf at *
    simp only [decide_eq_false_iff_not] at *
    intro hxz
    by_cases hxy : ltS y x
    · exact h' (ltS_trans y x z hxy hxz)
    · have := ltS_conn h hxy; subst this; exact h' hxz

theorem bytesLess_cmp : ∀ a b : List UInt8, Op.bytesLess a b = decide (compareBytes a b < 0)
  | [], [] => by simp [compareBytes, Op.bytesLess]
  | [], _ :: _ => by simp [compareBytes, Op.bytesLess]
  | _ :: _, [] => by simp [compareBytes, Op.bytesLess]
  | x :: a, y :: b => by
    have ih := bytesLess_cmp a b
    unfold compareBytes
    by_cases h1 : x < y
    · rw [if_pos h1]; simp [Op.bytesLess, h1]
    · rw [if_neg h1]
      by_cases h2 : y < x
      · rw [if_pos h2]
        have : x ≠ y := by intro e; subst e; exact h1 h2
        simp [Op.bytesLess, h1, this]
      · rw [if_neg h2, ← ih]
        have : x = y := UInt8.toNat_inj.1 (by simp only [UInt8.lt_iff_toNat_lt] at h1 h2; omega)
        subst this
        simp [Op.bytesLess, h1]

theorem bytesLess_ltS (x y : ByteArray) : Op.bytesLess x.toList y.toList = true ↔ ltS x y := by
  rw [bytesLess_cmp, ByteArray.toList_eq, ByteArray.toList_eq, decide_eq_true_eq]; exact Iff.rfl

theorem toList_beq (x y : ByteArray) : (x.toList == y.toList) = decide (x = y) := by
  rw [ByteArray.toList_eq, ByteArray.toList_eq, Bool.eq_iff_iff, beq_iff_eq, decide_eq_true_eq]
  exact ⟨data_inj, fun h => by rw [h]⟩

/-! ### Names -/
/-- A byte with which a name may begin. -/
def startsB (b : Int) : Bool := decide (97 ≤ b ∧ b ≤ 122) || decide (65 ≤ b ∧ b ≤ 90) || decide (b = 95)
/-- A byte that a name may have behind its first one besides. -/
def contB (b : Int) : Bool := decide (48 ≤ b ∧ b ≤ 57) || decide (b = 39) || decide (b = 46)
/-- The bytes of a name from a place on. -/
def nameFrom (first : Bool) : List UInt8 → Bool
  | [] => true
  | b :: r => (startsB (b.toNat : Int) || !first && contB (b.toNat : Int)) && nameFrom false r
/-- Is a string a name? -/
def nameB (s : ByteArray) : Bool := decide (1 ≤ s.size) && decide (s.size ≤ 40) && nameFrom true s.data.toList

/-! ### Errors, one after the other -/
/-- The first error of n places. -/
def firstErr : Nat → (Nat → Int) → Int
  | 0, _ => 0
  | n + 1, f => if firstErr n f ≠ 0 then firstErr n f else f n

theorem firstErr_zero {f : Nat → Int} : ∀ {n : Nat}, firstErr n f = 0 ↔ ∀ i, i < n → f i = 0
  | 0 => by simp [firstErr]
  | n + 1 => by
    unfold firstErr
    by_cases h : firstErr n f = 0
    · rw [if_neg (by simpa using h)]
      have ih := firstErr_zero.1 h
      constructor
      · intro e i hi
        by_cases hin : i = n
        · subst hin; exact e
        · exact ih i (by omega)
      · intro e; exact e n (by omega)
    · rw [if_pos h]
      constructor
      · intro e; exact absurd e h
      · intro e; exact absurd (firstErr_zero.2 fun i hi => e i (by omega)) h

theorem firstErr_at {f : Nat → Int} : ∀ {n i : Nat}, i < n → (∀ j, j < i → f j = 0) → f i ≠ 0 → firstErr n f = f i
  | 0, _, h, _, _ => by omega
  | n + 1, i, h, hz, hne => by
    unfold firstErr
    by_cases hi : i = n
    · subst hi; rw [if_neg (by simpa using firstErr_zero.2 hz)]
    · rw [firstErr_at (n := n) (by omega) hz hne, if_pos hne]

/-! ### Classes -/
structure Cls where
  name : ByteArray
  sups : List ByteArray

def namesOf (cs : List Cls) : List ByteArray := cs.map Cls.name
def clsAt (cs : List Cls) (i : Nat) : Cls := cs.getD i ⟨ByteArray.empty, []⟩
def strAt (l : List ByteArray) (i : Nat) : ByteArray := l.getD i ByteArray.empty

/-- The error at one of the supers of a class behind others. -/
noncomputable def supErr (pre : List ByteArray) (l : List ByteArray) (i : Nat) : Int :=
  if strAt l i ∈ pre then (if 0 < i ∧ ¬ cmpS (strAt l (i - 1)) (strAt l i) < 0 then 17 else 0) else 9

/-- The error of a class behind others of these names. -/
noncomputable def clsErr (pre : List ByteArray) (c : Cls) : Int :=
  if nameB c.name = true then (if c.name ∈ pre then 10 else if 20 < c.sups.length then 5 else firstErr c.sups.length (supErr pre c.sups)) else 30

/-- The error of the classes of a theory. -/
noncomputable def openErr (cs : List Cls) : Int := if 300 < cs.length then 5 else firstErr cs.length fun i => clsErr (namesOf (cs.take i)) (clsAt cs i)

noncomputable def knownB (cs : List Cls) (s : ByteArray) : Bool := decide (s ∈ namesOf cs)
noncomputable def idxOfC (cs : List Cls) (s : ByteArray) : Nat := (namesOf cs).findIdx (fun x => decide (x = s))
noncomputable def supOf (cs : List Cls) (i : Nat) : List Nat := (clsAt cs i).sups.map (idxOfC cs)
/-- A class is another one, or below it. -/
noncomputable def belowB (cs : List Cls) (x y : ByteArray) : Bool := knownB cs x && knownB cs y && decide (Reach (supOf cs) (idxOfC cs x) (idxOfC cs y))

section
variable {cs : List Cls}

theorem strAt_eq {l : List ByteArray} {i : Nat} (hi : i < l.length) : strAt l i = l[i] := by simp [strAt, hi]

theorem open_le (h : openErr cs = 0) : cs.length ≤ 300 := by
  unfold openErr at h
  split at h
  · simp at h
  · omega

theorem open_cls (h : openErr cs = 0) (i : Nat) (hi : i < cs.length) : clsErr (namesOf (cs.take i)) (clsAt cs i) = 0 := by
  unfold openErr at h
  split at h
  · simp at h
  · exact firstErr_zero.1 h i hi

theorem cls_ok {pre : List ByteArray} {c : Cls} (h : clsErr pre c = 0) : nameB c.name = true ∧ c.name ∉ pre ∧ c.sups.length ≤ 20 ∧ ∀ s ∈ c.sups, s ∈ pre := by
  unfold clsErr at h
  split at h
  · rename_i h1
    split at h
    · simp at h
    · rename_i h2
      split at h
      · simp at h
      · rename_i h3
        refine ⟨h1, h2, by omega, fun s hs => ?_⟩
        obtain ⟨i, hi, e⟩ := List.getElem_of_mem hs
        have := firstErr_zero.1 h i hi
        unfold supErr at this
        split at this
        · rename_i h4
          rwa [strAt_eq hi, e] at h4
        · simp at this
  · simp at h

theorem clsAt_eq {i : Nat} (hi : i < cs.length) : clsAt cs i = cs[i] := by simp [clsAt, hi]

theorem names_take (i : Nat) : namesOf (cs.take i) = (namesOf cs).take i := List.map_take

theorem namesOf_length : (namesOf cs).length = cs.length := List.length_map _

theorem namesOf_get {i : Nat} (hi : i < cs.length) : (namesOf cs)[i]'(by rw [namesOf_length]; exact hi) = cs[i].name := by unfold namesOf; rw [List.getElem_map]

theorem names_nodup (h : openErr cs = 0) : (namesOf cs).Nodup := by
  rw [List.nodup_iff_pairwise_ne, List.pairwise_iff_getElem]
  intro i j hi hj hij e
  rw [namesOf_length] at hi hj
  have h1 := (cls_ok (open_cls h j hj)).2.1
  rw [clsAt_eq hj, names_take] at h1
  refine h1 (List.mem_take_iff_getElem.2 ⟨i, by rw [namesOf_length]; omega, ?_⟩)
  rw [namesOf_get hi, ← namesOf_get hj, ← e, namesOf_get hi]

theorem idx_lt {s : ByteArray} (h : knownB cs s = true) : idxOfC cs s < cs.length := by
  unfold knownB at h
  have := List.findIdx_lt_length_of_exists (xs := namesOf cs) (p := fun x => decide (x = s)) ⟨s, by simpa using h, by simp⟩
  rwa [namesOf_length] at this

theorem idx_get {s : ByteArray} (h : knownB cs s = true) : (cs[idxOfC cs s]'(idx_lt h)).name = s := by
  rw [← namesOf_get (idx_lt h)]
  have := List.findIdx_getElem (xs := namesOf cs) (p := fun x => decide (x = s)) (w := by have := idx_lt h; rw [namesOf_length]; exact this)
  simpa [idxOfC] using this

theorem idx_inj {s s' : ByteArray} (h : knownB cs s = true) (h' : knownB cs s' = true) (e : idxOfC cs s = idxOfC cs s') : s = s' := by
  rw [← idx_get h, ← idx_get h']
  simp only [e]

theorem idx_take {s : ByteArray} {i : Nat} (h : s ∈ namesOf (cs.take i)) : idxOfC (cs.take i) s = idxOfC cs s ∧ knownB cs s = true ∧ idxOfC cs s < i := by
  have h2 := h
  rw [names_take] at h
  have e : idxOfC (cs.take i) s = idxOfC cs s := by
    unfold idxOfC
    conv => rhs; rw [← List.take_append_drop i (namesOf cs)]
    rw [List.findIdx_append, if_pos (List.findIdx_lt_length_of_exists ⟨s, h, by simp⟩), names_take]
  refine ⟨e, by simpa [knownB] using List.mem_of_mem_take h, ?_⟩
  rw [← e]
  have := idx_lt (cs := cs.take i) (s := s) (by simpa [knownB] using h2)
  rw [List.length_take] at this
  omega

theorem sup_lt (h : openErr cs = 0) (i j : Nat) (hj : j ∈ supOf cs i) : j < i := by
  unfold supOf at hj
  by_cases hi : i < cs.length
  · obtain ⟨s, hs, rfl⟩ := List.mem_map.1 hj
    exact (idx_take ((cls_ok (open_cls h i hi)).2.2.2 s hs)).2.2
  · unfold clsAt at hj
    simp [show ¬ i < cs.length from hi] at hj

theorem below_known {x y : ByteArray} (h : belowB cs x y = true) : knownB cs x = true ∧ knownB cs y = true ∧ Reach (supOf cs) (idxOfC cs x) (idxOfC cs y) := by
  unfold belowB at h
  rw [Bool.and_eq_true, Bool.and_eq_true, decide_eq_true_eq] at h
  exact ⟨h.1.1, h.1.2, h.2⟩

theorem below_mk {x y : ByteArray} (hx : knownB cs x = true) (hy : knownB cs y = true) (h : Reach (supOf cs) (idxOfC cs x) (idxOfC cs y)) : belowB cs x y = true := by
  unfold belowB
  rw [hx, hy, decide_eq_true h]; rfl

/-- The classes of a theory without an error are in order. -/
theorem classes_ord (h : openErr cs = 0) : Ord (knownB cs) (belowB cs) where
  refl x hx := below_mk hx hx (.refl _)
  trans x y z h1 h2 := below_mk (below_known h1).1 (below_known h2).2.1 ((below_known h1).2.2.trans (below_known h2).2.2)
  anti x y h1 h2 := idx_inj (below_known h1).1 (below_known h1).2.1 ((below_known h1).2.2.anti (sup_lt h) (below_known h2).2.2)
  left x y h1 := (below_known h1).1
  right x y h1 := (below_known h1).2.1
end
end Go.Proofs.Ytlaibimdkamcfaa

/-
  The first classes of a list, by themselves.
-/
namespace Go.Proofs.Ytlaibimdkamcfaa
open Classical

variable {cs : List Cls}

theorem clsAt_take {i k : Nat} (h : k < i) : clsAt (cs.take i) k = clsAt cs k := by
  unfold clsAt
  rw [List.getD_eq_getElem?_getD, List.getD_eq_getElem?_getD, List.getElem?_take_of_lt h]

theorem prefix_ok (hl : cs.length ≤ 300) {i : Nat} (hz : ∀ k, k < i → clsErr (namesOf (cs.take k)) (clsAt cs k) = 0) : openErr (cs.take i) = 0 := by
  unfold openErr
  have hle : (cs.take i).length ≤ i := by rw [List.length_take]; omega
  have hle2 : (cs.take i).length ≤ cs.length := by rw [List.length_take]; omega
  rw [if_neg (by omega), firstErr_zero]
  intro k hk
  rw [List.take_take, Nat.min_eq_left (by omega), clsAt_take (by omega)]
  exact hz k (by omega)

theorem sup_take {i k : Nat} (hO : openErr (cs.take i) = 0) (hk : k < i) (hi : i ≤ cs.length) : supOf (cs.take i) k = supOf cs k := by
  unfold supOf
  rw [clsAt_take hk]
  refine List.map_congr_left fun s hs => ?_
  have h1 := (cls_ok (open_cls hO k (by rw [List.length_take]; omega))).2.2.2
  rw [clsAt_take hk] at h1
  have h2 := h1 s hs
  rw [List.take_take, Nat.min_eq_left (by omega)] at h2
  refine (idx_take ?_).1
  rw [names_take] at h2 ⊢
  exact (List.take_subset_take_left _ (by omega)) h2

theorem sup_prefix_lt {i k j : Nat} (hO : openErr (cs.take i) = 0) (hk : k < i) (hi : i ≤ cs.length) (hj : j ∈ supOf cs k) : j < k := by
  rw [← sup_take hO hk hi] at hj
  exact sup_lt hO k j hj

theorem reach_take {i k j : Nat} (hO : openErr (cs.take i) = 0) (hk : k < i) (hi : i ≤ cs.length) : Reach (supOf (cs.take i)) k j ↔ Reach (supOf cs) k j :=
  ⟨Reach.congr (fun a b ha hb => Nat.lt_trans (sup_lt hO a b hb) ha) (fun a ha => sup_take hO ha hi) hk,
   Reach.congr (fun a b ha hb => Nat.lt_trans (sup_prefix_lt hO ha hi hb) ha) (fun a ha => (sup_take hO ha hi).symm) hk⟩

theorem sup_len {i : Nat} (hO : openErr (cs.take i) = 0) (k : Nat) : (supOf (cs.take i) k).length ≤ 20 := by
  unfold supOf
  rw [List.length_map]
  by_cases h : k < (cs.take i).length
  · exact (cls_ok (open_cls hO k h)).2.2.1
  · unfold clsAt
    rw [List.getD_eq_getElem?_getD, List.getElem?_eq_none (by omega)]
    simp

theorem idx_self {i : Nat} (hO : openErr (cs.take (i + 1)) = 0) (hi : i < cs.length) : idxOfC cs (cs[i]).name = i := by
  have hm : (cs[i]).name ∈ namesOf (cs.take (i + 1)) := by
    rw [← List.take_append_getElem hi]; unfold namesOf; rw [List.map_append]; simp
  rw [← (idx_take hm).1]
  have hk : knownB (cs.take (i + 1)) (cs[i]).name = true := by unfold knownB; simpa using hm
  have hl := idx_lt hk
  have hll : (cs.take (i + 1)).length = i + 1 := by rw [List.length_take]; omega
  have h1 := idx_get hk
  rcases Nat.lt_or_ge (idxOfC (cs.take (i + 1)) (cs[i]).name) i with h | h
  · have h2 := (cls_ok (open_cls hO i (by omega))).2.1
    rw [clsAt_take (by omega), clsAt_eq hi, List.take_take, Nat.min_eq_left (by omega)] at h2
    refine absurd ?_ h2
    rw [← h1]
    unfold namesOf
    refine List.mem_map_of_mem ?_
    rw [List.getElem_take]
    exact List.mem_take_iff_getElem.2 ⟨_, by omega, rfl⟩
  · omega

theorem openErr_of {i : Nat} (hl : cs.length ≤ 300) (hi : i < cs.length) (hz : ∀ k, k < i → clsErr (namesOf (cs.take k)) (clsAt cs k) = 0) (hne : clsErr (namesOf (cs.take i)) (clsAt cs i) ≠ 0) : openErr cs = clsErr (namesOf (cs.take i)) (clsAt cs i) := by
  unfold openErr
  rw [if_neg (by omega)]
  exact firstErr_at (f := fun i => clsErr (namesOf (cs.take i)) (clsAt cs i)) hi hz hne

theorem openErr_zero (hl : cs.length ≤ 300) (hz : ∀ k, k < cs.length → clsErr (namesOf (cs.take k)) (clsAt cs k) = 0) : openErr cs = 0 := by
  unfold openErr
  rw [if_neg (by omega), firstErr_zero]
  exact hz
end Go.Proofs.Ytlaibimdkamcfaa
end

section
/-
  Bit sets of classes: has and add of one word.
-/
namespace Go.Proofs.Ytlaibimdkamcfaa
open Go.RowKit

theorem and_one (v r : Nat) (h1 : v < 18446744073709551616) : (bits BinOp.and IntKind.u64 ((v : Int) / 2 ^ r) 1 == 1) = v.testBit r := by
  have e : ((v : Int) / 2 ^ r) = ((v / 2 ^ r : Nat) : Int) := by push_cast; rfl
  have hl : v / 2 ^ r < 18446744073709551616 := Nat.lt_of_le_of_lt (Nat.div_le_self _ _) h1
  rw [e, show (1 : Int) = ((1 : Nat) : Int) from rfl, u64_and_nat _ _ hl (by decide), Nat.and_one_is_mod, Nat.testBit_eq_decide_div_mod_eq]
  rw [Bool.eq_iff_iff]
  simp
  omega

set_option maxRecDepth 100000 in
set_option maxHeartbeats 1000000 in
theorem has_any (b o i v : Nat) (w : World) (hi : i < 320) (hc : w.cell? ⟨b, o + i / 64, none⟩ = some (.int .u64 v)) (h1 : v < 18446744073709551616) :
    Calls Try.prog 70 #[.pointer (some ⟨b, o, none⟩), .int .i64 i] w fun e w' => e = .returned (.bool (v.testBit (i % 64))) ∧ w' = w := by
  go_enter Try.func70, Try.ntmps70
  go_wp2_with fail
  go_ret
  exact ⟨by simp only [List.getElem?_toArray, Array.getD, Array.size]; exact congrArg _ (congrArg _ (and_one v (i % 64) h1)), rfl⟩

theorem or_pow (v r : Nat) (h1 : v < 18446744073709551616) (hr : r < 64) : bits BinOp.or IntKind.u64 (v : Int) (IntKind.u64.wrap (2 ^ r)) = ((v ||| 2 ^ r : Nat) : Int) := by
  have hp : 2 ^ r < 18446744073709551616 := Nat.pow_lt_pow_right (by decide) (show r < 64 from hr)
  have e : IntKind.u64.wrap (2 ^ r) = ((2 ^ r : Nat) : Int) := by
    have e2 : ((2 : Int) ^ r) = ((2 ^ r : Nat) : Int) := (Int.natCast_pow 2 r).symm
    rw [e2]
    have hp' : ((2 ^ r : Nat) : Int) < 18446744073709551616 := by generalize 2 ^ r = q at *; omega
    have h0 : (0 : Int) ≤ ((2 ^ r : Nat) : Int) := Int.natCast_nonneg _
    generalize ((2 ^ r : Nat) : Int) = q at *
    simp only [IntKind.wrap]
    have e3 : q % 2 ^ IntKind.u64.bits = q := Int.emod_eq_of_lt h0 (by simpa [IntKind.bits] using hp')
    rw [e3]
    simp [IntKind.signed]
  rw [e, bits_or_u64_nat _ _ h1 hp]

set_option maxRecDepth 100000 in
set_option maxHeartbeats 1000000 in
theorem add_any (b o i v : Nat) (w : World) (hi : i < 320) (hc : w.cell? ⟨b, o + i / 64, none⟩ = some (.int .u64 v)) (hf : w.frozen? ⟨b, o + i / 64, none⟩ = false) (h1 : v < 18446744073709551616) :
    Calls Try.prog 69 #[.pointer (some ⟨b, o, none⟩), .int .i64 i] w fun e w' => e = .returned (.tuple #[]) ∧ w' = (w.setCell ⟨b, o + i / 64, none⟩ (.int .u64 ((v ||| 2 ^ (i % 64) : Nat) : Int))).drew := by
  have hcd : w.drew.cell? ⟨b, o + i / 64, none⟩ = some (.int .u64 v) := hc
  have hfd : w.drew.frozen? ⟨b, o + i / 64, none⟩ = false := hf
  go_enter Try.func69, Try.ntmps69
  go_wp2_with fail
  go_region
  all_goals go_wp2_with fail
  all_goals
    go_end0
    exact ⟨rfl, by rw [or_pow v (i % 64) h1 (by omega)]⟩
end Go.Proofs.Ytlaibimdkamcfaa

/-
  Algebra.Has: whether a class exists, by the algebra's index.
-/
namespace Go.Proofs.Ytlaibimdkamcfaa
open Go.RowKit Go.Maps

theorem zero3 (w : World) : (zeroValue 3).run Try.prog w = .ok (.int .i64 0) w := Try.zeroValue3 w

set_option maxRecDepth 100000 in
set_option maxHeartbeats 1000000 in
theorem hasClass_any (na ua ba ta : Option Addr) (nl nc ul uc bl bc tl tc mb n : Nat) (tm sm : Option Nat) (D : DataW Unit) (s : ByteArray) (w : World) (hm : w.ownsMap Try.prog 9 (plainElem (H := Unit) Try.prog 3) mb n D) (hs : s.size ≤ maxLen) :
    Calls Try.prog 71 #[.agg #[.slice na nl nc, .map (some mb), .slice ua ul uc, .slice ba bl bc, .slice ta tl tc, .map tm, .map sm], .string s] w fun e w' => e = .returned (.bool (Maps.has D (.string s.data.toList))) ∧ Below w.heap.size w w' := by
  have hb : Below w.heap.size w (w.alloc (.cells #[.slice na nl nc, .map (some mb), .slice ua ul uc, .slice ba bl bc, .slice ta tl tc, .map tm, .map sm] 70)) := (Below.refl _ w).alloc (Nat.le_refl _) _
  have hm2 : (w.alloc (.cells #[.slice na nl nc, .map (some mb), .slice ua ul uc, .slice ba bl bc, .slice ta tl tc, .map tm, .map sm] 70)).ownsMap Try.prog 9 (plainElem (H := Unit) Try.prog 3) mb n D := hm.kept (World.grownBy_alloc w _ none) (by simp)
  go_enter Try.func71, Try.ntmps71
  go_wp2_with (at_lookup; refine wpList_lookup_own_ok_int _ rfl _ _ 65 rfl 9 3 .i64 (string_keyed Try.underlying9) Try.underlying65 Try.underlying3 (zero3 _) mb n D rfl hm2 _ _ rfl (Go.WideMaps.keyOf_string_mk Try.underlying9 hs) ?_; intro c hat hwc)
  go_ret
  exact ⟨rfl, hb⟩
end Go.Proofs.Ytlaibimdkamcfaa
end

