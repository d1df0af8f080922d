/-
  Strings in order of their bytes; what the list of a theory's classes says: its error, who is known, who is below whom; that this is an order.
-/
import Derived.Test.YtlaibimdkamcfaaM1
import Derived.Shelf.SlSortCmp.Insertion
import Derived.Lib.Bytealg
import Derived.WalkKit
namespace Go.Proofs.Ytlaibimdkamcfaa
open Go.Lib Classical

/-! ### Strings -/
theorem cmp_self : ∀ a : List UInt8, compareBytes a a = 0
  | [] => rfl
  | x :: a => by unfold compareBytes; rw [if_neg (by simp [UInt8.lt_iff_toNat_lt]), if_neg (by simp [UInt8.lt_iff_toNat_lt])]; exact cmp_self a

theorem cmp_zero : ∀ a b : List UInt8, compareBytes a b = 0 → a = b
  | [], [], _ => rfl
  | [], _ :: _, h => by simp [compareBytes] at h
  | _ :: _, [], h => by simp [compareBytes] at h
  | x :: a, y :: b, h => by
    unfold compareBytes at h
    split at h
    · simp at h
    · split at h
      · simp at h
      · rename_i h1 h2
        have e : x = y := UInt8.toNat_inj.1 (by simp only [UInt8.lt_iff_toNat_lt] at h1 h2; omega)
        rw [e, cmp_zero a b h]

theorem cmp_swap : ∀ a b : List UInt8, compareBytes a b < 0 ↔ 0 < compareBytes b a
  | [], [] => by simp [compareBytes]
  | [], _ :: _ => by simp [compareBytes]
  | _ :: _, [] => by simp [compareBytes]
  | x :: a, y :: b => by
    unfold compareBytes
    simp only [UInt8.lt_iff_toNat_lt]
    by_cases h1 : x.toNat < y.toNat
    · rw [if_pos h1, if_neg (by omega), if_pos h1]; simp
    · by_cases h2 : y.toNat < x.toNat
      · rw [if_neg h1, if_pos h2, if_pos h2]; simp
      · rw [if_neg h1, if_neg h2, if_neg h2, if_neg h1]; exact cmp_swap a b

theorem cmp_trans : ∀ a b c : List UInt8, compareBytes a b < 0 → compareBytes b c < 0 → compareBytes a c < 0
  | [], [], _, h, _ => by simp [compareBytes] at h
  | _, _ :: _, [], _, h => by simp [compareBytes] at h
  | _ :: _, [], _, h, _ => by simp [compareBytes] at h
  | [], _ :: _, _ :: _, _, _ => by simp [compareBytes]
  | x :: a, y :: b, z :: c, h, h' => by
    unfold compareBytes at h h' ⊢
    simp only [UInt8.lt_iff_toNat_lt] at h h' ⊢
    by_cases h1 : x.toNat < y.toNat
    · by_cases h2 : y.toNat < z.toNat
      · rw [if_pos (by omega)]; simp
      · by_cases h3 : z.toNat < y.toNat
        · rw [if_neg h2, if_pos h3] at h'; simp at h'
        · rw [if_pos (by omega)]; simp
    · by_cases h2 : y.toNat < x.toNat
      · rw [if_neg h1, if_pos h2] at h; simp at h
      · rw [if_neg h1, if_neg h2] at h
        by_cases h3 : y.toNat < z.toNat
        · rw [if_pos (by omega)]; simp
        · by_cases h4 : z.toNat < y.toNat
          · rw [if_neg h3, if_pos h4] at h'; simp at h'
          · rw [if_neg h3, if_neg h4] at h'
            rw [if_neg (by omega), if_neg (by omega)]
            exact cmp_trans a b c h h'

def cmpS (x y : ByteArray) : Int := compareBytes x.data.toList y.data.toList
/-- A string stands ahead of another one. -/
def ltS (x y : ByteArray) : Prop := cmpS x y < 0

theorem data_inj {x y : ByteArray} (h : x.data.toList = y.data.toList) : x = y := by
  cases x; cases y; simp only [Array.toList_inj] at h; subst h; rfl

theorem ltS_irr (x : ByteArray) : ¬ ltS x x := by unfold ltS cmpS; rw [cmp_self]; decide
theorem ltS_trans (x y z : ByteArray) : ltS x y → ltS y z → ltS x z := cmp_trans _ _ _
theorem ltS_conn {x y : ByteArray} (h : ¬ ltS x y) (h' : ¬ ltS y x) : x = y := by
  have := cmp_swap y.data.toList x.data.toList
  unfold ltS cmpS at h h'
  exact data_inj (cmp_zero _ _ (by omega))

theorem swo_cmpS : Go.Sort.SWO (Go.Proofs.ltOf cmpS) where
  irrefl x := by unfold Go.Proofs.ltOf cmpS; rw [cmp_self]; decide
  trans x y z h h' := by unfold Go.Proofs.ltOf at *; simp only [decide_eq_true_eq] at *; exact ltS_trans x y z h h'
  ntrans x y z h h' := by
    unfold Go.Proofs.ltOf at *
    simp only [decide_eq_false_iff_not] at *
    intro hxz
    by_cases hxy : ltS y x
    · exact h' (ltS_trans y x z hxy hxz)
    · have := ltS_conn h hxy; subst this; exact h' hxz

theorem bytesLess_cmp : ∀ a b : List UInt8, Op.bytesLess a b = decide (compareBytes a b < 0)
  | [], [] => by simp [compareBytes, Op.bytesLess]
  | [], _ :: _ => by simp [compareBytes, Op.bytesLess]
  | _ :: _, [] => by simp [compareBytes, Op.bytesLess]
  | x :: a, y :: b => by
    have ih := bytesLess_cmp a b
    unfold compareBytes
    by_cases h1 : x < y
    · rw [if_pos h1]; simp [Op.bytesLess, h1]
    · rw [if_neg h1]
      by_cases h2 : y < x
      · rw [if_pos h2]
        have : x ≠ y := by intro e; subst e; exact h1 h2
        simp [Op.bytesLess, h1, this]
      · rw [if_neg h2, ← ih]
        have : x = y := UInt8.toNat_inj.1 (by simp only [UInt8.lt_iff_toNat_lt] at h1 h2; omega)
        subst this
        simp [Op.bytesLess, h1]

theorem bytesLess_ltS (x y : ByteArray) : Op.bytesLess x.toList y.toList = true ↔ ltS x y := by
  rw [bytesLess_cmp, ByteArray.toList_eq, ByteArray.toList_eq, decide_eq_true_eq]; exact Iff.rfl

theorem toList_beq (x y : ByteArray) : (x.toList == y.toList) = decide (x = y) := by
  rw [ByteArray.toList_eq, ByteArray.toList_eq, Bool.eq_iff_iff, beq_iff_eq, decide_eq_true_eq]
  exact ⟨data_inj, fun h => by rw [h]⟩

/-! ### Names -/
/-- A byte with which a name may begin. -/
def startsB (b : Int) : Bool := decide (97 ≤ b ∧ b ≤ 122) || decide (65 ≤ b ∧ b ≤ 90) || decide (b = 95)
/-- A byte that a name may have behind its first one besides. -/
def contB (b : Int) : Bool := decide (48 ≤ b ∧ b ≤ 57) || decide (b = 39) || decide (b = 46)
/-- The bytes of a name from a place on. -/
def nameFrom (first : Bool) : List UInt8 → Bool
  | [] => true
  | b :: r => (startsB (b.toNat : Int) || !first && contB (b.toNat : Int)) && nameFrom false r
/-- Is a string a name? -/
def nameB (s : ByteArray) : Bool := decide (1 ≤ s.size) && decide (s.size ≤ 40) && nameFrom true s.data.toList

/-! ### Errors, one after the other -/
/-- The first error of n places. -/
def firstErr : Nat → (Nat → Int) → Int
  | 0, _ => 0
  | n + 1, f => if firstErr n f ≠ 0 then firstErr n f else f n

theorem firstErr_zero {f : Nat → Int} : ∀ {n : Nat}, firstErr n f = 0 ↔ ∀ i, i < n → f i = 0
  | 0 => by simp [firstErr]
  | n + 1 => by
    unfold firstErr
    by_cases h : firstErr n f = 0
    · rw [if_neg (by simpa using h)]
      have ih := firstErr_zero.1 h
      constructor
      · intro e i hi
        by_cases hin : i = n
        · subst hin; exact e
        · exact ih i (by omega)
      · intro e; exact e n (by omega)
    · rw [if_pos h]
      constructor
      · intro e; exact absurd e h
      · intro e; exact absurd (firstErr_zero.2 fun i hi => e i (by omega)) h

theorem firstErr_at {f : Nat → Int} : ∀ {n i : Nat}, i < n → (∀ j, j < i → f j = 0) → f i ≠ 0 → firstErr n f = f i
  | 0, _, h, _, _ => by omega
  | n + 1, i, h, hz, hne => by
    unfold firstErr
    by_cases hi : i = n
    · subst hi; rw [if_neg (by simpa using firstErr_zero.2 hz)]
    · rw [firstErr_at (n := n) (by omega) hz hne, if_pos hne]

/-! ### Classes -/
structure Cls where
  name : ByteArray
  sups : List ByteArray

def namesOf (cs : List Cls) : List ByteArray := cs.map Cls.name
def clsAt (cs : List Cls) (i : Nat) : Cls := cs.getD i ⟨ByteArray.empty, []⟩
def strAt (l : List ByteArray) (i : Nat) : ByteArray := l.getD i ByteArray.empty

/-- The error at one of the supers of a class behind others. -/
noncomputable def supErr (pre : List ByteArray) (l : List ByteArray) (i : Nat) : Int :=
  if strAt l i ∈ pre then (if 0 < i ∧ ¬ cmpS (strAt l (i - 1)) (strAt l i) < 0 then 17 else 0) else 9

/-- The error of a class behind others of these names. -/
noncomputable def clsErr (pre : List ByteArray) (c : Cls) : Int :=
  if nameB c.name = true then (if c.name ∈ pre then 10 else if 20 < c.sups.length then 5 else firstErr c.sups.length (supErr pre c.sups)) else 30

/-- The error of the classes of a theory. -/
noncomputable def openErr (cs : List Cls) : Int := if 300 < cs.length then 5 else firstErr cs.length fun i => clsErr (namesOf (cs.take i)) (clsAt cs i)

noncomputable def knownB (cs : List Cls) (s : ByteArray) : Bool := decide (s ∈ namesOf cs)
noncomputable def idxOfC (cs : List Cls) (s : ByteArray) : Nat := (namesOf cs).findIdx (fun x => decide (x = s))
noncomputable def supOf (cs : List Cls) (i : Nat) : List Nat := (clsAt cs i).sups.map (idxOfC cs)
/-- A class is another one, or below it. -/
noncomputable def belowB (cs : List Cls) (x y : ByteArray) : Bool := knownB cs x && knownB cs y && decide (Reach (supOf cs) (idxOfC cs x) (idxOfC cs y))

section
variable {cs : List Cls}

theorem strAt_eq {l : List ByteArray} {i : Nat} (hi : i < l.length) : strAt l i = l[i] := by simp [strAt, hi]

theorem open_le (h : openErr cs = 0) : cs.length ≤ 300 := by
  unfold openErr at h
  split at h
  · simp at h
  · omega

theorem open_cls (h : openErr cs = 0) (i : Nat) (hi : i < cs.length) : clsErr (namesOf (cs.take i)) (clsAt cs i) = 0 := by
  unfold openErr at h
  split at h
  · simp at h
  · exact firstErr_zero.1 h i hi

theorem cls_ok {pre : List ByteArray} {c : Cls} (h : clsErr pre c = 0) : nameB c.name = true ∧ c.name ∉ pre ∧ c.sups.length ≤ 20 ∧ ∀ s ∈ c.sups, s ∈ pre := by
  unfold clsErr at h
  split at h
  · rename_i h1
    split at h
    · simp at h
    · rename_i h2
      split at h
      · simp at h
      · rename_i h3
        refine ⟨h1, h2, by omega, fun s hs => ?_⟩
        obtain ⟨i, hi, e⟩ := List.getElem_of_mem hs
        have := firstErr_zero.1 h i hi
        unfold supErr at this
        split at this
        · rename_i h4
          rwa [strAt_eq hi, e] at h4
        · simp at this
  · simp at h

theorem clsAt_eq {i : Nat} (hi : i < cs.length) : clsAt cs i = cs[i] := by simp [clsAt, hi]

theorem names_take (i : Nat) : namesOf (cs.take i) = (namesOf cs).take i := List.map_take

theorem namesOf_length : (namesOf cs).length = cs.length := List.length_map _

theorem namesOf_get {i : Nat} (hi : i < cs.length) : (namesOf cs)[i]'(by rw [namesOf_length]; exact hi) = cs[i].name := by unfold namesOf; rw [List.getElem_map]

theorem names_nodup (h : openErr cs = 0) : (namesOf cs).Nodup := by
  rw [List.nodup_iff_pairwise_ne, List.pairwise_iff_getElem]
  intro i j hi hj hij e
  rw [namesOf_length] at hi hj
  have h1 := (cls_ok (open_cls h j hj)).2.1
  rw [clsAt_eq hj, names_take] at h1
  refine h1 (List.mem_take_iff_getElem.2 ⟨i, by rw [namesOf_length]; omega, ?_⟩)
  rw [namesOf_get hi, ← namesOf_get hj, ← e, namesOf_get hi]

theorem idx_lt {s : ByteArray} (h : knownB cs s = true) : idxOfC cs s < cs.length := by
  unfold knownB at h
  have := List.findIdx_lt_length_of_exists (xs := namesOf cs) (p := fun x => decide (x = s)) ⟨s, by simpa using h, by simp⟩
  rwa [namesOf_length] at this

theorem idx_get {s : ByteArray} (h : knownB cs s = true) : (cs[idxOfC cs s]'(idx_lt h)).name = s := by
  rw [← namesOf_get (idx_lt h)]
  have := List.findIdx_getElem (xs := namesOf cs) (p := fun x => decide (x = s)) (w := by have := idx_lt h; rw [namesOf_length]; exact this)
  simpa [idxOfC] using this

theorem idx_inj {s s' : ByteArray} (h : knownB cs s = true) (h' : knownB cs s' = true) (e : idxOfC cs s = idxOfC cs s') : s = s' := by
  rw [← idx_get h, ← idx_get h']
  simp only [e]

theorem idx_take {s : ByteArray} {i : Nat} (h : s ∈ namesOf (cs.take i)) : idxOfC (cs.take i) s = idxOfC cs s ∧ knownB cs s = true ∧ idxOfC cs s < i := by
  have h2 := h
  rw [names_take] at h
  have e : idxOfC (cs.take i) s = idxOfC cs s := by
    unfold idxOfC
    conv => rhs; rw [← List.take_append_drop i (namesOf cs)]
    rw [List.findIdx_append, if_pos (List.findIdx_lt_length_of_exists ⟨s, h, by simp⟩), names_take]
  refine ⟨e, by simpa [knownB] using List.mem_of_mem_take h, ?_⟩
  rw [← e]
  have := idx_lt (cs := cs.take i) (s := s) (by simpa [knownB] using h2)
  rw [List.length_take] at this
  omega

theorem sup_lt (h : openErr cs = 0) (i j : Nat) (hj : j ∈ supOf cs i) : j < i := by
  unfold supOf at hj
  by_cases hi : i < cs.length
  · obtain ⟨s, hs, rfl⟩ := List.mem_map.1 hj
    exact (idx_take ((cls_ok (open_cls h i hi)).2.2.2 s hs)).2.2
  · unfold clsAt at hj
    simp [show ¬ i < cs.length from hi] at hj

theorem below_known {x y : ByteArray} (h : belowB cs x y = true) : knownB cs x = true ∧ knownB cs y = true ∧ Reach (supOf cs) (idxOfC cs x) (idxOfC cs y) := by
  unfold belowB at h
  rw [Bool.and_eq_true, Bool.and_eq_true, decide_eq_true_eq] at h
  exact ⟨h.1.1, h.1.2, h.2⟩

theorem below_mk {x y : ByteArray} (hx : knownB cs x = true) (hy : knownB cs y = true) (h : Reach (supOf cs) (idxOfC cs x) (idxOfC cs y)) : belowB cs x y = true := by
  unfold belowB
  rw [hx, hy, decide_eq_true h]; rfl

/-- The classes of a theory without an error are in order. -/
theorem classes_ord (h : openErr cs = 0) : Ord (knownB cs) (belowB cs) where
  refl x hx := below_mk hx hx (.refl _)
  trans x y z h1 h2 := below_mk (below_known h1).1 (below_known h2).2.1 ((below_known h1).2.2.trans (below_known h2).2.2)
  anti x y h1 h2 := idx_inj (below_known h1).1 (below_known h1).2.1 ((below_known h1).2.2.anti (sup_lt h) (below_known h2).2.2)
  left x y h1 := (below_known h1).1
  right x y h1 := (below_known h1).2.1
end
end Go.Proofs.Ytlaibimdkamcfaa

/-
  The first classes of a list, by themselves.
-/
namespace Go.Proofs.Ytlaibimdkamcfaa
open Classical

variable {cs : List Cls}

theorem clsAt_take {i k : Nat} (h : k < i) : clsAt (cs.take i) k = clsAt cs k := by
  unfold clsAt
  rw [List.getD_eq_getElem?_getD, List.getD_eq_getElem?_getD, List.getElem?_take_of_lt h]

theorem prefix_ok (hl : cs.length ≤ 300) {i : Nat} (hz : ∀ k, k < i → clsErr (namesOf (cs.take k)) (clsAt cs k) = 0) : openErr (cs.take i) = 0 := by
  unfold openErr
  have hle : (cs.take i).length ≤ i := by rw [List.length_take]; omega
  have hle2 : (cs.take i).length ≤ cs.length := by rw [List.length_take]; omega
  rw [if_neg (by omega), firstErr_zero]
  intro k hk
  rw [List.take_take, Nat.min_eq_left (by omega), clsAt_take (by omega)]
  exact hz k (by omega)

theorem sup_take {i k : Nat} (hO : openErr (cs.take i) = 0) (hk : k < i) (hi : i ≤ cs.length) : supOf (cs.take i) k = supOf cs k := by
  unfold supOf
  rw [clsAt_take hk]
  refine List.map_congr_left fun s hs => ?_
  have h1 := (cls_ok (open_cls hO k (by rw [List.length_take]; omega))).2.2.2
  rw [clsAt_take hk] at h1
  have h2 := h1 s hs
  rw [List.take_take, Nat.min_eq_left (by omega)] at h2
  refine (idx_take ?_).1
  rw [names_take] at h2 ⊢
  exact (List.take_subset_take_left _ (by omega)) h2

theorem sup_prefix_lt {i k j : Nat} (hO : openErr (cs.take i) = 0) (hk : k < i) (hi : i ≤ cs.length) (hj : j ∈ supOf cs k) : j < k := by
  rw [← sup_take hO hk hi] at hj
  exact sup_lt hO k j hj

theorem reach_take {i k j : Nat} (hO : openErr (cs.take i) = 0) (hk : k < i) (hi : i ≤ cs.length) : Reach (supOf (cs.take i)) k j ↔ Reach (supOf cs) k j :=
  ⟨Reach.congr (fun a b ha hb => Nat.lt_trans (sup_lt hO a b hb) ha) (fun a ha => sup_take hO ha hi) hk,
   Reach.congr (fun a b ha hb => Nat.lt_trans (sup_prefix_lt hO ha hi hb) ha) (fun a ha => (sup_take hO ha hi).symm) hk⟩

theorem sup_len {i : Nat} (hO : openErr (cs.take i) = 0) (k : Nat) : (supOf (cs.take i) k).length ≤ 20 := by
  unfold supOf
  rw [List.length_map]
  by_cases h : k < (cs.take i).length
  · exact (cls_ok (open_cls hO k h)).2.2.1
  · unfold clsAt
    rw [List.getD_eq_getElem?_getD, List.getElem?_eq_none (by omega)]
    simp

theorem idx_self {i : Nat} (hO : openErr (cs.take (i + 1)) = 0) (hi : i < cs.length) : idxOfC cs (cs[i]).name = i := by
  have hm : (cs[i]).name ∈ namesOf (cs.take (i + 1)) := by
    rw [← List.take_append_getElem hi]; unfold namesOf; rw [List.map_append]; simp
  rw [← (idx_take hm).1]
  have hk : knownB (cs.take (i + 1)) (cs[i]).name = true := by unfold knownB; simpa using hm
  have hl := idx_lt hk
  have hll : (cs.take (i + 1)).length = i + 1 := by rw [List.length_take]; omega
  have h1 := idx_get hk
  rcases Nat.lt_or_ge (idxOfC (cs.take (i + 1)) (cs[i]).name) i with h | h
  · have h2 := (cls_ok (open_cls hO i (by omega))).2.1
    rw [clsAt_take (by omega), clsAt_eq hi, List.take_take, Nat.min_eq_left (by omega)] at h2
    refine absurd ?_ h2
    rw [← h1]
    unfold namesOf
    refine List.mem_map_of_mem ?_
    rw [List.getElem_take]
    exact List.mem_take_iff_getElem.2 ⟨_, by omega, rfl⟩
  · omega

theorem openErr_of {i : Nat} (hl : cs.length ≤ 300) (hi : i < cs.length) (hz : ∀ k, k < i → clsErr (namesOf (cs.take k)) (clsAt cs k) = 0) (hne : clsErr (namesOf (cs.take i)) (clsAt cs i) ≠ 0) : openErr cs = clsErr (namesOf (cs.take i)) (clsAt cs i) := by
  unfold openErr
  rw [if_neg (by omega)]
  exact firstErr_at (f := fun i => clsErr (namesOf (cs.take i)) (clsAt cs i)) hi hz hne

theorem openErr_zero (hl : cs.length ≤ 300) (hz : ∀ k, k < cs.length → clsErr (namesOf (cs.take k)) (clsAt cs k) = 0) : openErr cs = 0 := by
  unfold openErr
  rw [if_neg (by omega), firstErr_zero]
  exact hz
end Go.Proofs.Ytlaibimdkamcfaa
