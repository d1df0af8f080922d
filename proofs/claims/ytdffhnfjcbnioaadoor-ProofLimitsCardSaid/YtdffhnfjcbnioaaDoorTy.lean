/-
  Plain mathematics of types (the program's api.Type): a tree, its order and its equality. Nothing of the program is imported.
-/
import Derived.WalkKit
namespace Go.Proofs.YtdffhnfjcbnioaaDoor
open Go.RowKit

/-- A type as a tree: Op, Name, Index, Sort, Args. -/
inductive Ty where
  | mk (op : Int) (name : ByteArray) (index : Int) (sort : List ByteArray) (args : List Ty)

def Ty.op : Ty → Int | .mk o _ _ _ _ => o
def Ty.name : Ty → ByteArray | .mk _ n _ _ _ => n
def Ty.index : Ty → Int | .mk _ _ i _ _ => i
def Ty.sort : Ty → List ByteArray | .mk _ _ _ s _ => s
def Ty.args : Ty → List Ty | .mk _ _ _ _ a => a

/-- -1, 0 or 1 of two integers. -/
def c3 (x y : Int) : Int := if x < y then -1 else if y < x then 1 else 0
/-- -1, 0 or 1 of two strings. -/
def c3s (x y : ByteArray) : Int := if Op.bytesLess x.toList y.toList = true then -1 else if Op.bytesLess y.toList x.toList = true then 1 else 0
/-- The first of two numbers that is not 0. -/
def or2 (x y : Int) : Int := if x = 0 then y else x
/-- The order of lists: element by element, then the shorter one first. -/
def lexl {α : Type} (f : α → α → Int) : List α → List α → Int
  | [], [] => 0
  | [], _ :: _ => -1
  | _ :: _, [] => 1
  | x :: r, y :: s => or2 (f x y) (lexl f r s)

mutual
def Ty.cmp : Ty → Ty → Int
  | .mk o n i s a, .mk o' n' i' s' a' => or2 (or2 (c3 o o') (or2 (c3s n n') (or2 (c3 i i') (lexl c3s s s')))) (Ty.cmpL a a')
def Ty.cmpL : List Ty → List Ty → Int
  | [], [] => 0
  | [], _ :: _ => -1
  | _ :: _, [] => 1
  | x :: r, y :: s => or2 (Ty.cmp x y) (Ty.cmpL r s)
end

theorem cmpL_eq : ∀ l m, Ty.cmpL l m = lexl Ty.cmp l m
  | [], [] => rfl
  | [], _ :: _ => rfl
  | _ :: _, [] => rfl
  | x :: r, y :: s => by unfold Ty.cmpL lexl; rw [cmpL_eq r s]

/-! ### A comparison's laws -/

structure Cmp {α : Type} (f : α → α → Int) (a : α) : Prop where
  range : ∀ b, f a b = -1 ∨ f a b = 0 ∨ f a b = 1
  anti : ∀ b, f b a = - f a b
  zero : ∀ b, f a b = 0 ↔ a = b
  trans : ∀ b c, f a b ≤ 0 → f b c ≤ 0 → f a c ≤ 0

theorem Cmp.strict {α : Type} {f : α → α → Int} {a : α} (ha : Cmp f a) {b c : α} (_ : Cmp f b) (hc : Cmp f c) (h1 : f a b ≤ 0) (h2 : f b c ≤ 0) (h3 : f a c = 0) : f a b = 0 ∧ f b c = 0 := by
  obtain rfl := (ha.zero c).1 h3
  have := ha.anti b
  omega

theorem c3_cmp (a : Int) : Cmp c3 a where
  range b := by unfold c3; split <;> (try split) <;> simp
  anti b := by unfold c3; split <;> split <;> (try split) <;> omega
  zero b := by unfold c3; split <;> (try split) <;> omega
  trans b c := by unfold c3; intro h1 h2; repeat' split at h1
                  all_goals repeat' split at h2
                  all_goals repeat' split
                  all_goals omega

theorem bl_lt : ∀ (x y : List UInt8), Op.bytesLess x y = decide (x < y)
  | [], [] => by simp [Op.bytesLess]
  | _ :: _, [] => by simp [Op.bytesLess]
  | [], _ :: _ => by simp [Op.bytesLess]
  | a :: x, b :: y => by
    rw [Op.bytesLess, bl_lt x y]
    simp only [List.cons_lt_cons_iff]
    by_cases h1 : a < b <;> by_cases h2 : a = b <;> by_cases h3 : x < y <;> simp [h1, h2, h3]

theorem ba_ext {x y : ByteArray} (h : x.data.toList = y.data.toList) : x = y := by
  cases x; cases y; simp only [ByteArray.mk.injEq]; exact Array.toList_inj.1 h

theorem c3s_eq (x y : ByteArray) : c3s x y = if x.data.toList < y.data.toList then -1 else if y.data.toList < x.data.toList then 1 else 0 := by
  unfold c3s
  simp only [bl_lt, ByteArray.toList_eq, decide_eq_true_eq]

theorem c3s_cmp (a : ByteArray) : Cmp c3s a where
  range b := by rw [c3s_eq]; split <;> (try split) <;> simp
  anti b := by
    rw [c3s_eq, c3s_eq]
    split
    · rename_i h; rw [if_neg (List.lt_asymm h)]
    · rename_i h
      by_cases h2 : a.data.toList < b.data.toList
      · rw [if_pos h2, if_pos h2]; rfl
      · rw [if_neg h2, if_neg h2]; rfl
  zero b := by
    rw [c3s_eq]
    constructor
    · intro h
      split at h
      · simp at h
      · split at h
        · simp at h
        · rename_i h1 h2
          exact ba_ext (List.le_antisymm (List.not_lt.1 h2) (List.not_lt.1 h1))
    · rintro rfl
      rw [if_neg (List.lt_irrefl _), if_neg (List.lt_irrefl _)]
  trans b c := by
    rw [c3s_eq, c3s_eq, c3s_eq]
    intro h1 h2
    have e1 : ¬ b.data.toList < a.data.toList := by
      intro h
      rw [if_neg (List.lt_asymm h), if_pos h] at h1
      omega
    have e2 : ¬ c.data.toList < b.data.toList := by
      intro h
      rw [if_neg (List.lt_asymm h), if_pos h] at h2
      omega
    have e3 : ¬ c.data.toList < a.data.toList := List.not_lt.2 (List.le_trans (List.not_lt.1 e1) (List.not_lt.1 e2))
    by_cases h : a.data.toList < c.data.toList
    · rw [if_pos h]; omega
    · rw [if_neg h, if_neg e3]; omega

theorem or2_cmp {p q r u v s : Int} (h1 : p ≤ 0 → q ≤ 0 → r ≤ 0) (h2 : p ≤ 0 → q ≤ 0 → r = 0 → p = 0 ∧ q = 0) (h3 : u ≤ 0 → v ≤ 0 → s ≤ 0) : or2 p u ≤ 0 → or2 q v ≤ 0 → or2 r s ≤ 0 := by
  unfold or2
  split <;> split <;> split <;> intro a b <;> first | omega | (have := h2 (by omega) (by omega) (by omega); omega)

theorem or2_range {x y : Int} (h1 : x = -1 ∨ x = 0 ∨ x = 1) (h2 : y = -1 ∨ y = 0 ∨ y = 1) : or2 x y = -1 ∨ or2 x y = 0 ∨ or2 x y = 1 := by unfold or2; split <;> omega
theorem or2_neg {x y : Int} : or2 (-x) (-y) = - or2 x y := by unfold or2; split <;> split <;> omega
theorem or2_zero {x y : Int} : or2 x y = 0 ↔ x = 0 ∧ y = 0 := by unfold or2; split <;> omega

theorem lexl_cmp {α : Type} (f : α → α → Int) (hf : ∀ a, Cmp f a) : ∀ l, Cmp (lexl f) l
  | [] => {
      range := fun b => by cases b <;> simp [lexl]
      anti := fun b => by cases b <;> simp [lexl]
      zero := fun b => by cases b <;> simp [lexl]
      trans := fun b c => by cases b <;> cases c <;> simp [lexl] }
  | x :: r => by
    have ih := lexl_cmp f hf r
    refine ⟨fun b => ?_, fun b => ?_, fun b => ?_, fun b c => ?_⟩
    · cases b with
      | nil => simp [lexl]
      | cons y s => have := (hf x).range y; have := ih.range s; simp only [lexl, or2]; split <;> omega
    · cases b with
      | nil => simp [lexl]
      | cons y s => have := (hf x).anti y; have := ih.anti s; simp only [lexl, or2]; split <;> split <;> omega
    · cases b with
      | nil => simp [lexl]
      | cons y s =>
        have h1 := (hf x).zero y
        have h2 := ih.zero s
        simp only [lexl, or2_zero, List.cons.injEq, h1, h2]
    · cases b with
      | nil => cases c <;> simp [lexl]
      | cons y s =>
        cases c with
        | nil => simp [lexl]
        | cons z t =>
          have h1 := (hf x).trans y z
          have h2 := ih.trans s t
          have h3 := fun a b c => (hf x).strict (hf y) (hf z) a b c
          simp only [lexl, or2]
          split <;> split <;> split <;> intro a b <;> first | omega | (have := h3 (by omega) (by omega) (by omega); omega)

mutual
theorem Ty.cmp_cmp : ∀ a : Ty, Cmp Ty.cmp a
  | .mk o n i s a => by
    have ha := Ty.cmpL_cmp a
    have hs := lexl_cmp c3s c3s_cmp s
    refine ⟨fun b => ?_, fun b => ?_, fun b => ?_, fun b c => ?_⟩
    · obtain ⟨o', n', i', s', a'⟩ := b
      simp only [Ty.cmp]
      exact or2_range (or2_range ((c3_cmp o).range o') (or2_range ((c3s_cmp n).range n') (or2_range ((c3_cmp i).range i') (hs.range s')))) (ha.range a')
    · obtain ⟨o', n', i', s', a'⟩ := b
      simp only [Ty.cmp]
      rw [(c3_cmp o).anti, (c3s_cmp n).anti, (c3_cmp i).anti, hs.anti, ha.anti, or2_neg, or2_neg, or2_neg, or2_neg]
    · obtain ⟨o', n', i', s', a'⟩ := b
      simp only [Ty.cmp, or2_zero, (c3_cmp o).zero, (c3s_cmp n).zero, (c3_cmp i).zero, hs.zero, ha.zero, Ty.mk.injEq]
      exact ⟨fun ⟨⟨h1, h2, h3, h4⟩, h5⟩ => ⟨h1, h2, h3, h4, h5⟩, fun ⟨h1, h2, h3, h4, h5⟩ => ⟨⟨h1, h2, h3, h4⟩, h5⟩⟩
    · obtain ⟨o1, n1, i1, s1, a1⟩ := b
      obtain ⟨o2, n2, i2, s2, a2⟩ := c
      simp only [Ty.cmp]
      have t3 : or2 (c3 i i1) (lexl c3s s s1) ≤ 0 → or2 (c3 i1 i2) (lexl c3s s1 s2) ≤ 0 → or2 (c3 i i2) (lexl c3s s s2) ≤ 0 :=
        or2_cmp ((c3_cmp i).trans i1 i2) (fun a b c => (c3_cmp i).strict (c3_cmp i1) (c3_cmp i2) a b c) (hs.trans s1 s2)
      have t2 : or2 (c3s n n1) (or2 (c3 i i1) (lexl c3s s s1)) ≤ 0 → or2 (c3s n1 n2) (or2 (c3 i1 i2) (lexl c3s s1 s2)) ≤ 0 → or2 (c3s n n2) (or2 (c3 i i2) (lexl c3s s s2)) ≤ 0 :=
        or2_cmp ((c3s_cmp n).trans n1 n2) (fun a b c => (c3s_cmp n).strict (c3s_cmp n1) (c3s_cmp n2) a b c) t3
      have t1 : or2 (c3 o o1) (or2 (c3s n n1) (or2 (c3 i i1) (lexl c3s s s1))) ≤ 0 → or2 (c3 o1 o2) (or2 (c3s n1 n2) (or2 (c3 i1 i2) (lexl c3s s1 s2))) ≤ 0 → or2 (c3 o o2) (or2 (c3s n n2) (or2 (c3 i i2) (lexl c3s s s2))) ≤ 0 :=
        or2_cmp ((c3_cmp o).trans o1 o2) (fun a b c => (c3_cmp o).strict (c3_cmp o1) (c3_cmp o2) a b c) t2
      refine or2_cmp t1 ?_ (ha.trans a1 a2)
      intro h1 h2 h3
      simp only [or2_zero, (c3_cmp o).zero, (c3s_cmp n).zero, (c3_cmp i).zero, hs.zero] at h3
      obtain ⟨rfl, rfl, rfl, rfl⟩ := h3
      have e : or2 (c3 o1 o) (or2 (c3s n1 n) (or2 (c3 i1 i) (lexl c3s s1 s))) = - or2 (c3 o o1) (or2 (c3s n n1) (or2 (c3 i i1) (lexl c3s s s1))) := by
        rw [(c3_cmp o).anti, (c3s_cmp n).anti, (c3_cmp i).anti, hs.anti, or2_neg, or2_neg, or2_neg]
      omega
theorem Ty.cmpL_cmp : ∀ l : List Ty, Cmp Ty.cmpL l
  | [] => {
      range := fun b => by cases b <;> simp [Ty.cmpL]
      anti := fun b => by cases b <;> simp [Ty.cmpL]
      zero := fun b => by cases b <;> simp [Ty.cmpL]
      trans := fun b c => by cases b <;> cases c <;> simp [Ty.cmpL] }
  | x :: r => by
    have hx := Ty.cmp_cmp x
    have ih := Ty.cmpL_cmp r
    refine ⟨fun b => ?_, fun b => ?_, fun b => ?_, fun b c => ?_⟩
    · cases b with
      | nil => simp [Ty.cmpL]
      | cons y s => simp only [Ty.cmpL]; exact or2_range (hx.range y) (ih.range s)
    · cases b with
      | nil => simp [Ty.cmpL]
      | cons y s => simp only [Ty.cmpL]; rw [hx.anti, ih.anti, or2_neg]
    · cases b with
      | nil => simp [Ty.cmpL]
      | cons y s => simp only [Ty.cmpL, or2_zero, hx.zero, ih.zero, List.cons.injEq]
    · cases b with
      | nil => cases c <;> simp [Ty.cmpL]
      | cons y s =>
        cases c with
        | nil => simp [Ty.cmpL]
        | cons z t =>
          simp only [Ty.cmpL]
          refine or2_cmp (hx.trans y z) ?_ (ih.trans s t)
          intro h1 h2 h3
          obtain rfl := (hx.zero z).1 h3
          have := hx.anti y
          omega
end

open Classical in
/-- Equality of types, as a Bool. -/
noncomputable def Ty.same (a b : Ty) : Bool := decide (a = b)

end Go.Proofs.YtdffhnfjcbnioaaDoor
