/-
  Plain mathematics of terms (the program's api.Term): a tree, its order, its nodes. Nothing of the program is imported.
-/
import Derived.Test.YtdffhnfjcbnioaaDoorTy
namespace Go.Proofs.YtdffhnfjcbnioaaDoor
open Go.RowKit

/-- A term as a tree: Op, Name, Num, Type, Kids. -/
inductive Tm where
  | mk (op : Int) (name : ByteArray) (num : Int) (ty : Ty) (kids : List Tm)

def Tm.op : Tm → Int | .mk o _ _ _ _ => o
def Tm.name : Tm → ByteArray | .mk _ n _ _ _ => n
def Tm.num : Tm → Int | .mk _ _ n _ _ => n
def Tm.ty : Tm → Ty | .mk _ _ _ t _ => t
def Tm.kids : Tm → List Tm | .mk _ _ _ _ k => k

/-- A term's measure, for recursion. -/
noncomputable def Tm.sz (t : Tm) : Nat := SizeOf.sizeOf t
theorem Tm.size_kid {op num : Int} {nm : ByteArray} {ty : Ty} {kids : List Tm} (k : Nat) (h : k < kids.length) : kids[k].sz < (Tm.mk op nm num ty kids).sz := by
  have := List.sizeOf_lt_of_mem (List.getElem_mem h)
  unfold Tm.sz
  simp only [Tm.mk.sizeOf_spec]
  omega

/-- The order of the names of two nodes: that of an abstraction plays no part. -/
def nameC (o : Int) (n n' : ByteArray) : Int := if o = 5 then 0 else c3s n n'

mutual
def Tm.cmp : Tm → Tm → Int
  | .mk o n i t a, .mk o' n' i' t' a' => or2 (or2 (c3 o o') (or2 (nameC o n n') (c3 i i'))) (or2 (Ty.cmp t t') (Tm.cmpL a a'))
def Tm.cmpL : List Tm → List Tm → Int
  | [], [] => 0
  | [], _ :: _ => -1
  | _ :: _, [] => 1
  | x :: r, y :: s => or2 (Tm.cmp x y) (Tm.cmpL r s)
end

mutual
/-- Without the names of abstractions. -/
def Tm.bare : Tm → Tm
  | .mk o n i t a => .mk o (if o = 5 then ByteArray.empty else n) i t (Tm.bareL a)
def Tm.bareL : List Tm → List Tm
  | [] => []
  | x :: r => Tm.bare x :: Tm.bareL r
end

/-- What is told by the first of two comparisons. -/
theorem or2_name {o o' : Int} {n n' : ByteArray} {x : Int} : or2 (c3 o o') (or2 (nameC o n n') x) = or2 (c3 o o') (or2 (c3s (if o = 5 then ByteArray.empty else n) (if o' = 5 then ByteArray.empty else n')) x) := by
  by_cases h : c3 o o' = 0
  · obtain rfl := ((c3_cmp o).zero o').1 h
    unfold nameC
    split
    · have e : c3s ByteArray.empty ByteArray.empty = 0 := ((c3s_cmp _).zero _).2 rfl
      rw [e]
    · rfl
  · unfold or2
    rw [if_neg h, if_neg h]

mutual
/-- The order of bare terms, by the order of their fields alone. -/
def Tm.lex : Tm → Tm → Int
  | .mk o n i t a, .mk o' n' i' t' a' => or2 (or2 (c3 o o') (or2 (c3s n n') (c3 i i'))) (or2 (Ty.cmp t t') (Tm.lexL a a'))
def Tm.lexL : List Tm → List Tm → Int
  | [], [] => 0
  | [], _ :: _ => -1
  | _ :: _, [] => 1
  | x :: r, y :: s => or2 (Tm.lex x y) (Tm.lexL r s)
end

mutual
theorem Tm.cmp_bare : ∀ a b : Tm, Tm.cmp a b = Tm.lex a.bare b.bare
  | .mk o n i t a, .mk o' n' i' t' a' => by
    simp only [Tm.cmp, Tm.bare, Tm.lex]
    rw [Tm.cmpL_bare a a', or2_name]
theorem Tm.cmpL_bare : ∀ a b : List Tm, Tm.cmpL a b = Tm.lexL (Tm.bareL a) (Tm.bareL b)
  | [], [] => rfl
  | [], _ :: _ => rfl
  | _ :: _, [] => rfl
  | x :: r, y :: s => by
    simp only [Tm.cmpL, Tm.bareL, Tm.lexL]
    rw [Tm.cmp_bare x y, Tm.cmpL_bare r s]
end

mutual
theorem Tm.lex_cmp : ∀ a : Tm, Cmp Tm.lex a
  | .mk o n i t a => by
    have ha := Tm.lexL_cmp a
    have ht := Ty.cmp_cmp t
    refine ⟨fun b => ?_, fun b => ?_, fun b => ?_, fun b c => ?_⟩
    · obtain ⟨o', n', i', t', a'⟩ := b
      simp only [Tm.lex]
      exact or2_range (or2_range ((c3_cmp o).range o') (or2_range ((c3s_cmp n).range n') ((c3_cmp i).range i'))) (or2_range (ht.range t') (ha.range a'))
    · obtain ⟨o', n', i', t', a'⟩ := b
      simp only [Tm.lex]
      rw [(c3_cmp o).anti, (c3s_cmp n).anti, (c3_cmp i).anti, ht.anti, ha.anti, or2_neg, or2_neg, or2_neg, or2_neg]
    · obtain ⟨o', n', i', t', a'⟩ := b
      simp only [Tm.lex, or2_zero, (c3_cmp o).zero, (c3s_cmp n).zero, (c3_cmp i).zero, ht.zero, ha.zero, Tm.mk.injEq]
      exact ⟨fun ⟨⟨h1, h2, h3⟩, h4, h5⟩ => ⟨h1, h2, h3, h4, h5⟩, fun ⟨h1, h2, h3, h4, h5⟩ => ⟨⟨h1, h2, h3⟩, h4, h5⟩⟩
    · obtain ⟨o1, n1, i1, t1, a1⟩ := b
      obtain ⟨o2, n2, i2, t2, a2⟩ := c
      simp only [Tm.lex]
      have u2 : or2 (c3s n n1) (c3 i i1) ≤ 0 → or2 (c3s n1 n2) (c3 i1 i2) ≤ 0 → or2 (c3s n n2) (c3 i i2) ≤ 0 :=
        or2_cmp ((c3s_cmp n).trans n1 n2) (fun a b c => (c3s_cmp n).strict (c3s_cmp n1) (c3s_cmp n2) a b c) ((c3_cmp i).trans i1 i2)
      have u1 : or2 (c3 o o1) (or2 (c3s n n1) (c3 i i1)) ≤ 0 → or2 (c3 o1 o2) (or2 (c3s n1 n2) (c3 i1 i2)) ≤ 0 → or2 (c3 o o2) (or2 (c3s n n2) (c3 i i2)) ≤ 0 :=
        or2_cmp ((c3_cmp o).trans o1 o2) (fun a b c => (c3_cmp o).strict (c3_cmp o1) (c3_cmp o2) a b c) u2
      have u3 : or2 (Ty.cmp t t1) (Tm.lexL a a1) ≤ 0 → or2 (Ty.cmp t1 t2) (Tm.lexL a1 a2) ≤ 0 → or2 (Ty.cmp t t2) (Tm.lexL a a2) ≤ 0 :=
        or2_cmp (ht.trans t1 t2) (fun a b c => ht.strict (Ty.cmp_cmp t1) (Ty.cmp_cmp t2) a b c) (ha.trans a1 a2)
      refine or2_cmp u1 ?_ u3
      intro h1 h2 h3
      simp only [or2_zero, (c3_cmp o).zero, (c3s_cmp n).zero, (c3_cmp i).zero] at h3
      obtain ⟨rfl, rfl, rfl⟩ := h3
      have e : or2 (c3 o1 o) (or2 (c3s n1 n) (c3 i1 i)) = - or2 (c3 o o1) (or2 (c3s n n1) (c3 i i1)) := by
        rw [(c3_cmp o).anti, (c3s_cmp n).anti, (c3_cmp i).anti, or2_neg, or2_neg]
      omega
theorem Tm.lexL_cmp : ∀ l : List Tm, Cmp Tm.lexL l
  | [] => {
      range := fun b => by cases b <;> simp [Tm.lexL]
      anti := fun b => by cases b <;> simp [Tm.lexL]
      zero := fun b => by cases b <;> simp [Tm.lexL]
      trans := fun b c => by cases b <;> cases c <;> simp [Tm.lexL] }
  | x :: r => by
    have hx := Tm.lex_cmp x
    have ih := Tm.lexL_cmp r
    refine ⟨fun b => ?_, fun b => ?_, fun b => ?_, fun b c => ?_⟩
    · cases b with
      | nil => simp [Tm.lexL]
      | cons y s => simp only [Tm.lexL]; exact or2_range (hx.range y) (ih.range s)
    · cases b with
      | nil => simp [Tm.lexL]
      | cons y s => simp only [Tm.lexL]; rw [hx.anti, ih.anti, or2_neg]
    · cases b with
      | nil => simp [Tm.lexL]
      | cons y s => simp only [Tm.lexL, or2_zero, hx.zero, ih.zero, List.cons.injEq]
    · cases b with
      | nil => cases c <;> simp [Tm.lexL]
      | cons y s =>
        cases c with
        | nil => simp [Tm.lexL]
        | cons z t =>
          simp only [Tm.lexL]
          refine or2_cmp (hx.trans y z) ?_ (ih.trans s t)
          intro h1 h2 h3
          obtain rfl := (hx.zero z).1 h3
          have := hx.anti y
          omega
end

theorem Tm.cmp_range (a b : Tm) : Tm.cmp a b = -1 ∨ Tm.cmp a b = 0 ∨ Tm.cmp a b = 1 := by rw [Tm.cmp_bare]; exact (Tm.lex_cmp _).range _
theorem Tm.cmp_anti (a b : Tm) : Tm.cmp b a = - Tm.cmp a b := by rw [Tm.cmp_bare, Tm.cmp_bare]; exact (Tm.lex_cmp _).anti _
theorem Tm.cmp_trans (a b c : Tm) : Tm.cmp a b ≤ 0 → Tm.cmp b c ≤ 0 → Tm.cmp a c ≤ 0 := by rw [Tm.cmp_bare, Tm.cmp_bare, Tm.cmp_bare]; exact (Tm.lex_cmp _).trans _ _
theorem Tm.cmp_zero (a b : Tm) : Tm.cmp a b = 0 ↔ a.bare = b.bare := by rw [Tm.cmp_bare]; exact (Tm.lex_cmp _).zero _
theorem Tm.cmp_self (a : Tm) : Tm.cmp a a = 0 := (Tm.cmp_zero a a).2 rfl

theorem Tm.cmpL_tail (l m : List Tm) (k : Nat) (_ : k ≤ l.length) (_ : k ≤ m.length) (h : k = l.length ∨ k = m.length) : Tm.cmpL (l.drop k) (m.drop k) = c3 l.length m.length := by
  unfold c3
  rcases h with rfl | rfl
  · rw [List.drop_length]
    by_cases e : l.length < m.length
    · rw [List.drop_eq_getElem_cons e, if_pos (by omega)]; rfl
    · rw [List.drop_of_length_le (by omega), if_neg (by omega), if_neg (by omega)]; rfl
  · rw [List.drop_length]
    by_cases e : m.length < l.length
    · rw [List.drop_eq_getElem_cons e, if_neg (by omega), if_pos (by omega)]; rfl
    · rw [List.drop_of_length_le (by omega), if_neg (by omega), if_neg (by omega)]; rfl
theorem Tm.cmpL_drop (l m : List Tm) (k : Nat) (h1 : k < l.length) (h2 : k < m.length) : Tm.cmpL (l.drop k) (m.drop k) = or2 (Tm.cmp l[k] m[k]) (Tm.cmpL (l.drop (k + 1)) (m.drop (k + 1))) := by
  rw [List.drop_eq_getElem_cons h1, List.drop_eq_getElem_cons h2]; rfl

mutual
/-- The number of nodes, and how many are within each other. -/
def Tm.nodes : Tm → Nat
  | .mk _ _ _ _ a => 1 + Tm.nodesL a
def Tm.nodesL : List Tm → Nat
  | [] => 0
  | x :: r => Tm.nodes x + Tm.nodesL r
end
mutual
def Tm.depth : Tm → Nat
  | .mk _ _ _ _ a => 1 + Tm.depthL a
def Tm.depthL : List Tm → Nat
  | [] => 0
  | x :: r => max (Tm.depth x) (Tm.depthL r)
end
theorem Tm.nodes_kids (t : Tm) : t.nodes = 1 + Tm.nodesL t.kids := by cases t; rfl
theorem Tm.depth_kids (t : Tm) : t.depth = 1 + Tm.depthL t.kids := by cases t; rfl
theorem Tm.sz_kid (t : Tm) (k : Nat) (h : k < t.kids.length) : t.kids[k].sz < t.sz := by
  cases t
  exact Tm.size_kid k h
theorem Tm.nodes_pos (t : Tm) : 1 ≤ t.nodes := by cases t; simp [Tm.nodes]
theorem Tm.depth_pos (t : Tm) : 1 ≤ t.depth := by cases t; simp [Tm.depth]
theorem Tm.nodesL_take : ∀ (l : List Tm) (k : Nat) (h : k < l.length), Tm.nodesL (l.take (k + 1)) = Tm.nodesL (l.take k) + l[k].nodes
  | x :: r, 0, _ => by simp [Tm.nodesL]
  | x :: r, k + 1, h => by
    have := Tm.nodesL_take r k (by simpa using h)
    simp only [List.take_succ_cons, Tm.nodesL, List.getElem_cons_succ, this]; omega
theorem Tm.depthL_take : ∀ (l : List Tm) (k : Nat) (h : k < l.length), Tm.depthL (l.take (k + 1)) = max (Tm.depthL (l.take k)) l[k].depth
  | x :: r, 0, _ => by simp [Tm.depthL]
  | x :: r, k + 1, h => by
    have := Tm.depthL_take r k (by simpa using h)
    simp only [List.take_succ_cons, Tm.depthL, List.getElem_cons_succ, this]; omega
theorem Tm.nodesL_le : ∀ (l : List Tm) (k : Nat), Tm.nodesL (l.take k) ≤ Tm.nodesL l
  | [], k => by simp
  | x :: r, 0 => by simp [Tm.nodesL]
  | x :: r, k + 1 => by have := Tm.nodesL_le r k; simp only [List.take_succ_cons, Tm.nodesL]; omega
theorem Tm.depthL_le : ∀ (l : List Tm) (k : Nat), Tm.depthL (l.take k) ≤ Tm.depthL l
  | [], k => by simp
  | x :: r, 0 => by simp [Tm.depthL]
  | x :: r, k + 1 => by have := Tm.depthL_le r k; simp only [List.take_succ_cons, Tm.depthL]; omega

/-- The zero values. -/
def ty0 : Ty := .mk 0 ByteArray.empty 0 [] []
def tm0 : Tm := .mk 0 ByteArray.empty 0 ty0 []
end Go.Proofs.YtdffhnfjcbnioaaDoor
