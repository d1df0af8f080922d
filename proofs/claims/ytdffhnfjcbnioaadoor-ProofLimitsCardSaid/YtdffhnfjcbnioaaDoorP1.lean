/-
  A proof as a tree (of the kinds that have no instantiation and no names), its nodes, and how it lies in memory; the two shapes that the statement builds.
-/
import Derived.Test.YtdffhnfjcbnioaaDoorT2
namespace Go.Proofs.YtdffhnfjcbnioaaDoor
open Go.RowKit

/-- A proof: Op, Name, Term, Kids; all other fields are zero. -/
inductive Pf where
  | mk (op : Int) (name : ByteArray) (tm : Tm) (kids : List Pf)
def Pf.op : Pf → Int | .mk o _ _ _ => o
def Pf.name : Pf → ByteArray | .mk _ n _ _ => n
def Pf.tm : Pf → Tm | .mk _ _ t _ => t
def Pf.kids : Pf → List Pf | .mk _ _ _ k => k

noncomputable def Pf.sz (t : Pf) : Nat := SizeOf.sizeOf t
theorem Pf.size_kid {op : Int} {nm : ByteArray} {tm : Tm} {kids : List Pf} (k : Nat) (h : k < kids.length) : kids[k].sz < (Pf.mk op nm tm kids).sz := by
  have := List.sizeOf_lt_of_mem (List.getElem_mem h)
  unfold Pf.sz
  simp only [Pf.mk.sizeOf_spec]
  omega
theorem Pf.sz_kid (t : Pf) (k : Nat) (h : k < t.kids.length) : t.kids[k].sz < t.sz := by
  cases t
  exact Pf.size_kid k h

mutual
def Pf.nodes : Pf → Nat
  | .mk _ _ _ a => 1 + Pf.nodesL a
def Pf.nodesL : List Pf → Nat
  | [] => 0
  | x :: r => Pf.nodes x + Pf.nodesL r
end
mutual
def Pf.depth : Pf → Nat
  | .mk _ _ _ a => 1 + Pf.depthL a
def Pf.depthL : List Pf → Nat
  | [] => 0
  | x :: r => max (Pf.depth x) (Pf.depthL r)
end
theorem Pf.nodes_kids (t : Pf) : t.nodes = 1 + Pf.nodesL t.kids := by cases t; rfl
theorem Pf.depth_kids (t : Pf) : t.depth = 1 + Pf.depthL t.kids := by cases t; rfl
theorem Pf.nodes_pos (t : Pf) : 1 ≤ t.nodes := by cases t; simp [Pf.nodes]
theorem Pf.depth_pos (t : Pf) : 1 ≤ t.depth := by cases t; simp [Pf.depth]
theorem Pf.nodesL_take : ∀ (l : List Pf) (k : Nat) (h : k < l.length), Pf.nodesL (l.take (k + 1)) = Pf.nodesL (l.take k) + l[k].nodes
  | x :: r, 0, _ => by simp [Pf.nodesL]
  | x :: r, k + 1, h => by
    have := Pf.nodesL_take r k (by simpa using h)
    simp only [List.take_succ_cons, Pf.nodesL, List.getElem_cons_succ, this]; omega
theorem Pf.depthL_take : ∀ (l : List Pf) (k : Nat) (h : k < l.length), Pf.depthL (l.take (k + 1)) = max (Pf.depthL (l.take k)) l[k].depth
  | x :: r, 0, _ => by simp [Pf.depthL]
  | x :: r, k + 1, h => by
    have := Pf.depthL_take r k (by simpa using h)
    simp only [List.take_succ_cons, Pf.depthL, List.getElem_cons_succ, this]; omega
theorem Pf.nodesL_le : ∀ (l : List Pf) (k : Nat), Pf.nodesL (l.take k) ≤ Pf.nodesL l
  | [], k => by simp
  | x :: r, 0 => by simp [Pf.nodesL]
  | x :: r, k + 1 => by have := Pf.nodesL_le r k; simp only [List.take_succ_cons, Pf.nodesL]; omega
theorem Pf.depthL_le : ∀ (l : List Pf) (k : Nat), Pf.depthL (l.take k) ≤ Pf.depthL l
  | [], k => by simp
  | x :: r, 0 => by simp [Pf.depthL]
  | x :: r, k + 1 => by have := Pf.depthL_le r k; simp only [List.take_succ_cons, Pf.depthL]; omega

/-- The text of the letter a. -/
def nmA : ByteArray := ⟨#[97]⟩
/-- Nodes within each other. -/
def chain : Nat → Pf
  | 0 => .mk 1 nmA tm0 []
  | k + 1 => .mk 9 ByteArray.empty tm0 [chain k]
/-- All nodes twice. -/
def bush : Nat → Pf
  | 0 => .mk 1 nmA tm0 []
  | k + 1 => .mk 10 ByteArray.empty tm0 [bush k, bush k]

theorem chain_nodes : ∀ k, (chain k).nodes = k + 1
  | 0 => rfl
  | k + 1 => by unfold chain Pf.nodes Pf.nodesL Pf.nodesL; rw [chain_nodes k]; omega
theorem chain_depth : ∀ k, (chain k).depth = k + 1
  | 0 => rfl
  | k + 1 => by unfold chain Pf.depth Pf.depthL Pf.depthL; rw [chain_depth k]; omega
theorem bush_nodes : ∀ k, (bush k).nodes + 1 = 2 ^ (k + 1)
  | 0 => rfl
  | k + 1 => by have := bush_nodes k; unfold bush Pf.nodes Pf.nodesL Pf.nodesL Pf.nodesL; rw [Nat.pow_succ]; omega
theorem bush_depth : ∀ k, (bush k).depth = k + 1
  | 0 => rfl
  | k + 1 => by unfold bush Pf.depth Pf.depthL Pf.depthL Pf.depthL; rw [bush_depth k]; omega

/-- A proof in seventeen cells, and all that it leads to in blocks below B. -/
inductive AtPf (B : Nat) (W : World) : Nat → Nat → Pf → Prop
  | mk (b o : Nat) (op : Int) (nm : ByteArray) (tm : Tm) (kids : List Pf) (a : Option Addr) (cap kb ko : Nat)
      (hb : b < B) (c0 : W.cell? ⟨b, o, none⟩ = some (.int .i64 op)) (c1 : W.cell? ⟨b, o + 1, none⟩ = some (.string nm)) (ct : AtTm B W b (o + 2) tm)
      (c11 : W.cell? ⟨b, o + 11, none⟩ = some (.slice none 0 0)) (c12 : W.cell? ⟨b, o + 12, none⟩ = some (.slice none 0 0)) (c13 : W.cell? ⟨b, o + 13, none⟩ = some (.slice none 0 0)) (c14 : W.cell? ⟨b, o + 14, none⟩ = some (.slice none 0 0))
      (c15 : W.cell? ⟨b, o + 15, none⟩ = some (.int .i64 0)) (c16 : W.cell? ⟨b, o + 16, none⟩ = some (.slice a kids.length cap))
      (hop : -9223372036854775808 ≤ op ∧ op ≤ 9223372036854775807) (hnm : nm.size ≤ 9223372036854775807)
      (hl : kids.length ≤ 9223372036854775807)
      (hk : kids ≠ [] → a = some ⟨kb, ko, none⟩ ∧ kb < B) (he : ∀ i (h : i < kids.length), AtPf B W kb (ko + i * 17) kids[i]) :
      AtPf B W b o (.mk op nm tm kids)

theorem AtPf.later {B B' : Nat} {W W' : World} (hb : Below B W W') (hB : B ≤ B') {b o : Nat} {T : Pf} (h : AtPf B W b o T) : AtPf B' W' b o T := by
  induction h with
  | mk b o op nm tm kids a cap kb ko hlt c0 c1 ct c11 c12 c13 c14 c15 c16 hop hnm hl hk he ih =>
    exact .mk b o op nm tm kids a cap kb ko (by omega) ((hb.cell (p := ⟨b, o, none⟩) hlt).trans c0) ((hb.cell (p := ⟨b, o + 1, none⟩) hlt).trans c1) (ct.later hb hB)
      ((hb.cell (p := ⟨b, o + 11, none⟩) hlt).trans c11) ((hb.cell (p := ⟨b, o + 12, none⟩) hlt).trans c12) ((hb.cell (p := ⟨b, o + 13, none⟩) hlt).trans c13) ((hb.cell (p := ⟨b, o + 14, none⟩) hlt).trans c14)
      ((hb.cell (p := ⟨b, o + 15, none⟩) hlt).trans c15) ((hb.cell (p := ⟨b, o + 16, none⟩) hlt).trans c16) hop hnm hl (fun hn => ⟨(hk hn).1, by have := (hk hn).2; omega⟩) ih
theorem AtPf.lt {B : Nat} {W : World} {b o : Nat} {T : Pf} (h : AtPf B W b o T) : b < B := by cases h; assumption
theorem AtPf.kid {B : Nat} {W : World} {b o : Nat} {T : Pf} (h : AtPf B W b o T) : ∃ (a : Option Addr) (cap kb ko : Nat), b < B ∧ W.cell? ⟨b, o + 16, none⟩ = some (.slice a T.kids.length cap) ∧ T.kids.length ≤ 9223372036854775807 ∧
    (T.kids ≠ [] → a = some ⟨kb, ko, none⟩ ∧ kb < B) ∧ ∀ i (h : i < T.kids.length), AtPf B W kb (ko + i * 17) T.kids[i] := by
  obtain ⟨_, _, op, nm, tm, kids, a, cap, kb, ko, hb, c0, c1, ct, c11, c12, c13, c14, c15, c16, hop, hnm, hl, hk, he⟩ := h
  exact ⟨a, cap, kb, ko, hb, c16, hl, hk, he⟩
end Go.Proofs.YtdffhnfjcbnioaaDoor
