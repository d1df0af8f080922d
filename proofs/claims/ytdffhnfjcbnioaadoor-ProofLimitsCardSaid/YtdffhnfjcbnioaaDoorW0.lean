/-
  Types by their arguments: small words for the walk over the nodes.
-/
import Derived.Test.YtdffhnfjcbnioaaDoorP3
namespace Go.Proofs.YtdffhnfjcbnioaaDoor
open Go.RowKit

theorem Ty.nodes_kids (t : Ty) : t.nodes = 1 + Ty.nodesL t.args := by cases t; simp only [Ty.nodes, Ty.args]; omega
theorem Ty.depth_kids (t : Ty) : t.depth = 1 + Ty.depthL t.args := by cases t; simp only [Ty.depth, Ty.args]; omega
theorem Ty.sz_kid (t : Ty) (k : Nat) (h : k < t.args.length) : t.args[k].sz < t.sz := by
  cases t
  exact Ty.size_arg k h
theorem Ty.nodesL_take (l : List Ty) (k : Nat) (h : k < l.length) : Ty.nodesL (l.take (k + 1)) = Ty.nodesL (l.take k) + l[k].nodes := _root_.Go.Proofs.YtdffhnfjcbnioaaDoor.nodesL_take l k h
theorem Ty.nodesL_le (l : List Ty) (k : Nat) : Ty.nodesL (l.take k) ≤ Ty.nodesL l := _root_.Go.Proofs.YtdffhnfjcbnioaaDoor.nodesL_le l k
theorem AtTy.kid {B : Nat} {W : World} {b o : Nat} {T : Ty} (h : AtTy B W b o T) : ∃ (a : Option Addr) (cap kb ko : Nat), b < B ∧ W.cell? ⟨b, o + 4, none⟩ = some (.slice a T.args.length cap) ∧ T.args.length ≤ 9223372036854775807 ∧
    (T.args ≠ [] → a = some ⟨kb, ko, none⟩ ∧ kb < B) ∧ ∀ i (h : i < T.args.length), AtTy B W kb (ko + i * 5) T.args[i] := by
  obtain ⟨_, _, op, ix, nm, srt, args, vs, a, cap, ab, ao, hb, k0, k1, k2, k3, k4, hop, hix, hnm, hs, hl, ha, he⟩ := h
  exact ⟨a, cap, ab, ao, hb, k4, hl, ha, he⟩
end Go.Proofs.YtdffhnfjcbnioaaDoor
