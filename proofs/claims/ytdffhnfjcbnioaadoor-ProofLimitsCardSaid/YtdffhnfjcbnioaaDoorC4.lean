/-
  A type in memory as a value; small words.
-/
import Derived.Test.YtdffhnfjcbnioaaDoorC3
import Derived.Deep.QuietTactic
import Derived.BigQuiet
namespace Go.Proofs.YtdffhnfjcbnioaaDoor
open Go.RowKit

theorem AtTy.val {B : Nat} {W : World} {b o : Nat} {T : Ty} (h : AtTy B W b o T) : ∃ (sa : Option Addr) (sc : Nat) (a : Option Addr) (cap : Nat), b < B ∧ W.cell? ⟨b, o, none⟩ = some (.int .i64 T.op) ∧ W.cell? ⟨b, o + 1, none⟩ = some (.string T.name) ∧
    W.cell? ⟨b, o + 2, none⟩ = some (.int .i64 T.index) ∧ W.cell? ⟨b, o + 3, none⟩ = some (.slice sa T.sort.length sc) ∧ W.cell? ⟨b, o + 4, none⟩ = some (.slice a T.args.length cap) ∧
    HasTy B W (.agg #[.int .i64 T.op, .string T.name, .int .i64 T.index, .slice sa T.sort.length sc, .slice a T.args.length cap]) T := by
  obtain ⟨_, _, op, ix, nm, srt, args, vs, a, cap, ab, ao, hb, k0, k1, k2, k3, k4, hop, hix, hnm, hs, hl, ha, he⟩ := h
  have hs' := hs
  obtain ⟨sa, sc, _, _, rfl, _⟩ := hs'
  exact ⟨sa, sc, a, cap, hb, k0, k1, k2, k3, k4, _, a, cap, ab, ao, rfl, hop, hix, hnm, hs, hl, ha, he⟩

theorem ret_bool {a b : Bool} (h : a = b) : Ending.returned (.bool a) = .returned (.bool b) := by rw [h]

theorem bytes_eq {x y : ByteArray} (h : (x.toList == y.toList) = true) : x = y := ba_ext (by rw [← ByteArray.toList_eq, ← ByteArray.toList_eq]; simpa using h)
theorem bytes_ne {x y : ByteArray} (h : (x.toList == y.toList) = false) : x ≠ y := by intro e; subst e; simp at h

theorem take_next {α : Type} (l m : List α) (k : Nat) (h1 : k < l.length) (h2 : k < m.length) (h : l.take k = m.take k) (e : l[k] = m[k]) : l.take (k + 1) = m.take (k + 1) := by
  rw [List.take_succ_eq_append_getElem h1, List.take_succ_eq_append_getElem h2, h, e]

end Go.Proofs.YtdffhnfjcbnioaaDoor
