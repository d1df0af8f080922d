/-
  The kinds of proofs, out of the listed table; the door's own heap holds the tables that the row lists.
-/
import Derived.Test.YtdffhnfjcbnioaaDoorRows
import Derived.Test.YtdffhnfjcbnioaaDoorP4
import Derived.ProofKit
import Derived.LaidMore
import Derived.OpenShut
import Derived.Stop.Joined
import Derived.MakeChecks
namespace Go.Proofs.YtdffhnfjcbnioaaDoor
open Go.ChangeShapes Go.WideShapes Go.ChangeAt Go.RowKit

theorem own : ownKnob Tryd.prog.godebug = none := by kernel_rfl
theorem laidOut : laidOutB Tryd.prog = true := by kernel_rfl

section
variable {H : Type} {enc : TypeId × Value → H} {W : World} {base fuel : Nat} {sp : Nat → Bool} {held : Bool}
theorem take_one {l : List Value} {o m j : Nat} {v : Value} (h : (((l.drop o).take m).drop j).take 1 = [v]) : l[o + j]? = some v := by
  have h0 : ((((l.drop o).take m).drop j).take 1)[0]? = some v := by rw [h]; rfl
  rw [List.getElem?_take, List.getElem?_drop, List.getElem?_take, List.getElem?_drop] at h0
  by_cases hj : j + 0 < m
  · simp only [Nat.zero_lt_one, if_true, Nat.add_zero] at h0 hj
    rw [if_pos hj] at h0
    exact h0
  · rw [if_pos (by omega), if_neg hj] at h0
    simp at h0

theorem field_of {fs : Array Field} {Q : TypeId → Nat → Nat → Prop} (hf : ∀ (i : Nat) (f : Field), fs[i]? = some f → Q f.type f.offset i) (i : Nat) (T : TypeId) (off : Nat) (h : (fs[i]?).map (fun f => (f.type, f.offset)) = some (T, off)) : Q T off i := by
  cases e : fs[i]? with
  | none => rw [e] at h; cases h
  | some f =>
    rw [e] at h
    simp only [Option.map_some, Option.some.injEq, Prod.mk.injEq] at h
    rw [← h.1, ← h.2]
    exact hf i f e

/-- An element of the table. -/
theorem kind_read {l : List Value} {o m : Nat} {word : List UInt8} {n t i z : Bool} {kids : Int} {p : List MemPlace} (h : DataW.trod enc Tryd.prog W base sp held fuel 67 ((l.drop o).take m) = some (.agg [.lit (.string word), .lit (.bool n), .lit (.bool t), .lit (.bool i), .lit (.bool z), .lit (.int .i64 kids)], p)) :
    l[o]? = some (.string ⟨word.toArray⟩) ∧ l[o + 1]? = some (.bool n) ∧ l[o + 2]? = some (.bool t) ∧ l[o + 3]? = some (.bool i) ∧ l[o + 4]? = some (.bool z) ∧ l[o + 5]? = some (.int .i64 kids) := by
  obtain ⟨xs, m', rfl, ex, hlen, hxs, hf⟩ := DataW.trod_struct Tryd.underlying67 h
  have c9 : Tryd.prog.cellsOf 9 = 1 := by kernel_rfl
  have c4 : Tryd.prog.cellsOf 4 = 1 := by kernel_rfl
  have c3 : Tryd.prog.cellsOf 3 = 1 := by kernel_rfl
  match xs, hxs with
  | [x0, x1, x2, x3, x4, x5], _ =>
    have e3 := (DataW.agg.inj (Prod.mk.inj ex).1)
    simp only [List.map_cons, List.map_nil, List.cons.injEq, and_true] at e3
    obtain ⟨q0, q1, q2, q3, q4, q5⟩ := e3
    have g0 : DataW.trod enc Tryd.prog W base sp held m' 9 ((((l.drop o).take m).drop 0).take (Tryd.prog.cellsOf 9)) = some x0 := field_of (Q := fun T off i => DataW.trod enc Tryd.prog W base sp held m' T ((((l.drop o).take m).drop off).take (Tryd.prog.cellsOf T)) = [x0, x1, x2, x3, x4, x5][i]?) hf 0 9 0 rfl
    rw [c9] at g0
    have g1 : DataW.trod enc Tryd.prog W base sp held m' 4 ((((l.drop o).take m).drop 1).take (Tryd.prog.cellsOf 4)) = some x1 := field_of (Q := fun T off i => DataW.trod enc Tryd.prog W base sp held m' T ((((l.drop o).take m).drop off).take (Tryd.prog.cellsOf T)) = [x0, x1, x2, x3, x4, x5][i]?) hf 1 4 1 rfl
    rw [c4] at g1
    have g2 : DataW.trod enc Tryd.prog W base sp held m' 4 ((((l.drop o).take m).drop 2).take (Tryd.prog.cellsOf 4)) = some x2 := field_of (Q := fun T off i => DataW.trod enc Tryd.prog W base sp held m' T ((((l.drop o).take m).drop off).take (Tryd.prog.cellsOf T)) = [x0, x1, x2, x3, x4, x5][i]?) hf 2 4 2 rfl
    rw [c4] at g2
    have g3 : DataW.trod enc Tryd.prog W base sp held m' 4 ((((l.drop o).take m).drop 3).take (Tryd.prog.cellsOf 4)) = some x3 := field_of (Q := fun T off i => DataW.trod enc Tryd.prog W base sp held m' T ((((l.drop o).take m).drop off).take (Tryd.prog.cellsOf T)) = [x0, x1, x2, x3, x4, x5][i]?) hf 3 4 3 rfl
    rw [c4] at g3
    have g4 : DataW.trod enc Tryd.prog W base sp held m' 4 ((((l.drop o).take m).drop 4).take (Tryd.prog.cellsOf 4)) = some x4 := field_of (Q := fun T off i => DataW.trod enc Tryd.prog W base sp held m' T ((((l.drop o).take m).drop off).take (Tryd.prog.cellsOf T)) = [x0, x1, x2, x3, x4, x5][i]?) hf 4 4 4 rfl
    rw [c4] at g4
    have g5 : DataW.trod enc Tryd.prog W base sp held m' 3 ((((l.drop o).take m).drop 5).take (Tryd.prog.cellsOf 3)) = some x5 := field_of (Q := fun T off i => DataW.trod enc Tryd.prog W base sp held m' T ((((l.drop o).take m).drop off).take (Tryd.prog.cellsOf T)) = [x0, x1, x2, x3, x4, x5][i]?) hf 5 3 5 rfl
    rw [c3] at g5
    obtain ⟨s, a0, b0, _⟩ := DataW.trod_string Tryd.underlying9 g0
    obtain ⟨z1, a1, b1⟩ := DataW.trod_bool Tryd.underlying4 g1
    obtain ⟨z2, a2, b2⟩ := DataW.trod_bool Tryd.underlying4 g2
    obtain ⟨z3, a3, b3⟩ := DataW.trod_bool Tryd.underlying4 g3
    obtain ⟨z4, a4, b4⟩ := DataW.trod_bool Tryd.underlying4 g4
    obtain ⟨z5, a5, b5, _⟩ := DataW.trod_int Tryd.underlying3 g5
    rw [b0] at q0
    rw [b1] at q1
    rw [b2] at q2
    rw [b3] at q3
    rw [b4] at q4
    rw [b5] at q5
    simp only [DataW.lit.injEq, Lit.string.injEq, Lit.bool.injEq, Lit.int.injEq, true_and] at q0 q1 q2 q3 q4 q5
    subst q1 q2 q3 q4 q5
    have es : s = ⟨word.toArray⟩ := by subst q0; simp
    subst es
    exact ⟨take_one a0, take_one a1, take_one a2, take_one a3, take_one a4, take_one a5⟩
end

set_option maxRecDepth 100000 in
/-- The kinds of proofs, out of the listed table. -/
theorem kinds_of_laid {W : World} (h : laidMetH Tryd.prog Rows.proofLimitsRow.laid W) : Kinds W := by
  rw [MakeChecks.laidMetH_plain _ _ _ (by kernel_rfl)] at h
  obtain ⟨ps, ⟨_, _, _, _, _, _, _, _, _, _, ⟨_, _, _, _, _, _, _, _, _, _, ⟨_, _, _, _, _, _, _, _, _, _, ⟨g, t, cs, fuel, p, q, hg, ht, hv, hd, _, _⟩, _⟩, _⟩, _⟩, _, _⟩ := h
  obtain rfl := Option.some.inj ((show Tryd.prog.globalNamed "triforium/proof.kinds" = some 0 by kernel_rfl).symm.trans hg)
  obtain rfl := Option.some.inj ((show (Tryd.prog.globals[0]?).map (·.type) = some 68 by kernel_rfl).symm.trans ht)
  obtain ⟨xs, m, _, ex, _, hl, hel⟩ := DataW.trod_array Tryd.underlying68 hd
  have c6 : Tryd.prog.cellsOf 67 = 6 := by kernel_rfl
  have e3 := (DataW.agg.inj (Prod.mk.inj ex).1)
  have key : ∀ (k : Nat) (hk : k < 19) (word : List UInt8) (n t i z : Bool) (kids : Int), (xs.map (·.1))[k]? = some (.agg [.lit (.string word), .lit (.bool n), .lit (.bool t), .lit (.bool i), .lit (.bool z), .lit (.int .i64 kids)]) → KindAt W k ⟨word.toArray⟩ n t i z kids := by
    intro k hk word n t i z kids hx
    have hE := hel k hk
    rw [c6, List.getElem?_eq_getElem (by omega)] at hE
    rw [List.getElem?_map, List.getElem?_eq_getElem (by omega)] at hx
    have hx' := Option.some.inj hx
    have e : xs[k] = (.agg [.lit (.string word), .lit (.bool n), .lit (.bool t), .lit (.bool i), .lit (.bool z), .lit (.int .i64 kids)], xs[k].2) := Prod.ext hx' rfl
    rw [e] at hE
    obtain ⟨h0, h1, h2, h3, h4, h5⟩ := kind_read hE
    exact ⟨(World.var?_cell hg hv _).trans (by simpa using h0), (World.var?_cell hg hv _).trans (by simpa using h1), (World.var?_cell hg hv _).trans (by simpa using h2), (World.var?_cell hg hv _).trans (by simpa using h3), (World.var?_cell hg hv _).trans (by simpa using h4), (World.var?_cell hg hv _).trans (by simpa using h5)⟩
  rw [← e3] at key
  have hp : 0 < W.heap.size := by
    have := (key 1 (by omega) _ _ _ _ _ _ rfl).1
    exact block_of_cell this
  exact ⟨hp, key 1 (by omega) _ _ _ _ _ _ rfl, key 3 (by omega) _ _ _ _ _ _ rfl, key 4 (by omega) _ _ _ _ _ _ rfl, key 9 (by omega) _ _ _ _ _ _ rfl, key 10 (by omega) _ _ _ _ _ _ rfl⟩

set_option maxRecDepth 100000 in
/-- The tables that the rows list: the door's own heap holds them. -/
theorem door_met (os : Os) (args : Array Value) : laidMetH Tryd.prog Rows.proofLimitsRow.laid ((World.doorLaid Tryd.prog 400 os).forCall (fun _ _ => 0) ⟨#[], args, []⟩).memory :=
  laidMetH_of_parts3 (fuel := 8) (laidMet_of_run' 8 (by kernel_rfl) (by kernel_rfl)) (by kernel_rfl) (by kernel_rfl)
end Go.Proofs.YtdffhnfjcbnioaaDoor
