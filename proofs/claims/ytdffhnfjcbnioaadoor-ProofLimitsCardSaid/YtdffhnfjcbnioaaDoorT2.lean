/-
  How a term lies in memory.
-/
import Derived.Test.YtdffhnfjcbnioaaDoorMem
import Derived.Test.YtdffhnfjcbnioaaDoorT1
import Derived.Deep.QuietTactic
namespace Go.Proofs.YtdffhnfjcbnioaaDoor
open Go.RowKit

/-- The cells of a block behind its first three are as they were. -/
def Keep3 (mb : Nat) (w w' : World) : Prop := ∀ j, 2 < j → w'.cell? ⟨mb, j, none⟩ = w.cell? ⟨mb, j, none⟩
theorem Keep3.refl (mb : Nat) (w : World) : Keep3 mb w w := fun _ _ => rfl
theorem Keep3.trans {mb : Nat} {w w' w'' : World} (h : Keep3 mb w w') (h' : Keep3 mb w' w'') : Keep3 mb w w'' := fun j hj => (h' j hj).trans (h j hj)
theorem Keep3.drewN {mb : Nat} {w w' : World} (h : Keep3 mb w w') (q : Nat) : Keep3 mb w (w'.drewN q) := h
theorem Keep3.set2 (mb : Nat) (w : World) (u v : Value) : Keep3 mb w ((w.setCell ⟨mb, 0, none⟩ u).setCell ⟨mb, 1, none⟩ v) := fun j hj => by
  rw [World.cell?_setCell_other _ _ _ _ (by intro e; cases e; omega), World.cell?_setCell_other _ _ _ _ (by intro e; cases e; omega)]

/-- A term in nine cells, and all that it leads to in blocks below B. -/
inductive AtTm (B : Nat) (W : World) : Nat → Nat → Tm → Prop
  | mk (b o : Nat) (op num : Int) (nm : ByteArray) (ty : Ty) (kids : List Tm) (a : Option Addr) (cap kb ko : Nat)
      (hb : b < B) (c0 : W.cell? ⟨b, o, none⟩ = some (.int .i64 op)) (c1 : W.cell? ⟨b, o + 1, none⟩ = some (.string nm)) (c2 : W.cell? ⟨b, o + 2, none⟩ = some (.int .i64 num))
      (ct : AtTy B W b (o + 3) ty) (c8 : W.cell? ⟨b, o + 8, none⟩ = some (.slice a kids.length cap))
      (hop : -9223372036854775808 ≤ op ∧ op ≤ 9223372036854775807) (hnum : -9223372036854775808 ≤ num ∧ num ≤ 9223372036854775807) (hnm : nm.size ≤ 9223372036854775807)
      (hl : kids.length ≤ 9223372036854775807)
      (hk : kids ≠ [] → a = some ⟨kb, ko, none⟩ ∧ kb < B) (he : ∀ i (h : i < kids.length), AtTm B W kb (ko + i * 9) kids[i]) :
      AtTm B W b o (.mk op nm num ty kids)

theorem AtTm.later {B B' : Nat} {W W' : World} (hb : Below B W W') (hB : B ≤ B') {b o : Nat} {T : Tm} (h : AtTm B W b o T) : AtTm B' W' b o T := by
  induction h with
  | mk b o op num nm ty kids a cap kb ko hlt c0 c1 c2 ct c8 hop hnum hnm hl hk he ih =>
    exact .mk b o op num nm ty kids a cap kb ko (by omega) ((hb.cell (p := ⟨b, o, none⟩) hlt).trans c0) ((hb.cell (p := ⟨b, o + 1, none⟩) hlt).trans c1) ((hb.cell (p := ⟨b, o + 2, none⟩) hlt).trans c2)
      (ct.later hb hB) ((hb.cell (p := ⟨b, o + 8, none⟩) hlt).trans c8) hop hnum hnm hl (fun hn => ⟨(hk hn).1, by have := (hk hn).2; omega⟩) ih

theorem AtTm.lt {B : Nat} {W : World} {b o : Nat} {T : Tm} (h : AtTm B W b o T) : b < B := by cases h; assumption

/-- A term as a value: nine cells. -/
def HasTm (B : Nat) (W : World) (v : Value) (T : Tm) : Prop :=
  ∃ (vs : Value) (sa : Option Addr) (sc : Nat) (a : Option Addr) (cap kb ko : Nat),
    v = .agg #[.int .i64 T.op, .string T.name, .int .i64 T.num, .int .i64 T.ty.op, .string T.ty.name, .int .i64 T.ty.index, vs, .slice sa T.ty.args.length sc, .slice a T.kids.length cap] ∧
    HasTy B W (.agg #[.int .i64 T.ty.op, .string T.ty.name, .int .i64 T.ty.index, vs, .slice sa T.ty.args.length sc]) T.ty ∧
    (-9223372036854775808 ≤ T.op ∧ T.op ≤ 9223372036854775807) ∧ (-9223372036854775808 ≤ T.num ∧ T.num ≤ 9223372036854775807) ∧ T.name.size ≤ 9223372036854775807 ∧
    T.kids.length ≤ 9223372036854775807 ∧
    (T.kids ≠ [] → a = some ⟨kb, ko, none⟩ ∧ kb < B) ∧ ∀ i (h : i < T.kids.length), AtTm B W kb (ko + i * 9) T.kids[i]

theorem HasTm.later {B B' : Nat} {W W' : World} {v : Value} {T : Tm} (h : HasTm B W v T) (hb : Below B W W') (hB : B ≤ B') : HasTm B' W' v T := by
  obtain ⟨vs, sa, sc, a, cap, kb, ko, rfl, h0, h1, h2, h3, h4, h5, h6⟩ := h
  exact ⟨vs, sa, sc, a, cap, kb, ko, rfl, h0.later hb hB, h1, h2, h3, h4, fun hn => ⟨(h5 hn).1, by have := (h5 hn).2; omega⟩, fun i hi => AtTm.later hb hB (h6 i hi)⟩

theorem atTm_of_has {W : World} {B b o : Nat} {cs : List Value} {T : Tm} (hb : b < B) (h : ∀ j, j < 9 → W.cell? ⟨b, o + j, none⟩ = cs[j]?) (ht : HasTm B W (.agg cs.toArray) T) : AtTm B W b o T := by
  obtain ⟨vs, sa, sc, a, cap, kb, ko, hv, h0, h1, h2, h3, h4, h5, h6⟩ := ht
  obtain ⟨op, nm, num, ty, kids⟩ := T
  simp only [Value.agg.injEq] at hv
  have hcs : cs = [.int .i64 op, .string nm, .int .i64 num, .int .i64 ty.op, .string ty.name, .int .i64 ty.index, vs, .slice sa ty.args.length sc, .slice a kids.length cap] := by
    have := congrArg Array.toList hv
    simpa [Tm.op, Tm.name, Tm.num, Tm.ty, Tm.kids] using this
  subst hcs
  refine .mk b o op num nm ty kids a cap kb ko hb (by simpa using h 0 (by omega)) (by simpa using h 1 (by omega)) (by simpa using h 2 (by omega)) ?_ (by simpa using h 8 (by omega)) h1 h2 h3 h4 h5 h6
  refine at_of_has (cs := [.int .i64 ty.op, .string ty.name, .int .i64 ty.index, vs, .slice sa ty.args.length sc]) hb (fun j hj => ?_) h0
  have := h (3 + j) (by omega)
  rw [← Nat.add_assoc] at this
  rw [this]
  match j, hj with
  | 0, _ => rfl
  | 1, _ => rfl
  | 2, _ => rfl
  | 3, _ => rfl
  | 4, _ => rfl

theorem AtTm.kid {B : Nat} {W : World} {b o : Nat} {T : Tm} (h : AtTm B W b o T) : ∃ (a : Option Addr) (cap kb ko : Nat), b < B ∧ W.cell? ⟨b, o + 8, none⟩ = some (.slice a T.kids.length cap) ∧ T.kids.length ≤ 9223372036854775807 ∧
    (T.kids ≠ [] → a = some ⟨kb, ko, none⟩ ∧ kb < B) ∧ ∀ i (h : i < T.kids.length), AtTm B W kb (ko + i * 9) T.kids[i] := by
  obtain ⟨_, _, op, num, nm, ty, kids, a, cap, kb, ko, hb, c0, c1, c2, ct, c8, hop, hnum, hnm, hl, hk, he⟩ := h
  exact ⟨a, cap, kb, ko, hb, c8, hl, hk, he⟩
end Go.Proofs.YtdffhnfjcbnioaaDoor
