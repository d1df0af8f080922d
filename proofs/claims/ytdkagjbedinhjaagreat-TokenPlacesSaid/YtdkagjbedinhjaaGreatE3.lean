/-
  strings.byteStringReplacer's Replace, of any string.
-/
import Derived.Test.YtdkagjbedinhjaaGreatY4
import Derived.Laws.CopyOwn
import Derived.OwnWalk
import Derived.LoopN
import Derived.Deep.Cut
namespace Go.Proofs.YtdkagjbedinhjaaGreat
open Go.RowKit Go.Shelf

/-- Bytes that are written as two. -/
def spB (c : UInt8) : Bool := c == 92 || c == 34 || c == 10
def nsp (l : Bs) : Nat := l.countP spB
theorem escOf_plain {c : UInt8} (h : spB c = false) : escOf c = [c] := by
  unfold spB at h
  simp only [Bool.or_eq_false_iff, beq_eq_false_iff_ne] at h
  unfold escOf
  rw [if_neg h.1.1, if_neg h.1.2, if_neg h.2]
theorem escOf_two {c : UInt8} (h : spB c = true) : (escOf c).length = 2 := by
  unfold spB at h
  simp only [Bool.or_eq_true, beq_iff_eq] at h
  unfold escOf
  split
  · rfl
  · split
    · rfl
    · split
      · rfl
      · rename_i h1 h2 h3
        rcases h with (h | h) | h <;> contradiction
theorem esc_app (a b : Bs) : escT (a ++ b) = escT a ++ escT b := by unfold escT; rw [List.flatMap_append]
theorem esc_length : ∀ l : Bs, (escT l).length = l.length + nsp l
  | [] => rfl
  | c :: r => by
    show (escOf c ++ escT r).length = _
    rw [List.length_append, esc_length r]
    unfold nsp
    rw [List.countP_cons, List.length_cons]
    cases h : spB c with
    | true => rw [escOf_two h]; simp; omega
    | false => rw [escOf_plain h]; simp; omega
theorem esc_plain : ∀ l : Bs, nsp l = 0 → escT l = l
  | [], _ => rfl
  | c :: r, h => by
    unfold nsp at h
    rw [List.countP_cons] at h
    show escOf c ++ escT r = _
    have h1 : spB c = false := by
      cases hc : spB c with
      | true => rw [hc] at h; simp at h
      | false => rfl
    rw [escOf_plain h1, esc_plain r (by unfold nsp; omega)]
    rfl
theorem nsp_counts (l : Bs) : nsp l = Lib.countByte l 10 + Lib.countByte l 34 + Lib.countByte l 92 := by
  unfold nsp Lib.countByte
  induction l with
  | nil => rfl
  | cons c r ih =>
    rw [List.countP_cons, List.count_cons, List.count_cons, List.count_cons, ih]
    unfold spB
    by_cases h1 : c = 92
    · subst h1; simp; omega
    · by_cases h2 : c = 34
      · subst h2; simp; omega
      · by_cases h3 : c = 10
        · subst h3; simp; omega
        · simp [h1, h2, h3]

theorem take_snoc' (l : Bs) (k : Nat) (h : k < l.length) : l.take (k + 1) = l.take k ++ [l[k]] := by rw [List.take_append_getElem]
theorem nsp_snoc (l : Bs) (k : Nat) (h : k < l.length) : nsp (l.take (k + 1)) = nsp (l.take k) + (if spB l[k] then 1 else 0) := by
  rw [take_snoc' l k h]
  unfold nsp
  rw [List.countP_append, List.countP_singleton]
theorem esc_snoc (l : Bs) (k : Nat) (h : k < l.length) : escT (l.take (k + 1)) = escT (l.take k) ++ escOf l[k] := by
  rw [take_snoc' l k h, esc_app]
  congr 1
  show escOf l[k] ++ [] = _
  rw [List.append_nil]

def lookS : List Value := [.string ⟨#[10]⟩, .string ⟨#[34]⟩, .string ⟨#[92]⟩]
/-- What a byte's cell of the replacements holds. -/
def ReplAt (c : UInt8) (v : Value) (w : World) : Prop :=
  (spB c = false ∧ v = .slice none 0 0) ∨ (spB c = true ∧ ∃ g cap, v = .slice (some ⟨g, 0, none⟩) 2 cap ∧ g < w.heap.size ∧ ∀ j u, (Lib.byteCells (escOf c))[j]? = some u → w.cell? ⟨g, j, none⟩ = some u)
theorem ReplAt.later {c : UInt8} {v : Value} {w w' : World} (h : ReplAt c v w) (hb : Below w.heap.size w w') : ReplAt c v w' := by
  rcases h with h | ⟨h, g, cap, hv, hg, hc⟩
  · exact .inl h
  · exact .inr ⟨h, g, cap, hv, Nat.lt_of_lt_of_le hg hb.size, fun j u hj => (hb.cell (p := ⟨g, j, none⟩) hg).trans (hc j u hj)⟩
/-- A byteStringReplacer of the three bytes. -/
structure BSR (q : Nat) (w : World) : Prop where
  lt : q < w.heap.size
  each : ∀ c : UInt8, ∃ v, w.cell? ⟨q, c.toNat, none⟩ = some v ∧ ReplAt c v w
  row : ∃ t, w.cell? ⟨q, 256, none⟩ = some (.slice (some ⟨t, 0, none⟩) 3 3) ∧ t < w.heap.size ∧ ∀ j u, lookS[j]? = some u → w.cell? ⟨t, j, none⟩ = some u
theorem BSR.later {q : Nat} {w w' : World} (h : BSR q w) (hb : Below w.heap.size w w') : BSR q w' where
  lt := Nat.lt_of_lt_of_le h.lt hb.size
  each := fun c => by
    obtain ⟨v, hv, hr⟩ := h.each c
    exact ⟨v, (hb.cell (p := ⟨q, c.toNat, none⟩) h.lt).trans hv, hr.later hb⟩
  row := by
    obtain ⟨t, ht, hl, hc⟩ := h.row
    exact ⟨t, (hb.cell (p := ⟨q, 256, none⟩) h.lt).trans ht, Nat.lt_of_lt_of_le hl hb.size, fun j u hj => (hb.cell (p := ⟨t, j, none⟩) hl).trans (hc j u hj)⟩
end Go.Proofs.YtdkagjbedinhjaaGreat
