/-
  The statement's own walk: what stands where.
-/
import Derived.Test.YtdffhnfjcbnioaaDoorP7
import Derived.Deep.MidRow
namespace Go.Proofs.YtdffhnfjcbnioaaDoor
open Go.RowKit

theorem setCells_other (b : Nat) : ∀ (vs : List Value) (o : Nat) (w : World) (i : Nat), i ≠ b → (w.setCells b o vs).heap[i]? = w.heap[i]?
  | [], _, _, _, _ => rfl
  | v :: r, o, w, i, h => by
    rw [World.setCells, setCells_other b r (o + 1) _ i h]
    exact Below.heap_setCell w ⟨b, o, none⟩ v i h
theorem setCells_below (b B : Nat) (hB : B ≤ b) : ∀ (vs : List Value) (o : Nat) (A w : World), Below B A w → Below B A (w.setCells b o vs)
  | [], _, _, _, h => h
  | v :: r, o, A, w, h => by
    rw [World.setCells]
    exact setCells_below b B hB r (o + 1) A _ (h.setCell (p := ⟨b, o, none⟩) hB v)
theorem setCells_size (b : Nat) (vs : List Value) (o : Nat) (w : World) : w.heap.size ≤ (w.setCells b o vs).heap.size := (setCells_below b 0 (Nat.zero_le _) vs o w w (Below.refl 0 w)).size

/-- A proof stands in its block. -/
def Stands (pb : Nat) (w : World) (T : Pf) (wr : World) : Prop :=
  ∃ (op : Int) (nm : ByteArray) (a : Option Addr) (n c : Nat), wr.rangeAt pb 0 (pcv op nm a n c).toList ∧ wr.there pb 0 17 ∧ pb < wr.heap.size ∧ ValPf pb wr op nm a n c T ∧ Below w.heap.size w wr

theorem Stands.later {pb : Nat} {w wr w' : World} {T : Pf} (h : Stands pb w T wr) (hb : Below wr.heap.size wr w') : Stands pb w T w' := by
  obtain ⟨op, nm, a, n, c, h1, h2, h3, h4, h5⟩ := h
  refine ⟨op, nm, a, n, c, fun j v hj => (hb.cell (p := ⟨pb, 0 + j, none⟩) h3).trans (h1 j v hj), fun j hj => ⟨?_, (hb.frozen (p := ⟨pb, 0 + j, none⟩) h3).trans (h2 j hj).2⟩, Nat.lt_of_lt_of_le h3 hb.size, h4.later (.below hb), h5.trans (hb.mono h5.size)⟩
  rw [hb.cell (p := ⟨pb, 0 + j, none⟩) h3]
  exact (h2 j hj).1

theorem pcv_len (op : Int) (nm : ByteArray) (a : Option Addr) (n c : Nat) : (pcv op nm a n c).toList.length = 17 := rfl
theorem pcv_one (op : Int) (nm : ByteArray) (a : Option Addr) (n c : Nat) : (pcv op nm a n c).all (·.oneCell') = true := by
  simp [pcv, Value.oneCell']

theorem stands_new (w : World) : Stands w.heap.size w (chain 0) (w.alloc (.cells (pcv 1 nmA none 0 0) 36)) := by
  have hb := heap_alloc_new w (.cells (pcv 1 nmA none 0 0) 36)
  have hc := cells_of_block hb
  refine ⟨1, nmA, none, 0, 0, fun j v hv => ?_, fun j hj => ⟨?_, Lib.frozen_of_heap hb _⟩, by simp, valPf_leaf _ _, (Below.refl _ w).alloc (Nat.le_refl _) _⟩
  · have hj : j < 17 := (List.getElem?_eq_some_iff.1 hv).1
    rw [hc j hj, ← hv, Array.getElem?_toList]
  · rw [hc j hj, Array.getElem?_eq_getElem (by exact hj)]
    rfl

/-- One node more. -/
theorem stands_sym {pb : Nat} {w wr : World} {op : Int} {nm : ByteArray} {a : Option Addr} {n c : Nat} {T : Pf} (h2 : wr.there pb 0 17) (h3 : pb < wr.heap.size) (h4 : ValPf pb wr op nm a n c T) (h5 : Below w.heap.size w wr) (hp : w.heap.size ≤ pb) :
    Stands pb w (.mk 9 ⟨#[]⟩ tm0 [T]) ((wr.alloc (.cells (pcv op nm a n c) 36)).setCells pb 0 (pcv 9 ⟨#[]⟩ (some ⟨wr.heap.size, 0, none⟩) 1 1).toList) := by
  have hal : Below wr.heap.size wr (wr.alloc (.cells (pcv op nm a n c) 36)) := (Below.refl _ wr).alloc (Nat.le_refl _) _
  have hz : (wr.alloc (.cells (pcv op nm a n c) 36)).heap.size = wr.heap.size + 1 := by simp
  have hkb : (wr.alloc (.cells (pcv op nm a n c) 36)).heap[wr.heap.size]? = some (.cells (pcv op nm a n c) 36 (0, 0)) := heap_alloc_new wr _
  have ht : (wr.alloc (.cells (pcv op nm a n c) 36)).there pb 0 17 := fun j hj => ⟨by rw [hal.cell (p := ⟨pb, 0 + j, none⟩) h3]; exact (h2 j hj).1, (hal.frozen (p := ⟨pb, 0 + j, none⟩) h3).trans (h2 j hj).2⟩
  have hbw : Below w.heap.size w (wr.alloc (.cells (pcv op nm a n c) 36)) := h5.trans (hal.mono h5.size)
  generalize wr.alloc (.cells (pcv op nm a n c) 36) = w1 at *
  have hsz := setCells_size pb (pcv 9 ⟨#[]⟩ (some ⟨wr.heap.size, 0, none⟩) 1 1).toList 0 w1
  refine ⟨9, ⟨#[]⟩, some ⟨wr.heap.size, 0, none⟩, 1, 1, World.rangeAt_setCells_same w1 pb 0 _ (by rw [pcv_len]; exact ht), World.there_setCells ht pb 0 _, by omega, ?_, setCells_below pb _ hp _ 0 w w1 hbw⟩
  refine valPf_sym h4 ⟨by omega, fun k hk hn => (setCells_other pb _ 0 w1 k hn).trans (hal.block k hk)⟩ (Nat.le_refl _) (by omega) h3 ?_ (t := 36)
  exact (setCells_other pb _ 0 w1 _ (by omega)).trans hkb

/-- One node more, with both kids the same. -/
theorem stands_dup {pb : Nat} {w wr : World} {op : Int} {nm : ByteArray} {a : Option Addr} {n c : Nat} {T : Pf} (h2 : wr.there pb 0 17) (h3 : pb < wr.heap.size) (h4 : ValPf pb wr op nm a n c T) (h5 : Below w.heap.size w wr) (hp : w.heap.size ≤ pb) :
    Stands pb w (.mk 10 ⟨#[]⟩ tm0 [T, T]) ((wr.alloc (.cells (pcv op nm a n c ++ pcv op nm a n c) 36)).setCells pb 0 (pcv 10 ⟨#[]⟩ (some ⟨wr.heap.size, 0, none⟩) 2 2).toList) := by
  have hal : Below wr.heap.size wr (wr.alloc (.cells (pcv op nm a n c ++ pcv op nm a n c) 36)) := (Below.refl _ wr).alloc (Nat.le_refl _) _
  have hz : (wr.alloc (.cells (pcv op nm a n c ++ pcv op nm a n c) 36)).heap.size = wr.heap.size + 1 := by simp
  have hkb : (wr.alloc (.cells (pcv op nm a n c ++ pcv op nm a n c) 36)).heap[wr.heap.size]? = some (.cells (pcv op nm a n c ++ pcv op nm a n c) 36 (0, 0)) := heap_alloc_new wr _
  have ht : (wr.alloc (.cells (pcv op nm a n c ++ pcv op nm a n c) 36)).there pb 0 17 := fun j hj => ⟨by rw [hal.cell (p := ⟨pb, 0 + j, none⟩) h3]; exact (h2 j hj).1, (hal.frozen (p := ⟨pb, 0 + j, none⟩) h3).trans (h2 j hj).2⟩
  have hbw : Below w.heap.size w (wr.alloc (.cells (pcv op nm a n c ++ pcv op nm a n c) 36)) := h5.trans (hal.mono h5.size)
  generalize wr.alloc (.cells (pcv op nm a n c ++ pcv op nm a n c) 36) = w1 at *
  have hsz := setCells_size pb (pcv 10 ⟨#[]⟩ (some ⟨wr.heap.size, 0, none⟩) 2 2).toList 0 w1
  refine ⟨10, ⟨#[]⟩, some ⟨wr.heap.size, 0, none⟩, 2, 2, World.rangeAt_setCells_same w1 pb 0 _ (by rw [pcv_len]; exact ht), World.there_setCells ht pb 0 _, by omega, ?_, setCells_below pb _ hp _ 0 w w1 hbw⟩
  refine valPf_dup h4 ⟨by omega, fun k hk hn => (setCells_other pb _ 0 w1 k hn).trans (hal.block k hk)⟩ (Nat.le_refl _) (by omega) h3 ?_ (t := 36)
  exact (setCells_other pb _ 0 w1 _ (by omega)).trans hkb

theorem pcv_two (op : Int) (nm : ByteArray) (a : Option Addr) (n c : Nat) : pcv op nm a n c ++ pcv op nm a n c = #[.int .i64 op, .string nm, .int .i64 0, .string ⟨#[]⟩, .int .i64 0, .int .i64 0, .string ⟨#[]⟩, .int .i64 0, .slice none 0 0, .slice none 0 0, .slice none 0 0, .slice none 0 0, .slice none 0 0, .slice none 0 0, .slice none 0 0, .int .i64 0, .slice a n c, .int .i64 op, .string nm, .int .i64 0, .string ⟨#[]⟩, .int .i64 0, .int .i64 0, .string ⟨#[]⟩, .int .i64 0, .slice none 0 0, .slice none 0 0, .slice none 0 0, .slice none 0 0, .slice none 0 0, .slice none 0 0, .slice none 0 0, .int .i64 0, .slice a n c] := by
  simp [pcv]

theorem limit_chain_big (k : Nat) (h : 30000 ≤ k) (h2 : k < 1000000) : limitE (chain k) = 6 := by
  unfold limitE
  rw [chain_nodes, chain_depth, if_neg (by omega), if_pos (by omega)]
theorem limit_chain (k : Nat) (h : k < 30000) : limitE (chain k) = 0 := by
  unfold limitE
  rw [chain_nodes, chain_depth, if_neg (by omega), if_neg (by omega)]
theorem limit_bush_big : limitE (bush (1 + 19)) = 5 := by
  have h := bush_nodes (1 + 19)
  have e : 2 ^ (1 + 19 + 1) = 2097152 := by decide
  rw [e] at h
  unfold limitE
  rw [if_pos (by omega)]
theorem limit_bush (m : Nat) (h : m < 19) : limitE (bush (1 + m)) = 0 := by
  have h2 := bush_nodes (1 + m)
  have e : 2 ^ (1 + m + 1) ≤ 2 ^ 20 := Nat.pow_le_pow_right (by decide) (by omega)
  have e2 : 2 ^ 20 = 1048576 := by decide
  rw [e2] at e
  unfold limitE
  rw [bush_depth, if_neg (by omega), if_neg (by omega)]
theorem wide_small : ∀ m : Nat, m < 19 → ¬ 2000000 < wrap64 (wrap64 (2 ^ (2 + m)) - 1) := by decide +kernel

/-- The block may be written behind an alloc. -/
theorem there_alloc {W : World} {b : Nat} (h : W.there b 0 17) (hb : b < W.heap.size) (o : Obj) : (W.alloc o).there b 0 17 := fun j hj => by
  have hal : Below W.heap.size W (W.alloc o) := (Below.refl _ W).alloc (Nat.le_refl _) _
  exact ⟨by rw [hal.cell (p := ⟨b, 0 + j, none⟩) hb]; exact (h j hj).1, (hal.frozen (p := ⟨b, 0 + j, none⟩) hb).trans (h j hj).2⟩
end Go.Proofs.YtdffhnfjcbnioaaDoor
