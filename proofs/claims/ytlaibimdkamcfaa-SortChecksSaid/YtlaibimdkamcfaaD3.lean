/-
  What an iterator that keeps its state in cells may trust: all cells but one block's; the supers in memory; a set of classes as bits.
-/
import Derived.Test.YtlaibimdkamcfaaD2
import Derived.Test.YtlaibimdkamcfaaRl
import Derived.RangeFuncFrom
import Derived.Laws.Rows
import Derived.Lib.Builder
import Derived.Laws.AppendOwn
namespace Go.Proofs.Ytlaibimdkamcfaa
open Go.RowKit

/-- Whatever is cells, but in block x, lies as it lay. -/
structure KeepsC (x : Nat) (A B : World) : Prop where
  size : A.heap.size ≤ B.heap.size
  same : ∀ (b : Nat) (o : Obj), b ≠ x → A.heap[b]? = some o → o.isCells = true → B.heap[b]? = some o

theorem KeepsC.refl (x : Nat) (A : World) : KeepsC x A A := ⟨Nat.le_refl _, fun _ _ _ h _ => h⟩
theorem KeepsC.trans {x : Nat} {A B C : World} (h : KeepsC x A B) (k : KeepsC x B C) : KeepsC x A C := ⟨Nat.le_trans h.size k.size, fun b o hb ho hc => k.same b o hb (h.same b o hb ho hc) hc⟩
theorem KeepsC.put {x : Nat} (W : World) (l : Nat) (o o' : Obj) (hl : W.heap[l]? = some o) (hc : o.isCells = false) : KeepsC x W (W.putObj l o') := by
  refine ⟨by simp, fun b p _ hb hp => ?_⟩
  by_cases e : b = l
  · subst e; rw [hl] at hb; cases hb; rw [hc] at hp; cases hp
  · exact (World.putObj_heap_other e).trans hb
theorem KeepsC.draw (x : Nat) (A : World) : KeepsC x A A.drew := ⟨Nat.le_refl _, fun _ _ _ h _ => h⟩
theorem KeepsC.store (x : Nat) (A : World) (o : Nat) (v : Value) : KeepsC x A (A.setCell ⟨x, o, none⟩ v) := by
  refine ⟨by simp, fun b p hb ho _ => ?_⟩
  exact (Below.heap_setCell A ⟨x, o, none⟩ v b hb).trans ho

theorem isCells_of_cell {A : World} {b o : Nat} {v : Value} (h : A.cell? ⟨b, o, none⟩ = some v) : ∃ p, A.heap[b]? = some p ∧ p.isCells = true := by
  unfold World.cell? at h
  split at h
  · rename_i e; exact ⟨_, e, rfl⟩
  · simp at h

theorem cell_of_block {A B : World} {b o : Nat} (h : B.heap[b]? = A.heap[b]?) : B.cell? ⟨b, o, none⟩ = A.cell? ⟨b, o, none⟩ := by unfold World.cell?; rw [h]
theorem frozen_of_block {A B : World} {b o : Nat} (h : B.heap[b]? = A.heap[b]?) : B.frozen? ⟨b, o, none⟩ = A.frozen? ⟨b, o, none⟩ := by unfold World.frozen?; rw [h]

theorem KeepsC.block {x : Nat} {A B : World} (h : KeepsC x A B) {b o : Nat} {v : Value} (hb : b ≠ x) (hc : A.cell? ⟨b, o, none⟩ = some v) : B.heap[b]? = A.heap[b]? := by
  obtain ⟨p, hp, hq⟩ := isCells_of_cell hc
  rw [h.same b p hb hp hq, hp]
theorem KeepsC.cell {x : Nat} {A B : World} (h : KeepsC x A B) {b o : Nat} {v : Value} (hb : b ≠ x) (hc : A.cell? ⟨b, o, none⟩ = some v) : B.cell? ⟨b, o, none⟩ = some v := (cell_of_block (h.block hb hc)).trans hc
theorem KeepsC.frozen {x : Nat} {A B : World} (h : KeepsC x A B) {b o : Nat} {v : Value} (hb : b ≠ x) (hc : A.cell? ⟨b, o, none⟩ = some v) : B.frozen? ⟨b, o, none⟩ = A.frozen? ⟨b, o, none⟩ := frozen_of_block (h.block hb hc)
theorem KeepsC.own {x base : Nat} {A B : World} (h : KeepsC x A B) {e size n : Nat} {v : Value} {xs : List Value} (hb : x < base) (hc : A.ownsRow base e size v n xs) : B.ownsRow base e size v n xs := by
  obtain ⟨h1, h2⟩ := hc
  refine ⟨h1, ?_⟩
  rcases h2 with h2 | ⟨g, cap, cur, hv, hg, hh, rest⟩
  · exact .inl h2
  · exact .inr ⟨g, cap, cur, hv, hg, h.same g _ (by omega) hh rfl, rest⟩

/-- What lay in cells when the world was W0, but in block x, lies so. -/
def Held (x : Nat) (W0 A : World) : Prop := W0.heap.size ≤ A.heap.size ∧ ∀ (b : Nat) (o : Obj), b ≠ x → b < W0.heap.size → W0.heap[b]? = some o → o.isCells = true → A.heap[b]? = some o
theorem Held.refl (x : Nat) (W0 : World) : Held x W0 W0 := ⟨Nat.le_refl _, fun _ _ _ _ h _ => h⟩
theorem Held.below {x : Nat} {W0 A B : World} (h : Held x W0 A) (hb : Below W0.heap.size A B) : Held x W0 B := ⟨Nat.le_trans h.1 hb.size, fun b o hx hl ho hc => (hb.block b hl).trans (h.2 b o hx hl ho hc)⟩
theorem Held.keeps {x : Nat} {W0 A B : World} (h : Held x W0 A) (hk : KeepsC x A B) : Held x W0 B := ⟨Nat.le_trans h.1 hk.size, fun b o hx hl ho hc => hk.same b o hx (h.2 b o hx hl ho hc) hc⟩
theorem Held.cell {x : Nat} {W0 A : World} (h : Held x W0 A) {b o : Nat} {v : Value} (hb : b ≠ x) (hl : b < W0.heap.size) (hc : W0.cell? ⟨b, o, none⟩ = some v) : A.cell? ⟨b, o, none⟩ = some v := by
  obtain ⟨p, hp, hq⟩ := isCells_of_cell hc
  exact (cell_of_block ((h.2 b p hb hl hp hq).trans hp.symm)).trans hc

/-- The supers of the first n classes, in memory: a slice of slices of numbers. -/
structure SupAt (sup : Nat → List Nat) (n x B : Nat) (W : World) (sb so : Nat) : Prop where
  blk : 0 < n → sb < B ∧ sb ≠ x
  row : ∀ i, i < n → ∃ (a : Option Addr) (b o c : Nat), W.cell? ⟨sb, so + i, none⟩ = some (.slice a (sup i).length c) ∧ (sup i ≠ [] → a = some ⟨b, o, none⟩ ∧ b < B ∧ b ≠ x) ∧
    ∀ j (h : j < (sup i).length), W.cell? ⟨b, o + j, none⟩ = some (.int .i64 (sup i)[j])

theorem SupAt.held {sup : Nat → List Nat} {n x : Nat} {W A : World} {sb so : Nat} (h : SupAt sup n x W.heap.size W sb so) (hh : Held x W A) : SupAt sup n x W.heap.size A sb so := by
  refine ⟨h.blk, fun i hi => ?_⟩
  obtain ⟨a, b, o, c, h1, h2, h3⟩ := h.row i hi
  have hb := h.blk (by omega)
  refine ⟨a, b, o, c, hh.cell hb.2 hb.1 h1, h2, fun j hj => ?_⟩
  have hn := h2 (by intro e; rw [e] at hj; simp at hj)
  exact hh.cell hn.2.2 hn.2.1 (h3 j hj)

/-- A set of classes: five words, in a block of its own. -/
def SeenAt (sb : Nat) (S : Nat → Bool) (W : World) : Prop :=
  ∃ (cs : Array Value) (f : Nat → Nat), W.heap[sb]? = some (.cells cs 109 (0, 0)) ∧ ∀ k, k < 5 → cs[k]? = some (.int .u64 (f k)) ∧ f k < 18446744073709551616 ∧ ∀ r, r < 64 → (f k).testBit r = S (k * 64 + r)

theorem SeenAt.keeps {x sb : Nat} {S : Nat → Bool} {A B : World} (h : SeenAt sb S A) (hk : KeepsC x A B) (hx : sb ≠ x) : SeenAt sb S B := by
  obtain ⟨cs, f, h1, hf⟩ := h
  exact ⟨cs, f, hk.same sb _ hx h1 rfl, hf⟩

theorem SeenAt.below {sb B : Nat} {S : Nat → Bool} {A A' : World} (h : SeenAt sb S A) (hb : Below B A A') (hx : sb < B) : SeenAt sb S A' := by
  obtain ⟨cs, f, h1, hf⟩ := h
  exact ⟨cs, f, (hb.block sb hx).trans h1, hf⟩

theorem SeenAt.congr {sb : Nat} {S S' : Nat → Bool} {A : World} (h : SeenAt sb S A) (e : ∀ j, S j = S' j) : SeenAt sb S' A := by
  obtain rfl : S = S' := funext e
  exact h

theorem SeenAt.new (A : World) {sb : Nat} (h : A.heap[sb]? = some (.cells #[.int .u64 0, .int .u64 0, .int .u64 0, .int .u64 0, .int .u64 0] 109 (0, 0))) : SeenAt sb (fun _ => false) A :=
  ⟨_, fun _ => 0, h, fun k hk => ⟨match k, hk with | 0, _ => rfl | 1, _ => rfl | 2, _ => rfl | 3, _ => rfl | 4, _ => rfl, by show (0 : Nat) < _; decide, fun r _ => by simp⟩⟩

/-- A row of another type lies elsewhere. -/
theorem SeenAt.apart {sb base e n : Nat} {S : Nat → Bool} {W : World} {v : Value} {xs : List Value} (h : SeenAt sb S W) (he : e ≠ 109) (ho : W.ownsRow base e 1 v n xs) : v.ownBlock ≠ some sb := by
  obtain ⟨cs, f, h1, _⟩ := h
  rcases ho.2 with ⟨rfl, _⟩ | ⟨g, cap, cur, rfl, _, hg, _⟩
  · exact fun h => by cases h
  · intro h
    simp only [Value.ownBlock, Option.some.injEq] at h
    subst h
    rw [h1] at hg
    cases hg
    exact he rfl

theorem SeenAt.grown {sb : Nat} {S : Nat → Bool} {W W' : World} {row : Option Nat} (h : SeenAt sb S W) (hg : W.grownBy W' row) (hr : row ≠ some sb) : SeenAt sb S W' := by
  obtain ⟨cs, f, h1, hf⟩ := h
  exact ⟨cs, f, (hg.block sb (Array.getElem?_eq_some_iff.1 h1).1 (fun e => hr e.symm)).trans h1, hf⟩

/-- The word of a class, and what stands behind one more. -/
theorem SeenAt.word {sb j : Nat} {S : Nat → Bool} {A : World} (h : SeenAt sb S A) (hj : j < 320) :
    ∃ v : Nat, A.cell? ⟨sb, 0 + j / 64, none⟩ = some (.int .u64 v) ∧ A.frozen? ⟨sb, 0 + j / 64, none⟩ = false ∧ v < 18446744073709551616 ∧ v.testBit (j % 64) = S j ∧
      SeenAt sb (fun k => S k || decide (k = j)) (A.setCell ⟨sb, 0 + j / 64, none⟩ (.int .u64 ((v ||| 2 ^ (j % 64) : Nat) : Int))).drew := by
  obtain ⟨cs, f, h0, hf⟩ := h
  obtain ⟨h1, h3, h4⟩ := hf (j / 64) (by omega)
  rw [Nat.zero_add]
  refine ⟨f (j / 64), (Lib.cell_of_heap h0 _).trans h1, Lib.frozen_of_heap h0 _, h3, ?_, _, fun k => if k = j / 64 then f k ||| 2 ^ (j % 64) else f k, Go.heap_setCell_same A sb (j / 64) cs 109 _ h0, fun k hk => ?_⟩
  · rw [h4 _ (by omega)]; congr 1; omega
  · by_cases e : k = j / 64
    · subst e
      simp only [if_true]
      refine ⟨by rw [Array.getElem?_setIfInBounds_self_of_lt (Array.getElem?_eq_some_iff.1 h1).1], ?_, fun r hr => ?_⟩
      · have := Nat.or_lt_two_pow (n := 64) h3 (Nat.pow_lt_pow_right (by decide) (show j % 64 < 64 by omega)); simpa using this
      · rw [Nat.testBit_or, h4 r hr, Nat.testBit_two_pow]
        congr 1
        rw [Bool.eq_iff_iff, decide_eq_true_eq, decide_eq_true_eq]
        omega
    · simp only [if_neg e]
      obtain ⟨g1, g3, g4⟩ := hf k hk
      refine ⟨by rw [Array.getElem?_setIfInBounds_ne (fun e' => e e'.symm)]; exact g1, g3, fun r hr => ?_⟩
      rw [g4 r hr, decide_eq_false (by omega), Bool.or_false]

/-- How many classes are not in the set. -/
def seenBit (sb : Nat) (W : World) (j : Nat) : Bool :=
  match W.cell? ⟨sb, j / 64, none⟩ with
  | some (.int _ v) => v.toNat.testBit (j % 64)
  | _ => false
def unset (sb : Nat) (W : World) : Nat := ((List.range 320).filter fun j => !seenBit sb W j).length
def notIn (S : Nat → Bool) : Nat := ((List.range 320).filter fun j => !S j).length
theorem SeenAt.unset {sb : Nat} {S : Nat → Bool} {W : World} (h : SeenAt sb S W) : unset sb W = notIn S := by
  obtain ⟨cs, f, h0, hf⟩ := h
  unfold Ytlaibimdkamcfaa.unset notIn
  congr 1
  refine List.filter_congr fun j hj => ?_
  have hj := List.mem_range.1 hj
  obtain ⟨h1, _, h4⟩ := hf (j / 64) (by omega)
  unfold seenBit
  rw [Lib.cell_of_heap h0, h1]
  simp only [Int.toNat_natCast]
  rw [h4 _ (by omega), show j / 64 * 64 + j % 64 = j by omega]

theorem notIn_add {S : Nat → Bool} {j : Nat} (hj : j < 320) (hS : S j = false) : notIn (fun k => S k || decide (k = j)) < notIn S := by
  unfold notIn
  refine filter_lt (fun x hx => ?_) (x := j) (List.mem_range.2 hj) (by rw [hS]; rfl) (by simp)
  simp only [Bool.not_or, Bool.and_eq_true] at hx
  exact hx.1
end Go.Proofs.Ytlaibimdkamcfaa
