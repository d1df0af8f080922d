/-
  A slice of strings that came as an argument.
-/
import Derived.Test.YtdkagjbedinhjaaGreatZ5
import Derived.ProofKit
import Derived.Deep.Strs
import Derived.OpenShut
namespace Go.Proofs.YtdkagjbedinhjaaGreat
open Go.RowKit Go.Deep Go.ChangeShapes Go.WideShapes Go.ChangeAt

theorem list1 {α : Type} {l : List α} (h : l.length = 1) : ∃ a, l = [a] := by
  match l, h with
  | [a], _ => exact ⟨a, rfl⟩

section
variable {H : Type} {enc : TypeId × Value → H} {w : World} {base : Nat} {spare : Nat → Bool} {held : Bool}

theorem block_of_cell {W : World} {a : Addr} {v : Value} (h : W.cell? a = some v) : a.block < W.heap.size := by
  unfold World.cell? at h
  split at h
  · rename_i e; exact (Array.getElem?_eq_some_iff.1 e).1
  · simp at h

/-- A slice of things of k cells each. -/
theorem elems_of_trod {P : Program} {t e : TypeId} {k : Nat} {Q : Nat → Nat → Prop} (ht : P.underlying t = some (.slice e)) (hk : P.cellsOf e = k) (h0 : 0 < k)
    (hel : ∀ (n b o : Nat) (cs : List Value) (x : DataW H × List MemPlace), (∀ j, j < k → w.cell? ⟨b, o + j, none⟩ = cs[j]?) → cs.length = k → b < w.heap.size → DataW.trod enc P w base spare held n e cs = some x → Q b o)
    {fuel : Nat} {v : Value} {x : DataW H × List MemPlace} (h : DataW.trod enc P w base spare held fuel t [v] = some x) :
    ∃ (n : Nat) (a : Option Addr) (cap b o : Nat), v = .slice a n cap ∧ n ≤ 9223372036854775807 ∧ (0 < n → a = some ⟨b, o, none⟩ ∧ b < w.heap.size) ∧ ∀ i, i < n → Q b (o + i * k) := by
  rcases DataW.trod_slice ht h with ⟨h0, _⟩ | ⟨a, len, cap, elems, rest, m, rfl, hv, _, hb, hle, hcap, hlen, hee, _, _⟩
  · simp only [List.cons.injEq, and_true] at h0
    subst h0
    exact ⟨0, none, 0, 0, 0, rfl, by omega, fun h => by omega, fun i hi => by omega⟩
  · simp only [List.cons.injEq, and_true] at hv
    subst hv
    have hmax : len ≤ 9223372036854775807 := by have := hcap; unfold maxLen at this; omega
    by_cases hl0 : len = 0
    · subst hl0
      exact ⟨0, some a, cap, 0, 0, rfl, by omega, fun h => by omega, fun i hi => by omega⟩
    · have hcell : ∀ i, i < len → ∃ (cs : List Value) (y : DataW H × List MemPlace), (∀ j, j < k → w.cell? ((a.add (i * k)).add j) = cs[j]?) ∧ cs.length = k ∧ DataW.trod enc P w base spare held m e cs = some y := by
        intro i hi
        have := hee i hi
        rw [List.getElem?_eq_getElem (by omega), hk] at this
        obtain ⟨cs, h1, h2⟩ := Option.bind_eq_some_iff.1 this
        obtain ⟨_, h3, h4⟩ := World.cells?_some h1
        exact ⟨cs, _, h4, h3, h2⟩
      obtain ⟨cs0, y0, hc0, hl0', _⟩ := hcell 0 (by omega)
      have hc00 := hc0 0 h0
      rw [List.getElem?_eq_getElem (by omega)] at hc00
      have hs : a.spot = none := by simpa [Addr.add] using World.cell?_spot hc00
      have hblk : a.block < w.heap.size := by simpa [Addr.add] using block_of_cell hc00
      obtain ⟨b, o, sp⟩ := a
      simp only at hs hblk
      subst hs
      refine ⟨len, _, cap, b, o, rfl, hmax, fun _ => ⟨rfl, hblk⟩, fun i hi => ?_⟩
      obtain ⟨cs, y, h4, h5, h6⟩ := hcell i hi
      refine hel m b (o + i * k) cs y (fun j hj => ?_) h5 hblk h6
      have := h4 j hj
      rwa [Go.WideShapes.add_plain, Go.WideShapes.add_plain] at this

theorem cellsStr : Tryz.prog.cellsOf 9 = 1 := by kernel_rfl

/-- Choose a list out of what holds at each place. -/
theorem choose_list {α : Type} {n : Nat} {Q : Nat → α → Prop} (h : ∀ i, i < n → ∃ c, Q i c) : ∃ l : List α, l.length = n ∧ ∀ i (hi : i < l.length), Q i l[i] := by
  induction n with
  | zero => exact ⟨[], rfl, fun i hi => by simp at hi⟩
  | succ n ih =>
    obtain ⟨l, hl, hq⟩ := ih (fun i hi => h i (by omega))
    obtain ⟨c, hc⟩ := h n (by omega)
    refine ⟨l ++ [c], by simp [hl], fun i hi => ?_⟩
    by_cases hin : i < l.length
    · rw [List.getElem_append_left hin]; exact hq i hin
    · have : i = l.length := by simp at hi; omega
      subst this
      rw [List.getElem_append_right (Nat.le_refl _)]
      simpa [hl] using hc

set_option maxRecDepth 100000 in
theorem strs_arg {fuel : Nat} {v : Value} {x : DataW H × List MemPlace} (h : DataW.trod enc Tryz.prog w base spare held fuel 22 [v] = some x) : ∃ l, HasStrs w v l := by
  obtain ⟨n, a, cap, b, o, rfl, hn, ha, hq⟩ := elems_of_trod (Q := fun b o => ∃ s : ByteArray, w.cell? ⟨b, o, none⟩ = some (.string s) ∧ s.size ≤ maxLen) Tryz.underlying22 cellsStr (by decide) (fun n b o cs x hc hl hb ht => by
    obtain ⟨v0, rfl⟩ := list1 hl
    obtain ⟨s, e1, _, w1⟩ := DataW.trod_string Tryz.underlying9 ht
    simp only [List.cons.injEq, and_true] at e1
    subst e1
    exact ⟨s, hc 0 (by decide), w1⟩) h
  obtain ⟨l, hl, hl2⟩ := choose_list (n := n) (Q := fun i s => w.cell? ⟨b, o + i * 1, none⟩ = some (.string s) ∧ s.size ≤ maxLen) hq
  subst hl
  refine ⟨l, a, cap, b, o, rfl, hn, fun hne => (ha (List.length_pos_iff.2 hne)).1, fun hne => (ha (List.length_pos_iff.2 hne)).2, fun i hi => ?_, fun i hi => (hl2 i hi).2⟩
  have := (hl2 i hi).1
  rwa [Nat.mul_one] at this

end

set_option maxRecDepth 100000 in
theorem hasStrs_of {H : Type} {enc : TypeId × Value → H} {W : World} {base : Nat} {v : Value} {d : DataW H} {ps : List MemPlace} (hv : Value.okWide Tryz.prog W .any base 22 v) (h : DataW.Trod enc Tryz.prog W 0 (fun _ => true) true 22 v d ps) : ∃ l, HasStrs W v l := by
  obtain ⟨a, len, cap, rfl⟩ := okWide_slice Tryz.underlying22 hv
  obtain ⟨fuel, h⟩ := h
  exact strs_arg h
end Go.Proofs.YtdkagjbedinhjaaGreat
