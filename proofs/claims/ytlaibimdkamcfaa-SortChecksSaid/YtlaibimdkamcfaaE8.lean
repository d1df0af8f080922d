/-
  Arguments that read as data: a slice of strings, a theory with its classes and arities.
-/
import Derived.Test.YtlaibimdkamcfaaE7
import Derived.ProofKit
import Derived.Deep.Strs
import Derived.OpenShut
namespace Go.Proofs.Ytlaibimdkamcfaa
open Go.RowKit Go.Deep

theorem list1 {α : Type} {l : List α} (h : l.length = 1) : ∃ a, l = [a] := by
  match l, h with
  | [a], _ => exact ⟨a, rfl⟩
theorem list2 {α : Type} {l : List α} (h : l.length = 2) : ∃ a b, l = [a, b] := by
  match l, h with
  | [a, b], _ => exact ⟨a, b, rfl⟩
theorem list3 {α : Type} {l : List α} (h : l.length = 3) : ∃ a b c, l = [a, b, c] := by
  match l, h with
  | [a, b, c], _ => exact ⟨a, b, c, rfl⟩
theorem list7 {α : Type} {l : List α} (h : l.length = 7) : ∃ a b c d e f g, l = [a, b, c, d, e, f, g] := by
  match l, h with
  | [a, b, c, d, e, f, g], _ => exact ⟨a, b, c, d, e, f, g, rfl⟩

section
variable {H : Type} {enc : TypeId × Value → H} {w : World} {base : Nat} {spare : Nat → Bool} {held : Bool}

theorem block_of_cell {W : World} {a : Addr} {v : Value} (h : W.cell? a = some v) : a.block < W.heap.size := by
  unfold World.cell? at h
  split at h
  · rename_i e; exact (Array.getElem?_eq_some_iff.1 e).1
  · simp at h

/-- A slice of things of k cells each. -/
theorem elems_of_trod {P : Program} {t e : TypeId} {k : Nat} {Q : Nat → Nat → Prop} (ht : P.underlying t = some (.slice e)) (hk : P.cellsOf e = k) (h0 : 0 < k)
    (hel : ∀ (n b o : Nat) (cs : List Value) (x : DataW H × List MemPlace), (∀ j, j < k → w.cell? ⟨b, o + j, none⟩ = cs[j]?) → cs.length = k → b < w.heap.size → DataW.trod enc P w base spare held n e cs = some x → Q b o)
    {fuel : Nat} {v : Value} {x : DataW H × List MemPlace} (h : DataW.trod enc P w base spare held fuel t [v] = some x) :
    ∃ (n : Nat) (a : Option Addr) (cap b o : Nat), v = .slice a n cap ∧ n ≤ 9223372036854775807 ∧ (0 < n → a = some ⟨b, o, none⟩ ∧ b < w.heap.size) ∧ ∀ i, i < n → Q b (o + i * k) := by
  rcases DataW.trod_slice ht h with ⟨h0, _⟩ | ⟨a, len, cap, elems, rest, m, rfl, hv, _, hb, hle, hcap, hlen, hee, _, _⟩
  · simp only [List.cons.injEq, and_true] at h0
    subst h0
    exact ⟨0, none, 0, 0, 0, rfl, by omega, fun h => by omega, fun i hi => by omega⟩
  · simp only [List.cons.injEq, and_true] at hv
    subst hv
    have hmax : len ≤ 9223372036854775807 := by have := hcap; unfold maxLen at this; omega
    by_cases hl0 : len = 0
    · subst hl0
      exact ⟨0, some a, cap, 0, 0, rfl, by omega, fun h => by omega, fun i hi => by omega⟩
    · have hcell : ∀ i, i < len → ∃ (cs : List Value) (y : DataW H × List MemPlace), (∀ j, j < k → w.cell? ((a.add (i * k)).add j) = cs[j]?) ∧ cs.length = k ∧ DataW.trod enc P w base spare held m e cs = some y := by
        intro i hi
        have := hee i hi
        rw [List.getElem?_eq_getElem (by omega), hk] at this
        obtain ⟨cs, h1, h2⟩ := Option.bind_eq_some_iff.1 this
        obtain ⟨_, h3, h4⟩ := World.cells?_some h1
        exact ⟨cs, _, h4, h3, h2⟩
      obtain ⟨cs0, y0, hc0, hl0', _⟩ := hcell 0 (by omega)
      have hc00 := hc0 0 h0
      rw [List.getElem?_eq_getElem (by omega)] at hc00
      have hs : a.spot = none := by simpa [Addr.add] using World.cell?_spot hc00
      have hblk : a.block < w.heap.size := by simpa [Addr.add] using block_of_cell hc00
      obtain ⟨b, o, sp⟩ := a
      simp only at hs hblk
      subst hs
      refine ⟨len, _, cap, b, o, rfl, hmax, fun _ => ⟨rfl, hblk⟩, fun i hi => ?_⟩
      obtain ⟨cs, y, h4, h5, h6⟩ := hcell i hi
      refine hel m b (o + i * k) cs y (fun j hj => ?_) h5 hblk h6
      have := h4 j hj
      rwa [Go.WideShapes.add_plain, Go.WideShapes.add_plain] at this

theorem slice_of_trod {P : Program} {t e : TypeId} (ht : P.underlying t = some (.slice e)) {fuel : Nat} {v : Value} {x : DataW H × List MemPlace} (h : DataW.trod enc P w base spare held fuel t [v] = some x) : ∃ (n : Nat) (a : Option Addr) (cap : Nat), v = .slice a n cap ∧ n ≤ 9223372036854775807 := by
  rcases DataW.trod_slice ht h with ⟨h0, _⟩ | ⟨a, len, cap, elems, rest, m, rfl, hv, _, hb, hle, hcap, hlen, hee, _, _⟩
  · simp only [List.cons.injEq, and_true] at h0
    subst h0
    exact ⟨0, none, 0, rfl, by omega⟩
  · simp only [List.cons.injEq, and_true] at hv
    subst hv
    exact ⟨len, _, cap, rfl, by unfold maxLen at hcap; omega⟩

/-- A slice of strings as an argument. -/
def HasStrs (W : World) (v : Value) (l : List ByteArray) : Prop :=
  ∃ (a : Option Addr) (cap b o : Nat), v = .slice a l.length cap ∧ l.length ≤ 9223372036854775807 ∧ (l ≠ [] → a = some ⟨b, o, none⟩) ∧ StrsAt W b o l

theorem cells9 : Try.prog.cellsOf 9 = 1 := by kernel_rfl
theorem cells27 : Try.prog.cellsOf 27 = 1 := by kernel_rfl
theorem cells44 : Try.prog.cellsOf 44 = 1 := by kernel_rfl
theorem cells60 : Try.prog.cellsOf 60 = 2 := by kernel_rfl
theorem cells62 : Try.prog.cellsOf 62 = 3 := by kernel_rfl
theorem cells22 : Try.prog.cellsOf 22 = 1 := by kernel_rfl
theorem cells23 : Try.prog.cellsOf 23 = 1 := by kernel_rfl
theorem cells24 : Try.prog.cellsOf 24 = 1 := by kernel_rfl
theorem cells25 : Try.prog.cellsOf 25 = 1 := by kernel_rfl
theorem cells26 : Try.prog.cellsOf 26 = 1 := by kernel_rfl
theorem cells29 : Try.prog.cellsOf 29 = 7 := by kernel_rfl

/-- Choose a list out of what holds at each place. -/
theorem choose_list {α : Type} {n : Nat} {Q : Nat → α → Prop} (h : ∀ i, i < n → ∃ c, Q i c) : ∃ l : List α, l.length = n ∧ ∀ i (hi : i < l.length), Q i l[i] := by
  induction n with
  | zero => exact ⟨[], rfl, fun i hi => by simp at hi⟩
  | succ n ih =>
    obtain ⟨l, hl, hq⟩ := ih (fun i hi => h i (by omega))
    obtain ⟨c, hc⟩ := h n (by omega)
    refine ⟨l ++ [c], by simp [hl], fun i hi => ?_⟩
    by_cases hin : i < l.length
    · rw [List.getElem_append_left hin]; exact hq i hin
    · have : i = l.length := by simp at hi; omega
      subst this
      rw [List.getElem_append_right (Nat.le_refl _)]
      simpa [hl] using hc

theorem strs_arg {fuel : Nat} {v : Value} {x : DataW H × List MemPlace} (h : DataW.trod enc Try.prog w base spare held fuel 27 [v] = some x) : ∃ l, HasStrs w v l := by
  obtain ⟨n, a, cap, b, o, rfl, hn, ha, hq⟩ := elems_of_trod (Q := fun b o => ∃ s : ByteArray, w.cell? ⟨b, o, none⟩ = some (.string s) ∧ s.size ≤ maxLen) Try.underlying27 cells9 (by decide) (fun n b o cs x hc hl hb ht => by
    obtain ⟨v0, rfl⟩ := list1 hl
    obtain ⟨s, e1, _, w1⟩ := DataW.trod_string Try.underlying9 ht
    simp only [List.cons.injEq, and_true] at e1
    subst e1
    exact ⟨s, hc 0 (by decide), w1⟩) h
  obtain ⟨l, hl, hl2⟩ := choose_list (n := n) (Q := fun i s => w.cell? ⟨b, o + i * 1, none⟩ = some (.string s) ∧ s.size ≤ maxLen) hq
  subst hl
  refine ⟨l, a, cap, b, o, rfl, hn, fun hne => (ha (List.length_pos_iff.2 hne)).1, fun hne => (ha (List.length_pos_iff.2 hne)).2, fun i hi => ?_, fun i hi => (hl2 i hi).2⟩
  have := (hl2 i hi).1
  rwa [Nat.mul_one] at this

set_option maxRecDepth 100000 in
theorem class_of_trod {n b o : Nat} {cs : List Value} {x : DataW H × List MemPlace} (hc : ∀ j, j < 2 → w.cell? ⟨b, o + j, none⟩ = cs[j]?) (hl : cs.length = 2) (ht : DataW.trod enc Try.prog w base spare held n 60 cs = some x) : ∃ c : Cls, ClsAt w b o c := by
  obtain ⟨xs, m, rfl, rfl, hlen, hxs, hf⟩ := DataW.trod_struct Try.underlying60 ht
  have hx2 : xs.length = 2 := by simpa using hxs
  obtain ⟨v0, v1, rfl⟩ := list2 hl
  have g0 : DataW.trod enc Try.prog w base spare held m 9 (List.take (Try.prog.cellsOf 9) (List.drop 0 [v0, v1])) = xs[0]? := hf 0 _ rfl
  have g1 : DataW.trod enc Try.prog w base spare held m 27 (List.take (Try.prog.cellsOf 27) (List.drop 1 [v0, v1])) = xs[1]? := hf 1 _ rfl
  simp only [cells9, cells27] at g0 g1
  rw [List.getElem?_eq_getElem (by omega)] at g0 g1
  simp only [List.drop_succ_cons, List.drop_zero, List.take_succ_cons, List.take_zero] at g0 g1
  obtain ⟨s, e1, _, w1⟩ := DataW.trod_string Try.underlying9 g0
  obtain ⟨l, a, cap, sb, so, e2, hl9, ha, hst⟩ := strs_arg g1
  simp only [List.cons.injEq, and_true] at e1
  subst e1 e2
  exact ⟨⟨s, l⟩, a, sb, so, cap, hc 0 (by decide), hc 1 (by decide), ha, hst, w1, by unfold maxLen; exact hl9⟩

set_option maxRecDepth 100000 in
theorem arity_of_trod {n b o : Nat} {cs : List Value} {x : DataW H × List MemPlace} (hc : ∀ j, j < 3 → w.cell? ⟨b, o + j, none⟩ = cs[j]?) (hl : cs.length = 3) (ht : DataW.trod enc Try.prog w base spare held n 62 cs = some x) :
    ∃ ns : List Nat, ns.length ≤ 9223372036854775807 ∧ ∃ (t k : ByteArray) (a : Option Addr) (sb so c : Nat), w.cell? ⟨b, o, none⟩ = some (.string t) ∧ w.cell? ⟨b, o + 1, none⟩ = some (.string k) ∧ w.cell? ⟨b, o + 2, none⟩ = some (.slice a ns.length c) ∧ (ns ≠ [] → a = some ⟨sb, so, none⟩) ∧ LensAt w sb so ns := by
  obtain ⟨xs, m, rfl, rfl, hlen, hxs, hf⟩ := DataW.trod_struct Try.underlying62 ht
  have hx3 : xs.length = 3 := by simpa using hxs
  obtain ⟨v0, v1, v2, rfl⟩ := list3 hl
  have g0 : DataW.trod enc Try.prog w base spare held m 9 (List.take (Try.prog.cellsOf 9) (List.drop 0 [v0, v1, v2])) = xs[0]? := hf 0 _ rfl
  have g1 : DataW.trod enc Try.prog w base spare held m 9 (List.take (Try.prog.cellsOf 9) (List.drop 1 [v0, v1, v2])) = xs[1]? := hf 1 _ rfl
  have g2 : DataW.trod enc Try.prog w base spare held m 44 (List.take (Try.prog.cellsOf 44) (List.drop 2 [v0, v1, v2])) = xs[2]? := hf 2 _ rfl
  simp only [cells9, cells44] at g0 g1 g2
  rw [List.getElem?_eq_getElem (by omega)] at g0 g1 g2
  simp only [List.drop_succ_cons, List.drop_zero, List.take_succ_cons, List.take_zero] at g0 g1 g2
  obtain ⟨s, e1, _, w1⟩ := DataW.trod_string Try.underlying9 g0
  obtain ⟨s', e2, _, w2⟩ := DataW.trod_string Try.underlying9 g1
  obtain ⟨k, a, cap, sb, so, e3, hn, ha, hq⟩ := elems_of_trod (Q := fun b o => b < w.heap.size ∧ ∃ (n : Nat) (a : Option Addr) (c : Nat), n ≤ 9223372036854775807 ∧ w.cell? ⟨b, o, none⟩ = some (.slice a n c)) Try.underlying44 cells27 (by decide) (fun n b o cs x hc hl hb ht => by
    obtain ⟨v0, rfl⟩ := list1 hl
    obtain ⟨n', a', c', rfl, hn'⟩ := slice_of_trod Try.underlying27 ht
    exact ⟨hb, n', a', c', hn', hc 0 (by decide)⟩) g2
  obtain ⟨l, hl, hl2⟩ := choose_list (n := k) (Q := fun i n => sb < w.heap.size ∧ ∃ (a : Option Addr) (c : Nat), n ≤ 9223372036854775807 ∧ w.cell? ⟨sb, so + i * 1, none⟩ = some (.slice a n c)) (fun i hi => by
    obtain ⟨hb, n, a, c, h1, h2⟩ := hq i hi
    exact ⟨n, hb, a, c, h1, h2⟩)
  subst hl
  simp only [List.cons.injEq, and_true] at e1 e2
  subst e1 e2 e3
  refine ⟨l, hn, s, s', a, sb, so, cap, hc 0 (by decide), hc 1 (by decide), hc 2 (by decide), fun hne => (ha (List.length_pos_iff.2 hne)).1, fun i hi => ?_⟩
  obtain ⟨hb, a', c', h1, h2⟩ := hl2 i hi
  rw [Nat.mul_one] at h2
  exact ⟨hb, h1, a', c', h2⟩

/-- A theory as an argument. -/
def HasThy (W : World) (v : Value) : Prop :=
  ∃ (nm : ByteArray) (ca ta ra oa ya qa : Option Addr) (cc tn tc rc on oc yn yc qn qc cb co rb ro : Nat) (cs : List Cls) (ars : List (List Nat)),
    v = .agg #[.string nm, .slice ca cs.length cc, .slice ta tn tc, .slice ra ars.length rc, .slice oa on oc, .slice ya yn yc, .slice qa qn qc] ∧ (cs ≠ [] → ca = some ⟨cb, co, none⟩) ∧ ClassesAt W cb co cs ∧ cs.length ≤ 9223372036854775807 ∧
    tn ≤ 9223372036854775807 ∧ (ars ≠ [] → ra = some ⟨rb, ro, none⟩) ∧ AritiesAt W rb ro ars ∧ ars.length ≤ 9223372036854775807

set_option maxRecDepth 100000 in
theorem thy_arg {fuel : Nat} {cs : List Value} {x : DataW H × List MemPlace} (h : DataW.trod enc Try.prog w base spare held fuel 29 cs = some x) : HasThy w (.agg cs.toArray) := by
  obtain ⟨xs, m, rfl, rfl, hlen, hxs, hf⟩ := DataW.trod_struct Try.underlying29 h
  rw [cells29] at hlen
  have hx7 : xs.length = 7 := by simpa using hxs
  obtain ⟨v0, v1, v2, v3, v4, v5, v6, rfl⟩ := list7 hlen
  have g0 : DataW.trod enc Try.prog w base spare held m 9 (List.take (Try.prog.cellsOf 9) (List.drop 0 [v0, v1, v2, v3, v4, v5, v6])) = xs[0]? := hf 0 _ rfl
  have g1 : DataW.trod enc Try.prog w base spare held m 22 (List.take (Try.prog.cellsOf 22) (List.drop 1 [v0, v1, v2, v3, v4, v5, v6])) = xs[1]? := hf 1 _ rfl
  have g2 : DataW.trod enc Try.prog w base spare held m 23 (List.take (Try.prog.cellsOf 23) (List.drop 2 [v0, v1, v2, v3, v4, v5, v6])) = xs[2]? := hf 2 _ rfl
  have g3 : DataW.trod enc Try.prog w base spare held m 24 (List.take (Try.prog.cellsOf 24) (List.drop 3 [v0, v1, v2, v3, v4, v5, v6])) = xs[3]? := hf 3 _ rfl
  have g4 : DataW.trod enc Try.prog w base spare held m 25 (List.take (Try.prog.cellsOf 25) (List.drop 4 [v0, v1, v2, v3, v4, v5, v6])) = xs[4]? := hf 4 _ rfl
  have g5 : DataW.trod enc Try.prog w base spare held m 26 (List.take (Try.prog.cellsOf 26) (List.drop 5 [v0, v1, v2, v3, v4, v5, v6])) = xs[5]? := hf 5 _ rfl
  have g6 : DataW.trod enc Try.prog w base spare held m 27 (List.take (Try.prog.cellsOf 27) (List.drop 6 [v0, v1, v2, v3, v4, v5, v6])) = xs[6]? := hf 6 _ rfl
  simp only [cells9, cells22, cells23, cells24, cells25, cells26, cells27] at g0 g1 g2 g3 g4 g5 g6
  rw [List.getElem?_eq_getElem (by omega)] at g0 g1 g2 g3 g4 g5 g6
  simp only [List.drop_succ_cons, List.drop_zero, List.take_succ_cons, List.take_zero] at g0 g1 g2 g3 g4 g5 g6
  obtain ⟨nm, e0, _, w0⟩ := DataW.trod_string Try.underlying9 g0
  obtain ⟨tn, ta, tc, e2, htn⟩ := slice_of_trod Try.underlying23 g2
  obtain ⟨on, oa, oc, e4, _⟩ := slice_of_trod Try.underlying25 g4
  obtain ⟨yn, ya, yc, e5, _⟩ := slice_of_trod Try.underlying26 g5
  obtain ⟨qn, qa, qc, e6, _⟩ := slice_of_trod Try.underlying27 g6
  obtain ⟨cn, ca, cc, cb, co, e1, hcn, hca, hcq⟩ := elems_of_trod (Q := fun b o => b < w.heap.size ∧ ∃ c : Cls, ClsAt w b o c) Try.underlying22 cells60 (by decide) (fun n b o cs x hc hl hb ht => ⟨hb, class_of_trod hc hl ht⟩) g1
  obtain ⟨rn, ra, rc, rb, ro, e3, hrn, hra, hrq⟩ := elems_of_trod (Q := fun b o => b < w.heap.size ∧ ∃ ns : List Nat, ns.length ≤ 9223372036854775807 ∧ ∃ (t k : ByteArray) (a : Option Addr) (sb so c : Nat), w.cell? ⟨b, o, none⟩ = some (.string t) ∧ w.cell? ⟨b, o + 1, none⟩ = some (.string k) ∧ w.cell? ⟨b, o + 2, none⟩ = some (.slice a ns.length c) ∧ (ns ≠ [] → a = some ⟨sb, so, none⟩) ∧ LensAt w sb so ns) Try.underlying24 cells62 (by decide) (fun n b o cs x hc hl hb ht => ⟨hb, arity_of_trod hc hl ht⟩) g3
  obtain ⟨cs, hcl, hcs⟩ := choose_list (n := cn) (Q := fun i c => cb < w.heap.size ∧ ClsAt w cb (co + i * 2) c) (fun i hi => by obtain ⟨hb, c, hc⟩ := hcq i hi; exact ⟨c, hb, hc⟩)
  obtain ⟨ars, hal, has⟩ := choose_list (n := rn) (Q := fun i (ns : List Nat) => rb < w.heap.size ∧ ns.length ≤ 9223372036854775807 ∧ ∃ (t k : ByteArray) (a : Option Addr) (sb so c : Nat), w.cell? ⟨rb, ro + i * 3, none⟩ = some (.string t) ∧ w.cell? ⟨rb, ro + i * 3 + 1, none⟩ = some (.string k) ∧ w.cell? ⟨rb, ro + i * 3 + 2, none⟩ = some (.slice a ns.length c) ∧ (ns ≠ [] → a = some ⟨sb, so, none⟩) ∧ LensAt w sb so ns)
    (fun i hi => by obtain ⟨hb, ns, hns⟩ := hrq i hi; exact ⟨ns, hb, hns⟩)
  subst hcl hal
  simp only [List.cons.injEq, and_true] at e0
  subst e0 e1 e2 e3 e4 e5 e6
  exact ⟨nm, ca, ta, ra, oa, ya, qa, cc, tn, tc, rc, on, oc, yn, yc, qn, qc, cb, co, rb, ro, cs, ars, rfl, fun hne => (hca (List.length_pos_iff.2 hne)).1, hcs, hcn, htn, fun hne => (hra (List.length_pos_iff.2 hne)).1, has, hrn⟩
end
end Go.Proofs.Ytlaibimdkamcfaa
