/-
  What a statement on a theory and sorts asks of Normal, Meet, Less and awake, at any later world.
-/
import Derived.Test.YtlaibimdkamcfaaE11
import Derived.Test.YtlaibimdkamcfaaE7
namespace Go.Proofs.Ytlaibimdkamcfaa
open Go.RowKit Go.Maps

/-- A slice of classes at hand. -/
def SortAt (W : World) (a : Option Addr) (x : List ByteArray) : Prop := ∃ b o, (x ≠ [] → a = some ⟨b, o, none⟩) ∧ StrsAt W b o x ∧ x.length ≤ 9223372036854775807

theorem SortAt.later {W W' : World} {a : Option Addr} {x : List ByteArray} (h : SortAt W a x) (hb : Below W.heap.size W W') : SortAt W' a x := by
  obtain ⟨b, o, h1, h2, h3⟩ := h
  exact ⟨b, o, h1, h2.later hb, h3⟩

theorem SortAt.size {W : World} {a : Option Addr} {x : List ByteArray} (h : SortAt W a x) : ∀ z, z ∈ x → z.size ≤ maxLen := by
  obtain ⟨b, o, _, h2, _⟩ := h
  intro z hz
  obtain ⟨i, hi, rfl⟩ := List.getElem_of_mem hz
  exact h2.size i hi

theorem sortAt_own {W : World} {B n : Nat} {v : Value} {l : List ByteArray} (h : W.ownsRow B 9 1 v n (l.map Value.string)) (hs : ∀ x, x ∈ l → x.size ≤ maxLen) (hl : l.length ≤ 9223372036854775807) : ∃ a c, v = .slice a l.length c ∧ SortAt W a l := by
  obtain ⟨a, b, c, e, h1, h2⟩ := own_arg h hs
  exact ⟨a, c, e, b, 0, h1, h2, hl⟩

section
variable (nm : ByteArray) (ca ta ra oa ya qa : Option Addr) (cc tn tc rn rc on oc yn yc qn qc cb co : Nat) (cs : List Cls)

def thyCells : Array Value := #[.string nm, .slice ca cs.length cc, .slice ta tn tc, .slice ra rn rc, .slice oa on oc, .slice ya yn yc, .slice qa qn qc]

/-- A theory at hand: its box, its classes. -/
structure ThyAt (g : Nat) (W : World) : Prop where
  thy : Thy cs cb co g (thyCells nm ca ta ra oa ya qa cc tn tc rn rc on oc yn yc qn qc cs) W
  cla : cs ≠ [] → ca = some ⟨cb, co, none⟩
  len : cs.length ≤ maxLen

variable {nm : ByteArray} {ca ta ra oa ya qa : Option Addr} {cc tn tc rn rc on oc yn yc qn qc cb co : Nat} {cs : List Cls} {g : Nat}

theorem ThyAt.later {W W' : World} (h : ThyAt nm ca ta ra oa ya qa cc tn tc rn rc on oc yn yc qn qc cb co cs g W) (hb : Below W.heap.size W W') : ThyAt nm ca ta ra oa ya qa cc tn tc rn rc on oc yn yc qn qc cb co cs g W' := ⟨h.thy.later hb, h.cla, h.len⟩

theorem ThyAt.cells {W : World} (h : ThyAt nm ca ta ra oa ya qa cc tn tc rn rc on oc yn yc qn qc cb co cs g W) :
    W.cell? ⟨g, 0, none⟩ = some (.string nm) ∧ W.cell? ⟨g, 1, none⟩ = some (.slice ca cs.length cc) ∧ W.cell? ⟨g, 2, none⟩ = some (.slice ta tn tc) ∧ W.cell? ⟨g, 3, none⟩ = some (.slice ra rn rc) ∧ W.cell? ⟨g, 4, none⟩ = some (.slice oa on oc) ∧ W.cell? ⟨g, 5, none⟩ = some (.slice ya yn yc) ∧ W.cell? ⟨g, 6, none⟩ = some (.slice qa qn qc) := thy_cells h.thy.box

theorem normal_uni {W : World} (h : ThyAt nm ca ta ra oa ya qa cc tn tc rn rc on oc yn yc qn qc cb co cs g W) {a : Option Addr} {x : List ByteArray} {c : Nat} (hx : SortAt W a x) :
    Calls Try.prog 20 #[.agg #[.string nm, .slice ca cs.length cc, .slice ta tn tc, .slice ra rn rc, .slice oa on oc, .slice ya yn yc, .slice qa qn qc], .slice a x.length c] W fun e W' =>
      ∃ (b : Option Addr) (r : List ByteArray) (d : Nat) (E : Int), e = .returned (.tuple #[.slice b r.length d, .int .i64 E]) ∧ (E = 0 → normErr cs x = 0 ∧ IsNormalOf ltS (belowB cs) x r ∧ SortAt W' b r) ∧ Below W.heap.size W W' := by
  obtain ⟨xb, xo, h1, h2, h3⟩ := hx
  refine (sortNormal_any nm ca ta ra oa ya qa cc tn tc rn rc on oc yn yc qn qc cb co cs xb xo c a x W h.cla h.thy.cls h.len h1 h2 h3).mono ?_
  rintro e W' ⟨(⟨hE, rfl⟩ | ⟨hE, v, r, rfl, hr, ho⟩), hb⟩
  · exact ⟨none, [], 0, _, rfl, fun e0 => absurd e0 hE, hb⟩
  · have hs : ∀ z, z ∈ r → z.size ≤ maxLen := fun z hz => SortAt.size ⟨xb, xo, h1, h2, h3⟩ z ((hr.mem z).1 hz).1
    obtain ⟨b, d, rfl, hS⟩ := sortAt_own ho hs (Nat.le_trans hr.len h3)
    exact ⟨b, r, d, 0, rfl, fun _ => ⟨hE, hr, hS⟩, hb⟩

theorem meet_uni {W : World} (h : ThyAt nm ca ta ra oa ya qa cc tn tc rn rc on oc yn yc qn qc cb co cs g W) {a a' : Option Addr} {x y : List ByteArray} {c c' : Nat} (hx : SortAt W a x) (hy : SortAt W a' y) :
    Calls Try.prog 22 #[.agg #[.string nm, .slice ca cs.length cc, .slice ta tn tc, .slice ra rn rc, .slice oa on oc, .slice ya yn yc, .slice qa qn qc], .slice a x.length c, .slice a' y.length c'] W fun e W' =>
      ∃ (b : Option Addr) (r : List ByteArray) (d : Nat) (E : Int), e = .returned (.tuple #[.slice b r.length d, .int .i64 E]) ∧ (E = 0 → ∃ p q, IsNormalOf ltS (belowB cs) x p ∧ IsNormalOf ltS (belowB cs) y q ∧ IsNormalOf ltS (belowB cs) (p ++ q) r ∧ SortAt W' b r) ∧ Below W.heap.size W W' := by
  obtain ⟨xb, xo, h1, h2, h3⟩ := hx
  obtain ⟨yb, yo, k1, k2, k3⟩ := hy
  refine (sortMeet_any nm ca ta ra oa ya qa cc tn tc rn rc on oc yn yc qn qc cb co cs xb xo c yb yo c' a a' x y W h.cla h.thy.cls h.len h1 h2 h3 k1 k2 k3).mono ?_
  rintro e W' ⟨(⟨hE, rfl⟩ | ⟨hO, (⟨hE, rfl⟩ | ⟨_, hE, rfl⟩ | ⟨_, _, p, q, r, hp, hq, hr, (⟨_, rfl⟩ | ⟨hl, v, rfl, ho⟩)⟩)⟩), hb⟩
  · exact ⟨none, [], 0, _, rfl, fun e0 => absurd e0 hE, hb⟩
  · exact ⟨none, [], 0, _, rfl, fun e0 => absurd e0 hE, hb⟩
  · exact ⟨none, [], 0, _, rfl, fun e0 => absurd e0 hE, hb⟩
  · exact ⟨none, [], 0, _, rfl, fun e0 => absurd e0 (by decide), hb⟩
  · have hs : ∀ z, z ∈ r → z.size ≤ maxLen := fun z hz => by
      rcases List.mem_append.1 ((hr.mem z).1 hz).1 with hz | hz
      · exact SortAt.size ⟨xb, xo, h1, h2, h3⟩ z ((hp.mem z).1 hz).1
      · exact SortAt.size ⟨yb, yo, k1, k2, k3⟩ z ((hq.mem z).1 hz).1
    obtain ⟨b, d, rfl, hS⟩ := sortAt_own ho hs (by omega)
    exact ⟨b, r, d, 0, rfl, fun _ => ⟨p, q, hp, hq, hr, hS⟩, hb⟩

theorem less_uni {W0 : World} (h : ThyAt nm ca ta ra oa ya qa cc tn tc rn rc on oc yn yc qn qc cb co cs g W0) (hO : openErr cs = 0) (W : World) {a a' : Option Addr} {x y : List ByteArray} {c c' : Nat} (hx : Hid (SortAt W0 a x)) (hy : Hid (SortAt W0 a' y)) (hb : Hid (Below W0.heap.size W0 W)) :
    Calls Try.prog 16 #[.agg #[.string nm, .slice ca cs.length cc, .slice ta tn tc, .slice ra rn rc, .slice oa on oc, .slice ya yn yc, .slice qa qn qc], .slice a x.length c, .slice a' y.length c'] W fun e W' =>
      ∃ L, e = .returned (.bool L) ∧ Hid (lessB (knownB cs) (belowB cs) x y = L) ∧ Hid (Below W0.heap.size W0 W') ∧ W'.cell? ⟨g, 0, none⟩ = some (.string nm) ∧ W'.cell? ⟨g, 1, none⟩ = some (.slice ca cs.length cc) ∧ W'.cell? ⟨g, 2, none⟩ = some (.slice ta tn tc) ∧ W'.cell? ⟨g, 3, none⟩ = some (.slice ra rn rc) ∧ W'.cell? ⟨g, 4, none⟩ = some (.slice oa on oc) ∧ W'.cell? ⟨g, 5, none⟩ = some (.slice ya yn yc) ∧ W'.cell? ⟨g, 6, none⟩ = some (.slice qa qn qc) := by
  obtain ⟨xb, xo, h1, h2, h3⟩ := hx.out.later hb.out
  obtain ⟨yb, yo, k1, k2, k3⟩ := hy.out.later hb.out
  have hT := h.later hb.out
  refine (sortLess_any nm ca ta ra oa ya qa cc tn tc rn rc on oc yn yc qn qc cb co cs xb xo c yb yo c' a a' x y W hT.cla hT.thy.cls hT.len h1 h2 (by unfold maxLen; omega) k1 k2 (by unfold maxLen; omega) hO).mono ?_
  rintro e W' ⟨rfl, hb'⟩
  exact ⟨_, rfl, Lib.hid rfl, Lib.hid (hb.out.trans (hb'.mono hb.out.size)), (hT.later hb').cells⟩

theorem awake_uni {W0 : World} (h : ThyAt nm ca ta ra oa ya qa cc tn tc rn rc on oc yn yc qn qc cb co cs g W0) (W : World) (hb : Hid (Below W0.heap.size W0 W)) :
    Calls Try.prog 11 #[] W fun e W' => e = .returned (.bool true) ∧ Hid (Below W0.heap.size W0 W') ∧ W'.cell? ⟨g, 0, none⟩ = some (.string nm) ∧ W'.cell? ⟨g, 1, none⟩ = some (.slice ca cs.length cc) ∧ W'.cell? ⟨g, 2, none⟩ = some (.slice ta tn tc) ∧ W'.cell? ⟨g, 3, none⟩ = some (.slice ra rn rc) ∧ W'.cell? ⟨g, 4, none⟩ = some (.slice oa on oc) ∧ W'.cell? ⟨g, 5, none⟩ = some (.slice ya yn yc) ∧ W'.cell? ⟨g, 6, none⟩ = some (.slice qa qn qc) := by
  have hT := h.later hb.out
  refine (awake_any W).mono ?_
  rintro e W' ⟨rfl, hb'⟩
  exact ⟨rfl, Lib.hid (hb.out.trans (hb'.mono hb.out.size)), (hT.later hb').cells⟩
end

theorem short_three {n m k : Nat} : shortB [n, m, k] = true ↔ n ≤ 25 ∧ m ≤ 25 ∧ k ≤ 25 := by
  unfold shortB
  simp [List.any_cons]
end Go.Proofs.Ytlaibimdkamcfaa
