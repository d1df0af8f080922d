import Derived.Test.YtlaibimdkamcfaaF9
import Derived.Test.YtlaibimdkamcfaaK4
import Derived.Test.YtlaibimdkamcfaaE8
import Derived.Test.YtlaibimdkamcfaaG1
import Derived.Test.YtlaibimdkamcfaaLeast
import Derived.Test.YtlaibimdkamcfaaK13
section
/-
  SortNormals: the statement's own walk.
-/
namespace Go.Proofs.Ytlaibimdkamcfaa
open Go.RowKit Go.Maps

/-- What Normal answers. -/
def NormIs (cs : List Cls) (x : List ByteArray) (E : Int) (r : List ByteArray) : Prop := E = normErr cs x ∧ ((E ≠ 0 ∧ r = []) ∨ (E = 0 ∧ IsNormalOf ltS (belowB cs) x r))

theorem isNormal_one {cs : List Cls} {x r r' : List ByteArray} (h : IsNormalOf ltS (belowB cs) x r) (h' : IsNormalOf ltS (belowB cs) x r') : r = r' := h.unique ltS_irr ltS_trans h' fun _ => Iff.rfl

theorem NormIs.unique {cs : List Cls} {x r r' : List ByteArray} {E E' : Int} (h : NormIs cs x E r) (h' : NormIs cs x E' r') : E = E' ∧ r = r' := by
  obtain ⟨rfl, h⟩ := h
  obtain ⟨rfl, h'⟩ := h'
  refine ⟨rfl, ?_⟩
  rcases h with ⟨h0, rfl⟩ | ⟨h0, h⟩ <;> rcases h' with ⟨h0', rfl⟩ | ⟨h0', h'⟩
  · rfl
  · exact absurd h0' h0
  · exact absurd h0 h0'
  · exact isNormal_one h h'

/-- What Meet answers. -/
def MeetIs (cs : List Cls) (x y : List ByteArray) (E : Int) (r : List ByteArray) : Prop :=
  (normErr cs x ≠ 0 ∧ E = normErr cs x ∧ r = []) ∨ (normErr cs x = 0 ∧ normErr cs y ≠ 0 ∧ E = normErr cs y ∧ r = []) ∨
  (normErr cs x = 0 ∧ normErr cs y = 0 ∧ ∃ N, IsNormalOf ltS (belowB cs) (x ++ y) N ∧ ((20 < N.length ∧ E = 5 ∧ r = []) ∨ (N.length ≤ 20 ∧ E = 0 ∧ r = N)))

theorem MeetIs.unique {cs : List Cls} {x y r r' : List ByteArray} {E E' : Int} (h : MeetIs cs x y E r) (h' : MeetIs cs x y E' r') : E = E' ∧ r = r' := by
  rcases h with ⟨a, rfl, rfl⟩ | ⟨a, b, rfl, rfl⟩ | ⟨a, b, N, hN, h⟩
  · rcases h' with ⟨a', rfl, rfl⟩ | ⟨a', b', rfl, rfl⟩ | ⟨a', b', N', hN', h'⟩
    · exact ⟨rfl, rfl⟩
    · exact absurd a' a
    · exact absurd a' a
  · rcases h' with ⟨a', rfl, rfl⟩ | ⟨a', b', rfl, rfl⟩ | ⟨a', b', N', hN', h'⟩
    · exact absurd a a'
    · exact ⟨rfl, rfl⟩
    · exact absurd b' b
  · rcases h' with ⟨a', rfl, rfl⟩ | ⟨a', b', rfl, rfl⟩ | ⟨a', b', N', hN', h'⟩
    · exact absurd a a'
    · exact absurd b b'
    · have e := isNormal_one hN hN'
      subst e
      rcases h with ⟨c, rfl, rfl⟩ | ⟨c, rfl, rfl⟩ <;> rcases h' with ⟨c', rfl, rfl⟩ | ⟨c', rfl, rfl⟩
      · exact ⟨rfl, rfl⟩
      · omega
      · omega
      · exact ⟨rfl, rfl⟩

theorem sortAt_nil (W : World) (a : Option Addr) : SortAt W a [] := ⟨0, 0, fun h => absurd rfl h, ⟨fun h => absurd rfl h, fun i hi => absurd hi (by simp), fun i hi => absurd hi (by simp)⟩, by simp⟩

section
variable {nm : ByteArray} {ca ta ra oa ya qa : Option Addr} {cc tn tc rn rc on oc yn yc qn qc cb co : Nat} {cs : List Cls} {g : Nat} {W : World}

theorem normal_full (h : ThyAt nm ca ta ra oa ya qa cc tn tc rn rc on oc yn yc qn qc cb co cs g W) {a : Option Addr} {x : List ByteArray} {c : Nat} (hx : SortAt W a x) :
    Calls Try.prog 20 #[.agg #[.string nm, .slice ca cs.length cc, .slice ta tn tc, .slice ra rn rc, .slice oa on oc, .slice ya yn yc, .slice qa qn qc], .slice a x.length c] W fun e W' =>
      ∃ (b : Option Addr) (r : List ByteArray) (d : Nat) (E : Int), e = .returned (.tuple #[.slice b r.length d, .int .i64 E]) ∧ NormIs cs x E r ∧ SortAt W' b r ∧ Below W.heap.size W W' := by
  obtain ⟨xb, xo, h1, h2, h3⟩ := hx
  refine (sortNormal_any nm ca ta ra oa ya qa cc tn tc rn rc on oc yn yc qn qc cb co cs xb xo c a x W h.cla h.thy.cls h.len h1 h2 h3).mono ?_
  rintro e W' ⟨(⟨hE, rfl⟩ | ⟨hE, v, r, rfl, hr, ho⟩), hb⟩
  · exact ⟨none, [], 0, _, rfl, ⟨rfl, .inl ⟨hE, rfl⟩⟩, sortAt_nil _ _, hb⟩
  · have hs : ∀ z, z ∈ r → z.size ≤ maxLen := fun z hz => SortAt.size ⟨xb, xo, h1, h2, h3⟩ z ((hr.mem z).1 hz).1
    obtain ⟨b, d, rfl, hS⟩ := sortAt_own ho hs (Nat.le_trans hr.len h3)
    exact ⟨b, r, d, 0, rfl, ⟨hE.symm, .inr ⟨rfl, hr⟩⟩, hS, hb⟩

theorem refNormal_full (h : ThyAt nm ca ta ra oa ya qa cc tn tc rn rc on oc yn yc qn qc cb co cs g W) {a : Option Addr} {x : List ByteArray} {c : Nat} (hx : SortAt W a x) :
    Calls Try.prog 21 #[.agg #[.string nm, .slice ca cs.length cc, .slice ta tn tc, .slice ra rn rc, .slice oa on oc, .slice ya yn yc, .slice qa qn qc], .slice a x.length c] W fun e W' =>
      ∃ (b : Option Addr) (r : List ByteArray) (d : Nat) (E : Int), e = .returned (.tuple #[.slice b r.length d, .int .i64 E]) ∧ NormIs cs x E r ∧ SortAt W' b r ∧ Below W.heap.size W W' := by
  have h3 : x.length ≤ 9223372036854775807 := hx.choose_spec.choose_spec.2.2
  refine (refNormal_any (xc := c) W h.cla h.thy.cls h.len hx).mono ?_
  rintro e W' ⟨(⟨hE, rfl⟩ | ⟨hE, v, r, rfl, hr, ho⟩), hb⟩
  · exact ⟨none, [], 0, _, rfl, ⟨rfl, .inl ⟨hE, rfl⟩⟩, sortAt_nil _ _, hb⟩
  · have hs : ∀ z, z ∈ r → z.size ≤ maxLen := fun z hz => hx.size z ((hr.mem z).1 hz).1
    obtain ⟨b, d, rfl, hS⟩ := sortAt_own ho hs (Nat.le_trans hr.len h3)
    exact ⟨b, r, d, 0, rfl, ⟨hE.symm, .inr ⟨rfl, hr⟩⟩, hS, hb⟩

theorem meet_full (h : ThyAt nm ca ta ra oa ya qa cc tn tc rn rc on oc yn yc qn qc cb co cs g W) {a a' : Option Addr} {x y : List ByteArray} {c c' : Nat} (hx : SortAt W a x) (hy : SortAt W a' y) :
    Calls Try.prog 22 #[.agg #[.string nm, .slice ca cs.length cc, .slice ta tn tc, .slice ra rn rc, .slice oa on oc, .slice ya yn yc, .slice qa qn qc], .slice a x.length c, .slice a' y.length c'] W fun e W' =>
      ∃ (b : Option Addr) (r : List ByteArray) (d : Nat) (E : Int), e = .returned (.tuple #[.slice b r.length d, .int .i64 E]) ∧ MeetIs cs x y E r ∧ SortAt W' b r ∧ Below W.heap.size W W' := by
  obtain ⟨xb, xo, h1, h2, h3⟩ := hx
  obtain ⟨yb, yo, k1, k2, k3⟩ := hy
  refine (sortMeet_any nm ca ta ra oa ya qa cc tn tc rn rc on oc yn yc qn qc cb co cs xb xo c yb yo c' a a' x y W h.cla h.thy.cls h.len h1 h2 h3 k1 k2 k3).mono ?_
  have one : openErr cs = 0 → ∀ z, normErr cs z = sortErr (knownB cs) z := fun hO z => by unfold normErr; rw [if_pos hO]
  rintro e W' ⟨(⟨hE, rfl⟩ | ⟨hO, (⟨hE, rfl⟩ | ⟨hx0, hE, rfl⟩ | ⟨hx0, hy0, p, q, r, hp, hq, hr, hres⟩)⟩), hb⟩
  · have hn : normErr cs x = openErr cs := by unfold normErr; rw [if_neg hE]
    exact ⟨none, [], 0, _, rfl, .inl ⟨by rw [hn]; exact hE, hn.symm, rfl⟩, sortAt_nil _ _, hb⟩
  · exact ⟨none, [], 0, _, rfl, .inl ⟨by rw [one hO]; exact hE, (one hO x).symm, rfl⟩, sortAt_nil _ _, hb⟩
  · exact ⟨none, [], 0, _, rfl, .inr (.inl ⟨by rw [one hO]; exact hx0, by rw [one hO]; exact hE, (one hO y).symm, rfl⟩), sortAt_nil _ _, hb⟩
  · have hxk := (sortErr_zero hx0).2
    have hyk := (sortErr_zero hy0).2
    have hN : IsNormalOf ltS (belowB cs) (x ++ y) r := by
      refine ⟨hr.asc, fun z => (hr.mem z).trans (least_meet (classes_ord hO) hp hq hxk hyk z), ?_⟩
      have := hr.len
      have := hp.len
      have := hq.len
      rw [List.length_append] at *
      omega
    have nx : normErr cs x = 0 := by rw [one hO]; exact hx0
    have ny : normErr cs y = 0 := by rw [one hO]; exact hy0
    rcases hres with ⟨hl, rfl⟩ | ⟨hl, v, rfl, ho⟩
    · exact ⟨none, [], 0, 5, rfl, .inr (.inr ⟨nx, ny, r, hN, .inl ⟨hl, rfl, rfl⟩⟩), sortAt_nil _ _, hb⟩
    · have hs : ∀ z, z ∈ r → z.size ≤ maxLen := fun z hz => by
        rcases List.mem_append.1 ((hN.mem z).1 hz).1 with hz | hz
        · exact SortAt.size ⟨xb, xo, h1, h2, h3⟩ z hz
        · exact SortAt.size ⟨yb, yo, k1, k2, k3⟩ z hz
      obtain ⟨b, d, rfl, hS⟩ := sortAt_own ho hs (by omega)
      exact ⟨b, r, d, 0, rfl, .inr (.inr ⟨nx, ny, r, hN, .inr ⟨hl, rfl, rfl⟩⟩), hS, hb⟩

theorem refMeet_full (h : ThyAt nm ca ta ra oa ya qa cc tn tc rn rc on oc yn yc qn qc cb co cs g W) {a a' : Option Addr} {x y : List ByteArray} {c c' : Nat} (hx : SortAt W a x) (hy : SortAt W a' y) :
    Calls Try.prog 23 #[.agg #[.string nm, .slice ca cs.length cc, .slice ta tn tc, .slice ra rn rc, .slice oa on oc, .slice ya yn yc, .slice qa qn qc], .slice a x.length c, .slice a' y.length c'] W fun e W' =>
      ∃ (b : Option Addr) (r : List ByteArray) (d : Nat) (E : Int), e = .returned (.tuple #[.slice b r.length d, .int .i64 E]) ∧ MeetIs cs x y E r ∧ SortAt W' b r ∧ Below W.heap.size W W' := by
  refine (refMeet_any (xc := c) (zc := c') W h.cla h.thy.cls h.len hx hy).mono ?_
  rintro e W' ⟨(⟨hE, rfl⟩ | ⟨hE, r, hN, hres⟩), hb⟩
  · rw [sortsErr_pair] at hE
    by_cases hx0 : normErr cs x = 0
    · rw [if_neg (by simpa using hx0)] at hE
      exact ⟨none, [], 0, _, rfl, .inr (.inl ⟨hx0, hE, by rw [sortsErr_pair, if_neg (by simpa using hx0)], rfl⟩), sortAt_nil _ _, hb⟩
    · exact ⟨none, [], 0, _, rfl, .inl ⟨hx0, by rw [sortsErr_pair, if_pos hx0], rfl⟩, sortAt_nil _ _, hb⟩
  · rw [sortsErr_pair] at hE
    by_cases hx0 : normErr cs x = 0
    · rw [if_neg (by simpa using hx0)] at hE
      rcases hres with ⟨hl, rfl⟩ | ⟨hl, v, rfl, ho⟩
      · exact ⟨none, [], 0, 5, rfl, .inr (.inr ⟨hx0, hE, r, hN, .inl ⟨hl, rfl, rfl⟩⟩), sortAt_nil _ _, hb⟩
      · have hs : ∀ z, z ∈ r → z.size ≤ maxLen := fun z hz => by
          rcases List.mem_append.1 ((hN.mem z).1 hz).1 with hz | hz
          · exact hx.size z hz
          · exact hy.size z hz
        obtain ⟨b, d, rfl, hS⟩ := sortAt_own ho hs (by omega)
        exact ⟨b, r, d, 0, rfl, .inr (.inr ⟨hx0, hE, r, hN, .inr ⟨hl, rfl, rfl⟩⟩), hS, hb⟩
    · rw [if_pos hx0] at hE
      exact absurd hE hx0
end

theorem equal_full {W : World} {a a' : Option Addr} {x : List ByteArray} {c c' : Nat} (hx : SortAt W a x) (hy : SortAt W a' x) :
    Calls Try.prog 24 #[.slice a x.length c, .slice a' x.length c'] W fun e w' => e = .returned (.bool true) ∧ Below W.heap.size W w' := by
  obtain ⟨xb, xo, h1, h2, h3⟩ := hx
  obtain ⟨yb, yo, k1, k2, k3⟩ := hy
  refine (equal_any xb xo c yb yo c' a a' x x W h1 h2 h3 k1 k2 k3).mono ?_
  rintro e w' ⟨rfl, hb⟩
  exact ⟨by rw [decide_eq_true rfl], hb⟩

set_option maxRecDepth 100000 in
set_option maxHeartbeats 4000000 in
theorem sortNormals_walk (nm : ByteArray) (ca ta ra oa ya qa : Option Addr) (cc tn tc rc on oc yn yc qn qc cb co rb ro : Nat) (cs : List Cls) (ars : List (List Nat)) (xc zc : Nat) (xa za : Option Addr) (x y : List ByteArray) (w : World)
    (hca : cs ≠ [] → ca = some ⟨cb, co, none⟩) (hcs : ClassesAt w cb co cs) (hcl : cs.length ≤ 9223372036854775807) (htn : tn ≤ 9223372036854775807) (hra : ars ≠ [] → ra = some ⟨rb, ro, none⟩) (has : AritiesAt w rb ro ars) (hal : ars.length ≤ 9223372036854775807)
    (hx : SortAt w xa x) (hy : SortAt w za y) :
    Calls Try.prog 4 #[.agg #[.string nm, .slice ca cs.length cc, .slice ta tn tc, .slice ra ars.length rc, .slice oa on oc, .slice ya yn yc, .slice qa qn qc], .slice xa x.length xc, .slice za y.length zc] w fun e w' => e = .returned (.bool true) ∧ Below w.heap.size w w' := by
  have hclm : cs.length ≤ maxLen := by unfold maxLen; omega
  have hb0 : Below w.heap.size w (w.alloc (.cells #[.string nm, .slice ca cs.length cc, .slice ta tn tc, .slice ra ars.length rc, .slice oa on oc, .slice ya yn yc, .slice qa qn qc] 29)) := (Below.refl _ w).alloc (Nat.le_refl _) _
  have HTH := Lib.hid (ThyAt.mk (Thy.mk (heap_alloc_new w (.cells #[.string nm, .slice ca cs.length cc, .slice ta tn tc, .slice ra ars.length rc, .slice oa on oc, .slice ya yn yc, .slice qa qn qc] 29)) (hcs.later hb0)) hca hclm : ThyAt nm ca ta ra oa ya qa cc tn tc ars.length rc on oc yn yc qn qc cb co cs w.heap.size _)
  have HFEW := Lib.hid (few_any nm ca ta ra oa ya qa cc tn tc rc on oc yn yc qn qc cb co rb ro cs ars _ hca (hcs.later hb0) hcl htn hra (has.later hb0) hal)
  have HX := Lib.hid (hx.later hb0)
  have HY := Lib.hid (hy.later hb0)
  have hlx : x.length ≤ 9223372036854775807 := hx.choose_spec.choose_spec.2.2
  have hly : y.length ≤ 9223372036854775807 := hy.choose_spec.choose_spec.2.2
  have HB0 := Lib.hid hb0
  clear hb0 hca hcs hra has hx hy
  go_enter Try.func4, Try.ntmps4
  go_wp2_with fail
  generalize (w.alloc (.cells #[.string nm, .slice ca cs.length cc, .slice ta tn tc, .slice ra ars.length rc, .slice oa on oc, .slice ya yn yc, .slice qa qn qc] 29)) = w1 at *
  refine HFEW.out.mono ?_
  rintro e w2 ⟨f, rfl, hb2⟩
  have HTH2 := Lib.hid (HTH.out.later hb2)
  have HX2 := Lib.hid (HX.out.later hb2)
  have HY2 := Lib.hid (HY.out.later hb2)
  have HB2 := Lib.hid (HB0.out.trans (hb2.mono HB0.out.size))
  clear hb2 HFEW HTH HX HY
  cases f with
  | false =>
    go_wp2_with (go_at_call 11; refine (awake_any _).mono ?_; rintro e w' ⟨rfl, hb⟩; have HAW := Lib.hid (HB2.out.trans (hb.mono HB2.out.size)); clear hb)
    go_ret
    exact ⟨rfl, HAW.out⟩
  | true =>
    go_wp2_with fail
    have b3 : Below w2.heap.size w2 (w2.alloc (.cells #[.slice xa x.length xc, .slice za y.length zc] 27)) := (Below.refl _ _).alloc (Nat.le_refl _) _
    have n3 := heap_alloc_new w2 (.cells #[.slice xa x.length xc, .slice za y.length zc] 27)
    have z3 : (w2.alloc (.cells #[.slice xa x.length xc, .slice za y.length zc] 27)).heap.size = w2.heap.size + 1 := by simp
    have HTH3 := Lib.hid (HTH2.out.later b3)
    have HX3 := Lib.hid (HX2.out.later b3)
    have HY3 := Lib.hid (HY2.out.later b3)
    have HB3 := Lib.hid (HB2.out.trans (b3.mono HB2.out.size))
    generalize (w2.alloc (.cells #[.slice xa x.length xc, .slice za y.length zc] 27)) = w3 at *
    refine (fewSorts_any w2.heap.size 0 2 (some ⟨w2.heap.size, 0, none⟩) [x.length, y.length] w3 (fun _ => rfl) (fun i hi => ?_) (show (2 : Nat) ≤ 9223372036854775807 by decide)).mono ?_
    · refine ⟨by omega, ?_⟩
      rw [Lib.cell_of_heap n3, Nat.zero_add]
      match i, hi with
      | 0, _ => exact ⟨hlx, xa, xc, rfl⟩
      | 1, _ => exact ⟨hly, za, zc, rfl⟩
    rintro e w' ⟨rfl, rfl⟩
    cases hsh : shortB [x.length, y.length] with
    | false =>
      clear hsh b3 n3 z3
      go_wp2_with (go_at_call 11; refine (awake_any _).mono ?_; rintro e w' ⟨rfl, hb⟩; have HAW := Lib.hid (HB3.out.trans (hb.mono HB3.out.size)); clear hb)
      go_ret
      exact ⟨rfl, HAW.out⟩
    | true =>
      obtain ⟨g0, g1, g2, g3, g4, g5, g6⟩ := HTH3.out.cells
      clear hsh b3 n3 z3 HTH2 HB2 HX2 HY2
      go_wp2_with fail
      refine (normal_full HTH3.out HX3.out).mono ?_
      rintro e w4 ⟨a1, r1, c1, E1, rfl, h1, s1, hb⟩
      have HN1 := Lib.hid h1
      have HR1 := Lib.hid s1
      have HTH4 := Lib.hid (HTH3.out.later hb)
      have HX4 := Lib.hid (HX3.out.later hb)
      have HY4 := Lib.hid (HY3.out.later hb)
      have HB4 := Lib.hid (HB3.out.trans (hb.mono HB3.out.size))
      clear h1 s1 hb g0 g1 g2 g3 g4 g5 g6 HTH3 HX3 HY3 HB3
      obtain ⟨g0, g1, g2, g3, g4, g5, g6⟩ := HTH4.out.cells
      go_wp2_with fail
      refine (refNormal_full HTH4.out HX4.out).mono ?_
      rintro e w5 ⟨a2, r2, c2, E2, rfl, h1, s1, hb⟩
      obtain ⟨rfl, rfl⟩ := HN1.out.unique h1
      have HR15 := Lib.hid (HR1.out.later hb)
      have HR2 := Lib.hid s1
      have HTH5 := Lib.hid (HTH4.out.later hb)
      have HX5 := Lib.hid (HX4.out.later hb)
      have HY5 := Lib.hid (HY4.out.later hb)
      have HB5 := Lib.hid (HB4.out.trans (hb.mono HB4.out.size))
      clear h1 s1 hb g0 g1 g2 g3 g4 g5 g6 HTH4 HX4 HY4 HB4
      obtain ⟨g0, g1, g2, g3, g4, g5, g6⟩ := HTH5.out.cells
      go_wp2_with fail
      refine (meet_full HTH5.out HX5.out HY5.out).mono ?_
      rintro e w6 ⟨a3, r3, c3, E3, rfl, h1, s1, hb⟩
      have HN3 := Lib.hid h1
      have HR16 := Lib.hid (HR15.out.later hb)
      have HR26 := Lib.hid (HR2.out.later hb)
      have HR3 := Lib.hid s1
      have HTH6 := Lib.hid (HTH5.out.later hb)
      have HX6 := Lib.hid (HX5.out.later hb)
      have HY6 := Lib.hid (HY5.out.later hb)
      have HB6 := Lib.hid (HB5.out.trans (hb.mono HB5.out.size))
      clear h1 s1 hb g0 g1 g2 g3 g4 g5 g6 HTH5 HX5 HY5 HB5
      obtain ⟨g0, g1, g2, g3, g4, g5, g6⟩ := HTH6.out.cells
      go_wp2_with fail
      refine (refMeet_full HTH6.out HX6.out HY6.out).mono ?_
      rintro e w7 ⟨a4, r4, c4, E4, rfl, h1, s1, hb⟩
      obtain ⟨rfl, rfl⟩ := HN3.out.unique h1
      have HR17 := Lib.hid (HR16.out.later hb)
      have HR27 := Lib.hid (HR26.out.later hb)
      have HR37 := Lib.hid (HR3.out.later hb)
      have HR4 := Lib.hid s1
      have HB7 := Lib.hid (HB6.out.trans (hb.mono HB6.out.size))
      clear h1 s1 hb g0 g1 g2 g3 g4 g5 g6 HTH6 HX6 HY6 HB6
      go_wp2_with (first
        | (go_at_call 24; refine (equal_full HR38.out HR48.out).mono ?_; rintro e w9 ⟨rfl, hb9⟩; have HB9 := Lib.hid (HB8.out.trans (hb9.mono HB8.out.size)); clear hb9)
        | (go_at_call 24; refine (equal_full HR17.out HR27.out).mono ?_; rintro e w8 ⟨rfl, hb8⟩; have HB8 := Lib.hid (HB7.out.trans (hb8.mono HB7.out.size)); have HR38 := Lib.hid (HR37.out.later hb8); have HR48 := Lib.hid (HR4.out.later hb8); clear hb8)
        | (go_at_call 11; refine (awake_any _).mono ?_; rintro e w10 ⟨rfl, hb10⟩; have HB10 := Lib.hid (HB9.out.trans (hb10.mono HB9.out.size)); clear hb10))
      go_ret
      exact ⟨rfl, HB10.out⟩
end Go.Proofs.Ytlaibimdkamcfaa
end

section
/-
  Args of a theory.
-/
namespace Go.Proofs.Ytlaibimdkamcfaa
open Go.RowKit Go.Maps Go.WideMaps

theorem ArgsOut.form {cs : List Cls} {ts : List TD} {l : List Ari} {name : ByteArray} {s : List ByteArray} {B : Nat} {e : Ending} {w' : World} (h : ArgsOut cs ts l name s B e w') : ∃ (a : Option Addr) (n c : Nat) (E : Int), e = .returned (.tuple #[.slice a n c, .int .i64 E]) := by
  rcases h with ⟨_, h⟩ | ⟨_, _, h⟩ | ⟨_, _, _, h⟩ | ⟨_, _, _, R, U, vals, _, _, _, (⟨_, h⟩ | ⟨_, h⟩)⟩ <;> exact ⟨_, _, _, _, h⟩

theorem ArgsOut.mono' {cs : List Cls} {ts : List TD} {l : List Ari} {name : ByteArray} {s : List ByteArray} {B B' : Nat} {e : Ending} {w' : World} (h : ArgsOut cs ts l name s B e w') (hb : B' ≤ B) : ArgsOut cs ts l name s B' e w' := by
  rcases h with h | h | h | ⟨h1, h2, h3, R, U, vals, h4, h5⟩
  · exact .inl h
  · exact .inr (.inl h)
  · exact .inr (.inr (.inl h))
  · exact .inr (.inr (.inr ⟨h1, h2, h3, R, U, vals, h4.mono' hb, h5⟩))

set_option maxRecDepth 100000 in
set_option maxHeartbeats 8000000 in
theorem sortArgs_any {nm : ByteArray} {ca ta ra oa ya qa : Option Addr} {cc tc rc on oc yn yc qn qc cb co tb to rb ro : Nat} {cs : List Cls} {ts : List TD} {l : List Ari} {g : Nat} {W0 : World} (h : ThyF nm ca ta ra oa ya qa cc tc rc on oc yn yc qn qc cb co tb to rb ro cs ts l g W0) (name : ByteArray) (sa : Option Addr) (s : List ByteArray) (sc : Nat) (w : World) (hb : Below W0.heap.size W0 w)
    (hz : name.size ≤ maxLen) (hs : SortAt w sa s) :
    Calls Try.prog 26 #[.agg #[.string nm, .slice ca cs.length cc, .slice ta ts.length tc, .slice ra l.length rc, .slice oa on oc, .slice ya yn yc, .slice qa qn qc], .string name, .slice sa s.length sc] w fun e w' => Below w.heap.size w w' ∧
      ((checkErr cs ts l ≠ 0 ∧ e = .returned (.tuple #[.slice none 0 0, .int .i64 (checkErr cs ts l)])) ∨ (checkErr cs ts l = 0 ∧ ArgsOut cs ts l name s w.heap.size e w')) := by
  have hl : s.length ≤ 9223372036854775807 := hs.choose_spec.choose_spec.2.2
  have b0 : Below w.heap.size w (w.alloc (.cells #[.string nm, .slice ca cs.length cc, .slice ta ts.length tc, .slice ra l.length rc, .slice oa on oc, .slice ya yn yc, .slice qa qn qc] 29)) := (Below.refl _ w).alloc (Nat.le_refl _) _
  have n0 := heap_alloc_new w (.cells #[.string nm, .slice ca cs.length cc, .slice ta ts.length tc, .slice ra l.length rc, .slice oa on oc, .slice ya yn yc, .slice qa qn qc] 29)
  have HB0 := Lib.hid b0
  have HOP := Lib.hid (openFull_any h (w.alloc (.cells #[.string nm, .slice ca cs.length cc, .slice ta ts.length tc, .slice ra l.length rc, .slice oa on oc, .slice ya yn yc, .slice qa qn qc] 29)) (hb.trans (b0.mono hb.size)))
  have HX := Lib.hid (hs.later b0)
  obtain ⟨g0, g1, g2, g3, g4, g5, g6⟩ := ((h.later hb).boxed b0 n0).at_.cells
  clear h b0 n0 hb hs
  obtain ⟨R, hR⟩ : ∃ R, checkErr cs ts l = R := ⟨_, rfl⟩
  rw [hR] at HOP ⊢
  clear hR
  go_enter Try.func26, Try.ntmps26
  go_wp2_with fail
  generalize (w.alloc (.cells #[.string nm, .slice ca cs.length cc, .slice ta ts.length tc, .slice ra l.length rc, .slice oa on oc, .slice ya yn yc, .slice qa qn qc] 29)) = w1 at *
  refine HOP.out.mono ?_
  rintro e w2 ⟨(⟨hE, rfl⟩ | ⟨rfl, v, rfl, hF⟩), hb2⟩
  · have q1 : (R == 0) = false := by simpa using hE
    have q2 : (R != 0) = true := by simpa using hE
    have HNE := Lib.hid hE
    have HB3 := Lib.hid ((HB0.out.trans (hb2.mono HB0.out.size)).trans (((Below.refl w2.heap.size w2).alloc (Nat.le_refl _) (.cells #[.slice none 0 0, .map none, .slice none 0 0, .slice none 0 0, .slice none 0 0, .map none, .map none] 70)).mono (Nat.le_trans HB0.out.size hb2.size)))
    clear g0 g1 g2 g3 g4 g5 g6 hb2 hE
    go_wp2_with fail
    go_ret2
    exact ⟨HB3.out, .inl ⟨HNE.out, rfl⟩⟩
  · obtain ⟨hO, hT, hA, hRg, A, na, ua, aa, t4, nc, uc, bc, t4c, mb, ab, G, B0, n, mt, nt, ms, np, D, Dt, Dp, us, ws, rfl, hB0, hOC, hn, hat, haa, hm, hab, hkn, hbe, _, htk, hpl, _⟩ := hF
    rw [← hn]
    have b3 : Below w2.heap.size w2 (w2.alloc (.cells #[.slice na A.n nc, .map (some mb), .slice ua A.n uc, .slice aa A.n bc, .slice t4 ts.length t4c, .map (some mt), .map (some ms)] 70)) := (Below.refl _ _).alloc (Nat.le_refl _) _
    have HB3 := Lib.hid ((HB0.out.trans (hb2.mono HB0.out.size)).trans (b3.mono (Nat.le_trans HB0.out.size hb2.size)))
    have HAR := Lib.hid (args_any A na ua aa t4 sa A.n nc A.n uc bc ts.length t4c mb n ab mt nt ms np sc D Dt Dp cs ts l name s _ (hat.below b3 hm hab) haa (Nat.lt_of_lt_of_le hm b3.size) (Nat.lt_of_lt_of_le hab b3.size) hkn hbe (htk.below b3) (hpl.below b3) hO hT hA hRg hz ((HX.out.later hb2).later b3) hl)
    clear g0 g1 g2 g3 g4 g5 g6 hb2 b3 hOC hn hat haa hm hab hkn hbe htk hpl hO hT hA hRg hB0
    go_wp2_with fail
    generalize (w2.alloc (.cells #[.slice na A.n nc, .map (some mb), .slice ua A.n uc, .slice aa A.n bc, .slice t4 ts.length t4c, .map (some mt), .map (some ms)] 70)) = w3 at *
    refine HAR.out.mono ?_
    rintro e w4 ⟨hb4, hout⟩
    obtain ⟨a4, n4, c4, E4, rfl⟩ := hout.form
    have HOUT := Lib.hid (hout.mono' (B' := w.heap.size) HB3.out.size)
    have HB4 := Lib.hid (HB3.out.trans (hb4.mono HB3.out.size))
    clear hout hb4
    go_wp2_with fail
    go_ret2
    exact ⟨HB4.out, HOUT.out⟩
end Go.Proofs.Ytlaibimdkamcfaa
end

section
/-
  Arguments that read as data: a theory with all of its type constructors and arities.
-/
namespace Go.Proofs.Ytlaibimdkamcfaa
open Go.RowKit Go.Deep Go.ChangeShapes Go.WideShapes Go.ChangeAt

theorem cells87 : Try.prog.cellsOf 87 = 2 := by kernel_rfl

section
variable {H : Type} {enc : TypeId × Value → H} {w : World} {base : Nat} {spare : Nat → Bool} {held : Bool}

theorem HasStrs.sort {W : World} {v : Value} {l : List ByteArray} (h : HasStrs W v l) : ∃ a c, v = .slice a l.length c ∧ SortAt W a l := by
  obtain ⟨a, c, b, o, rfl, h1, h2, h3⟩ := h
  exact ⟨a, c, rfl, b, o, h2, h3, h1⟩

theorem sorts_arg {fuel : Nat} {v : Value} {x : DataW H × List MemPlace} (h : DataW.trod enc Try.prog w base spare held fuel 44 [v] = some x) :
    ∃ (L : List (List ByteArray)) (a : Option Addr) (cap b o : Nat), v = .slice a L.length cap ∧ L.length ≤ 9223372036854775807 ∧ (L ≠ [] → a = some ⟨b, o, none⟩) ∧ SortsAt w b o L := by
  obtain ⟨k, a, cap, sb, so, rfl, hn, ha, hq⟩ := elems_of_trod (Q := fun b o => b < w.heap.size ∧ ∃ (x : List ByteArray) (a : Option Addr) (c : Nat), w.cell? ⟨b, o, none⟩ = some (.slice a x.length c) ∧ SortAt w a x) Try.underlying44 cells27 (by decide) (fun n b o cs x hc hl hb ht => by
    obtain ⟨v0, rfl⟩ := list1 hl
    obtain ⟨l, hl⟩ := strs_arg ht
    obtain ⟨a', c', rfl, hs⟩ := hl.sort
    exact ⟨hb, l, a', c', hc 0 (by decide), hs⟩) h
  obtain ⟨L, hl, hl2⟩ := choose_list (n := k) (Q := fun i (x : List ByteArray) => sb < w.heap.size ∧ ∃ (a : Option Addr) (c : Nat), w.cell? ⟨sb, so + i * 1, none⟩ = some (.slice a x.length c) ∧ SortAt w a x) (fun i hi => by
    obtain ⟨hb, x, a, c, h1, h2⟩ := hq i hi
    exact ⟨x, hb, a, c, h1, h2⟩)
  subst hl
  refine ⟨L, a, cap, sb, so, rfl, hn, fun hne => (ha (List.length_pos_iff.2 hne)).1, fun i hi => ?_⟩
  obtain ⟨hb, a', c', h1, h2⟩ := hl2 i hi
  rw [Nat.mul_one] at h1
  exact ⟨hb, a', c', h1, h2⟩

set_option maxRecDepth 100000 in
theorem td_of_trod {n b o : Nat} {cs : List Value} {x : DataW H × List MemPlace} (hc : ∀ j, j < 2 → w.cell? ⟨b, o + j, none⟩ = cs[j]?) (hl : cs.length = 2) (ht : DataW.trod enc Try.prog w base spare held n 87 cs = some x) :
    ∃ t : TD, w.cell? ⟨b, o, none⟩ = some (.string t.name) ∧ w.cell? ⟨b, o + 1, none⟩ = some (.int .i64 t.arity) ∧ t.name.size ≤ maxLen ∧ (-9223372036854775808 ≤ t.arity ∧ t.arity ≤ 9223372036854775807) := by
  obtain ⟨xs, m, rfl, rfl, hlen, hxs, hf⟩ := DataW.trod_struct Try.underlying87 ht
  have hx2 : xs.length = 2 := by simpa using hxs
  obtain ⟨v0, v1, rfl⟩ := list2 hl
  have g0 : DataW.trod enc Try.prog w base spare held m 9 (List.take (Try.prog.cellsOf 9) (List.drop 0 [v0, v1])) = xs[0]? := hf 0 _ rfl
  have g1 : DataW.trod enc Try.prog w base spare held m 3 (List.take (Try.prog.cellsOf 3) (List.drop 1 [v0, v1])) = xs[1]? := hf 1 _ rfl
  have cells3' : Try.prog.cellsOf 3 = 1 := by kernel_rfl
  simp only [cells9, cells3'] at g0 g1
  rw [List.getElem?_eq_getElem (by omega)] at g0 g1
  simp only [List.drop_succ_cons, List.drop_zero, List.take_succ_cons, List.take_zero] at g0 g1
  obtain ⟨s, e1, _, w1⟩ := DataW.trod_string Try.underlying9 g0
  obtain ⟨q, e2, _, w2⟩ := DataW.trod_int Try.underlying3 g1
  simp only [List.cons.injEq, and_true] at e1 e2
  subst e1 e2
  refine ⟨⟨s, q⟩, hc 0 (by decide), hc 1 (by decide), w1, ?_⟩
  unfold Lit.wf at w2
  rw [Bool.and_eq_true, decide_eq_true_eq, decide_eq_true_eq] at w2
  exact w2

set_option maxRecDepth 100000 in
theorem ari_of_trod {n b o : Nat} {cs : List Value} {x : DataW H × List MemPlace} (hc : ∀ j, j < 3 → w.cell? ⟨b, o + j, none⟩ = cs[j]?) (hl : cs.length = 3) (ht : DataW.trod enc Try.prog w base spare held n 62 cs = some x) : ∃ a : Ari, AriAt w b o a := by
  obtain ⟨xs, m, rfl, rfl, hlen, hxs, hf⟩ := DataW.trod_struct Try.underlying62 ht
  have hx3 : xs.length = 3 := by simpa using hxs
  obtain ⟨v0, v1, v2, rfl⟩ := list3 hl
  have g0 : DataW.trod enc Try.prog w base spare held m 9 (List.take (Try.prog.cellsOf 9) (List.drop 0 [v0, v1, v2])) = xs[0]? := hf 0 _ rfl
  have g1 : DataW.trod enc Try.prog w base spare held m 9 (List.take (Try.prog.cellsOf 9) (List.drop 1 [v0, v1, v2])) = xs[1]? := hf 1 _ rfl
  have g2 : DataW.trod enc Try.prog w base spare held m 44 (List.take (Try.prog.cellsOf 44) (List.drop 2 [v0, v1, v2])) = xs[2]? := hf 2 _ rfl
  simp only [cells9, cells44] at g0 g1 g2
  rw [List.getElem?_eq_getElem (by omega)] at g0 g1 g2
  simp only [List.drop_succ_cons, List.drop_zero, List.take_succ_cons, List.take_zero] at g0 g1 g2
  obtain ⟨s, e1, _, w1⟩ := DataW.trod_string Try.underlying9 g0
  obtain ⟨s', e2, _, w2⟩ := DataW.trod_string Try.underlying9 g1
  obtain ⟨L, a, cap, sb, so, e3, hn, ha, hL⟩ := sorts_arg g2
  simp only [List.cons.injEq, and_true] at e1 e2
  subst e1 e2 e3
  exact ⟨⟨s, s', L⟩, a, sb, so, cap, hc 0 (by decide), hc 1 (by decide), hc 2 (by decide), ha, hL, w1, w2, hn⟩

/-- A whole theory as an argument. -/
def HasThyF (W : World) (v : Value) : Prop :=
  ∃ (nm : ByteArray) (ca ta ra oa ya qa : Option Addr) (cc tc rc on oc yn yc qn qc cb co tb to rb ro : Nat) (cs : List Cls) (ts : List TD) (l : List Ari),
    v = .agg #[.string nm, .slice ca cs.length cc, .slice ta ts.length tc, .slice ra l.length rc, .slice oa on oc, .slice ya yn yc, .slice qa qn qc] ∧ (cs ≠ [] → ca = some ⟨cb, co, none⟩) ∧ ClassesAt W cb co cs ∧ cs.length ≤ 9223372036854775807 ∧
    (ts ≠ [] → ta = some ⟨tb, to, none⟩) ∧ TypesAt W tb to ts ∧ ts.length ≤ 9223372036854775807 ∧ (l ≠ [] → ra = some ⟨rb, ro, none⟩) ∧ ArisAt W rb ro l ∧ l.length ≤ 9223372036854775807

set_option maxRecDepth 100000 in
theorem thyF_arg {fuel : Nat} {cs : List Value} {x : DataW H × List MemPlace} (h : DataW.trod enc Try.prog w base spare held fuel 29 cs = some x) : HasThyF w (.agg cs.toArray) := by
  obtain ⟨xs, m, rfl, rfl, hlen, hxs, hf⟩ := DataW.trod_struct Try.underlying29 h
  rw [cells29] at hlen
  have hx7 : xs.length = 7 := by simpa using hxs
  obtain ⟨v0, v1, v2, v3, v4, v5, v6, rfl⟩ := list7 hlen
  have g0 : DataW.trod enc Try.prog w base spare held m 9 (List.take (Try.prog.cellsOf 9) (List.drop 0 [v0, v1, v2, v3, v4, v5, v6])) = xs[0]? := hf 0 _ rfl
  have g1 : DataW.trod enc Try.prog w base spare held m 22 (List.take (Try.prog.cellsOf 22) (List.drop 1 [v0, v1, v2, v3, v4, v5, v6])) = xs[1]? := hf 1 _ rfl
  have g2 : DataW.trod enc Try.prog w base spare held m 23 (List.take (Try.prog.cellsOf 23) (List.drop 2 [v0, v1, v2, v3, v4, v5, v6])) = xs[2]? := hf 2 _ rfl
  have g3 : DataW.trod enc Try.prog w base spare held m 24 (List.take (Try.prog.cellsOf 24) (List.drop 3 [v0, v1, v2, v3, v4, v5, v6])) = xs[3]? := hf 3 _ rfl
  have g4 : DataW.trod enc Try.prog w base spare held m 25 (List.take (Try.prog.cellsOf 25) (List.drop 4 [v0, v1, v2, v3, v4, v5, v6])) = xs[4]? := hf 4 _ rfl
  have g5 : DataW.trod enc Try.prog w base spare held m 26 (List.take (Try.prog.cellsOf 26) (List.drop 5 [v0, v1, v2, v3, v4, v5, v6])) = xs[5]? := hf 5 _ rfl
  have g6 : DataW.trod enc Try.prog w base spare held m 27 (List.take (Try.prog.cellsOf 27) (List.drop 6 [v0, v1, v2, v3, v4, v5, v6])) = xs[6]? := hf 6 _ rfl
  simp only [cells9, cells22, cells23, cells24, cells25, cells26, cells27] at g0 g1 g2 g3 g4 g5 g6
  rw [List.getElem?_eq_getElem (by omega)] at g0 g1 g2 g3 g4 g5 g6
  simp only [List.drop_succ_cons, List.drop_zero, List.take_succ_cons, List.take_zero] at g0 g1 g2 g3 g4 g5 g6
  obtain ⟨nm, e0, _, w0⟩ := DataW.trod_string Try.underlying9 g0
  obtain ⟨on, oa, oc, e4, _⟩ := slice_of_trod Try.underlying25 g4
  obtain ⟨yn, ya, yc, e5, _⟩ := slice_of_trod Try.underlying26 g5
  obtain ⟨qn, qa, qc, e6, _⟩ := slice_of_trod Try.underlying27 g6
  obtain ⟨cn, ca, cc, cb, co, e1, hcn, hca, hcq⟩ := elems_of_trod (Q := fun b o => b < w.heap.size ∧ ∃ c : Cls, ClsAt w b o c) Try.underlying22 cells60 (by decide) (fun n b o cs x hc hl hb ht => ⟨hb, class_of_trod hc hl ht⟩) g1
  obtain ⟨tn, ta, tc, tb, to, e2, htn, hta, htq⟩ := elems_of_trod (Q := fun b o => b < w.heap.size ∧ ∃ t : TD, w.cell? ⟨b, o, none⟩ = some (.string t.name) ∧ w.cell? ⟨b, o + 1, none⟩ = some (.int .i64 t.arity) ∧ t.name.size ≤ maxLen ∧ (-9223372036854775808 ≤ t.arity ∧ t.arity ≤ 9223372036854775807)) Try.underlying23 cells87 (by decide) (fun n b o cs x hc hl hb ht => ⟨hb, td_of_trod hc hl ht⟩) g2
  obtain ⟨rn, ra, rc, rb, ro, e3, hrn, hra, hrq⟩ := elems_of_trod (Q := fun b o => b < w.heap.size ∧ ∃ a : Ari, AriAt w b o a) Try.underlying24 cells62 (by decide) (fun n b o cs x hc hl hb ht => ⟨hb, ari_of_trod hc hl ht⟩) g3
  obtain ⟨cs, hcl, hcs⟩ := choose_list (n := cn) (Q := fun i c => cb < w.heap.size ∧ ClsAt w cb (co + i * 2) c) (fun i hi => by obtain ⟨hb, c, hc⟩ := hcq i hi; exact ⟨c, hb, hc⟩)
  obtain ⟨ts, htl, hts⟩ := choose_list (n := tn) (Q := fun i (t : TD) => tb < w.heap.size ∧ w.cell? ⟨tb, to + i * 2, none⟩ = some (.string t.name) ∧ w.cell? ⟨tb, to + i * 2 + 1, none⟩ = some (.int .i64 t.arity) ∧ t.name.size ≤ maxLen ∧ (-9223372036854775808 ≤ t.arity ∧ t.arity ≤ 9223372036854775807)) (fun i hi => by obtain ⟨hb, c, hc⟩ := htq i hi; exact ⟨c, hb, hc⟩)
  obtain ⟨l, hal, has⟩ := choose_list (n := rn) (Q := fun i (a : Ari) => rb < w.heap.size ∧ AriAt w rb (ro + i * 3) a) (fun i hi => by obtain ⟨hb, a, hc⟩ := hrq i hi; exact ⟨a, hb, hc⟩)
  subst hcl htl hal
  simp only [List.cons.injEq, and_true] at e0
  subst e0 e1 e2 e3 e4 e5 e6
  exact ⟨nm, ca, ta, ra, oa, ya, qa, cc, tc, rc, on, oc, yn, yc, qn, qc, cb, co, tb, to, rb, ro, cs, ts, l, rfl, fun hne => (hca (List.length_pos_iff.2 hne)).1, hcs, hcn, fun hne => (hta (List.length_pos_iff.2 hne)).1, hts, htn, fun hne => (hra (List.length_pos_iff.2 hne)).1, has, hrn⟩
end

set_option maxRecDepth 100000 in
theorem hasThyF_of {H : Type} {enc : TypeId × Value → H} {W : World} {base : Nat} {v : Value} {d : DataW H} {ps : List MemPlace} (hv : Value.okWide Try.prog W .any base 29 v) (h : DataW.Trod enc Try.prog W 0 (fun _ => true) true 29 v d ps) : HasThyF W v := by
  obtain ⟨cs, rfl, _⟩ := okWide_struct Try.underlying29 hv
  obtain ⟨fuel, h⟩ := h
  simpa [Value.cells] using thyF_arg h

set_option maxRecDepth 100000 in
theorem hasStr_of {H : Type} {enc : TypeId × Value → H} {W : World} {v : Value} {d : DataW H} {ps : List MemPlace} {base : Nat} (hv : Value.okWide Try.prog W .any base 9 v) (h : DataW.Trod enc Try.prog W 0 (fun _ => true) true 9 v d ps) : ∃ s : ByteArray, v = .string s ∧ s.size ≤ maxLen := by
  obtain ⟨fuel, h⟩ := h
  obtain ⟨s, hs⟩ := okWide_string Try.underlying9 hv
  subst hs
  obtain ⟨s', e, _, h2⟩ := DataW.trod_string Try.underlying9 h
  simp [Value.cells] at e
  subst e
  exact ⟨s, rfl, h2⟩

/-- The lengths alone. -/
theorem ArisAt.lens {W : World} {b o : Nat} {l : List Ari} (h : ArisAt W b o l) : AritiesAt W b o (l.map fun a => a.sorts.map List.length) := by
  intro i hi
  have hi' : i < l.length := by simpa using hi
  obtain ⟨h0, sa, sb, so, sc, h1, h2, h3, h4, h5, h6, h7, h8⟩ := h i hi'
  refine ⟨h0, by simpa using h8, l[i].typ, l[i].cls, sa, sb, so, sc, h1, h2, by simpa using h3, fun hne => h4 (by simpa using hne), fun j hj => ?_⟩
  have hj' : j < l[i].sorts.length := by simpa using hj
  obtain ⟨hl, a, c, k1, k2⟩ := h5 j hj'
  refine ⟨hl, ?_, a, c, ?_⟩
  · obtain ⟨_, _, _, _, k⟩ := k2
    simpa using k
  · simpa using k1
end Go.Proofs.Ytlaibimdkamcfaa
end

section
/-
  SortArguments: the statement's own functions.
-/
namespace Go.Proofs.Ytlaibimdkamcfaa
open Go.RowKit Go.Maps Go.WideMaps

set_option maxRecDepth 100000 in
set_option maxHeartbeats 1000000 in
theorem few14_any (nm : ByteArray) (ca ta ra oa ya qa : Option Addr) (cc tn tc rc on oc yn yc qn qc cb co rb ro : Nat) (cs : List Cls) (ars : List (List Nat)) (w : World)
    (hca : cs ≠ [] → ca = some ⟨cb, co, none⟩) (hcs : ClassesAt w cb co cs) (hcl : cs.length ≤ 9223372036854775807) (htn : tn ≤ 9223372036854775807) (hra : ars ≠ [] → ra = some ⟨rb, ro, none⟩) (has : AritiesAt w rb ro ars) (hal : ars.length ≤ 9223372036854775807) :
    Calls Try.prog 9 #[.agg #[.string nm, .slice ca cs.length cc, .slice ta tn tc, .slice ra ars.length rc, .slice oa on oc, .slice ya yn yc, .slice qa qn qc]] w fun e w' => ∃ f, e = .returned (.bool f) ∧ (f = true → cs.length ≤ 14) ∧ Below w.heap.size w w' := by
  by_cases h1 : 14 < cs.length
  · have HB0 := Lib.hid (show Below w.heap.size w (w.alloc (.cells #[.string nm, .slice ca cs.length cc, .slice ta tn tc, .slice ra ars.length rc, .slice oa on oc, .slice ya yn yc, .slice qa qn qc] 29)) from (Below.refl _ w).alloc (Nat.le_refl _) _)
    clear hcs hca has hra
    go_enter Try.func9, Try.ntmps9
    go_wp2_with fail
    go_ret
    exact .inl ⟨rfl, HB0.out⟩
  · refine (few_any nm ca ta ra oa ya qa cc tn tc rc on oc yn yc qn qc cb co rb ro cs ars w hca hcs hcl htn hra has hal).mono ?_
    rintro e w' ⟨f, rfl, hb⟩
    exact ⟨f, rfl, fun _ => by omega, hb⟩

set_option maxRecDepth 100000 in
set_option maxHeartbeats 2000000 in
theorem arguments_any {nm : ByteArray} {ca ta ra oa ya qa : Option Addr} {cc tc rc on oc yn yc qn qc cb co tb to rb ro : Nat} {cs : List Cls} {ts : List TD} {l : List Ari} {g : Nat} {W0 : World} (h : ThyF nm ca ta ra oa ya qa cc tc rc on oc yn yc qn qc cb co tb to rb ro cs ts l g W0) (w : World) (hb : Below W0.heap.size W0 w) :
    Calls Try.prog 25 #[.agg #[.string nm, .slice ca cs.length cc, .slice ta ts.length tc, .slice ra l.length rc, .slice oa on oc, .slice ya yn yc, .slice qa qn qc]] w fun e w' => (∃ N : Int, e = .returned (.int .i64 N)) ∧ Below w.heap.size w w' := by
  have hb0 : Below w.heap.size w (w.alloc (.cells #[.string nm, .slice ca cs.length cc, .slice ta ts.length tc, .slice ra l.length rc, .slice oa on oc, .slice ya yn yc, .slice qa qn qc] 29)) := (Below.refl _ w).alloc (Nat.le_refl _) _
  have HTH := Lib.hid ((h.later hb).boxed hb0 (heap_alloc_new w _))
  have HB0 := Lib.hid hb0
  have htl := h.tyl
  obtain ⟨g0, g1, g2, g3, g4, g5, g6⟩ := HTH.out.at_.cells
  clear hb0 h hb
  go_enter Try.func25, Try.ntmps25
  go_wp2_with fail
  generalize (w.alloc (.cells #[.string nm, .slice ca cs.length cc, .slice ta ts.length tc, .slice ra l.length rc, .slice oa on oc, .slice ya yn yc, .slice qa qn qc] 29)) = w1 at *
  clear g0 g1 g2 g3 g4 g5 g6
  go_loopw [3, 9] (fun n t wr => ∃ (i : Nat) (N : Int), n = .int .i64 N ∧ t = .int .i64 i ∧ i ≤ ts.length ∧ Below w1.heap.size w1 wr) (fun _ t _ => ts.length - (intOf t).toNat)
  case atStart => exact ⟨0, 0, rfl, rfl, Nat.zero_le _, Below.refl _ _⟩
  case round =>
    obtain ⟨i, N, rfl, rfl, hi, hbr⟩ := hrel
    have HB := Lib.hid hbr
    clear hbr
    by_cases hlt : i < ts.length
    · have e := HTH.out.tya (by intro e; subst e; simp at hlt)
      subst e
      obtain ⟨hlb, c0, c1, c2, c3⟩ := (HTH.out.tys.later HB.out) i hlt
      obtain ⟨nn, hnn⟩ : ∃ q, ts[i].name = q := ⟨_, rfl⟩
      obtain ⟨ar, har⟩ : ∃ q, ts[i].arity = q := ⟨_, rfl⟩
      rw [hnn] at c0 c2
      rw [har] at c1 c3
      have b1 : Below wr.heap.size wr (wr.alloc (.cells #[.string nn, .int .i64 ar] 87)) := (Below.refl _ _).alloc (Nat.le_refl _) _
      have H1 := Lib.hid (HB.out.trans (b1.mono HB.out.size))
      clear hnn har b1 c2 hlb
      go_wp2_with fail
      refine ⟨⟨i + 1, _, rfl, by simp only [Int.natCast_add, Int.natCast_one], by omega, H1.out⟩, ?_⟩
      show ts.length - ((i:Int)+1).toNat < ts.length - ((i:Nat):Int).toNat
      omega
    · go_wp2_with fail
      go_ret
      exact ⟨⟨_, rfl⟩, HB0.out.trans (HB.out.mono HB0.out.size)⟩
end Go.Proofs.Ytlaibimdkamcfaa
end

