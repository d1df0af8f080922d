/-
  SortNormals: the statement's own walk.
-/
import Derived.Test.YtlaibimdkamcfaaF9
namespace Go.Proofs.Ytlaibimdkamcfaa
open Go.RowKit Go.Maps

/-- What Normal answers. -/
def NormIs (cs : List Cls) (x : List ByteArray) (E : Int) (r : List ByteArray) : Prop := E = normErr cs x ∧ ((E ≠ 0 ∧ r = []) ∨ (E = 0 ∧ IsNormalOf ltS (belowB cs) x r))

theorem isNormal_one {cs : List Cls} {x r r' : List ByteArray} (h : IsNormalOf ltS (belowB cs) x r) (h' : IsNormalOf ltS (belowB cs) x r') : r = r' := h.unique ltS_irr ltS_trans h' fun _ => Iff.rfl

theorem NormIs.unique {cs : List Cls} {x r r' : List ByteArray} {E E' : Int} (h : NormIs cs x E r) (h' : NormIs cs x E' r') : E = E' ∧ r = r' := by
  obtain ⟨rfl, h⟩ := h
  obtain ⟨rfl, h'⟩ := h'
  refine ⟨rfl, ?_⟩
  rcases h with ⟨h0, rfl⟩ | ⟨h0, h⟩ <;> rcases h' with ⟨h0', rfl⟩ | ⟨h0', h'⟩
  · rfl
  · exact absurd h0' h0
  · exact absurd h0 h0'
  · exact isNormal_one h h'

/-- What Meet answers. -/
def MeetIs (cs : List Cls) (x y : List ByteArray) (E : Int) (r : List ByteArray) : Prop :=
  (normErr cs x ≠ 0 ∧ E = normErr cs x ∧ r = []) ∨ (normErr cs x = 0 ∧ normErr cs y ≠ 0 ∧ E = normErr cs y ∧ r = []) ∨
  (normErr cs x = 0 ∧ normErr cs y = 0 ∧ ∃ N, IsNormalOf ltS (belowB cs) (x ++ y) N ∧ ((20 < N.length ∧ E = 5 ∧ r = []) ∨ (N.length ≤ 20 ∧ E = 0 ∧ r = N)))

theorem MeetIs.unique {cs : List Cls} {x y r r' : List ByteArray} {E E' : Int} (h : MeetIs cs x y E r) (h' : MeetIs cs x y E' r') : E = E' ∧ r = r' := by
  rcases h with ⟨a, rfl, rfl⟩ | ⟨a, b, rfl, rfl⟩ | ⟨a, b, N, hN, h⟩
  · rcases h' with ⟨a', rfl, rfl⟩ | ⟨a', b', rfl, rfl⟩ | ⟨a', b', N', hN', h'⟩
    · exact ⟨rfl, rfl⟩
    · exact absurd a' a
    · exact absurd a' a
  · rcases h' with ⟨a', rfl, rfl⟩ | ⟨a', b', rfl, rfl⟩ | ⟨a', b', N', hN', h'⟩
    · exact absurd a a'
    · exact ⟨rfl, rfl⟩
    · exact absurd b' b
  · rcases h' with ⟨a', rfl, rfl⟩ | ⟨a', b', rfl, rfl⟩ | ⟨a', b', N', hN', h'⟩
    · exact absurd a a'
    · exact absurd b b'
    · have e := isNormal_one hN hN'
      subst e
      rcases h with ⟨c, rfl, rfl⟩ | ⟨c, rfl, rfl⟩ <;> rcases h' with ⟨c', rfl, rfl⟩ | ⟨c', rfl, rfl⟩
      · exact ⟨rfl, rfl⟩
      · omega
      · omega
      · exact ⟨rfl, rfl⟩

theorem sortAt_nil (W : World) (a : Option Addr) : SortAt W a [] := ⟨0, 0, fun h => absurd rfl h, ⟨fun h => absurd rfl h, fun i hi => absurd hi (by simp), fun i hi => absurd hi (by simp)⟩, by simp⟩

section
variable {nm : ByteArray} {ca ta ra oa ya qa : Option Addr} {cc tn tc rn rc on oc yn yc qn qc cb co : Nat} {cs : List Cls} {g : Nat} {W : World}

theorem normal_full (h : ThyAt nm ca ta ra oa ya qa cc tn tc rn rc on oc yn yc qn qc cb co cs g W) {a : Option Addr} {x : List ByteArray} {c : Nat} (hx : SortAt W a x) :
    Calls Try.prog 20 #[.agg #[.string nm, .slice ca cs.length cc, .slice ta tn tc, .slice ra rn rc, .slice oa on oc, .slice ya yn yc, .slice qa qn qc], .slice a x.length c] W fun e W' =>
      ∃ (b : Option Addr) (r : List ByteArray) (d : Nat) (E : Int), e = .returned (.tuple #[.slice b r.length d, .int .i64 E]) ∧ NormIs cs x E r ∧ SortAt W' b r ∧ Below W.heap.size W W' := by
  obtain ⟨xb, xo, h1, h2, h3⟩ := hx
  refine (sortNormal_any nm ca ta ra oa ya qa cc tn tc rn rc on oc yn yc qn qc cb co cs xb xo c a x W h.cla h.thy.cls h.len h1 h2 h3).mono ?_
  rintro e W' ⟨(⟨hE, rfl⟩ | ⟨hE, v, r, rfl, hr, ho⟩), hb⟩
  · exact ⟨none, [], 0, _, rfl, ⟨rfl, .inl ⟨hE, rfl⟩⟩, sortAt_nil _ _, hb⟩
  · have hs : ∀ z, z ∈ r → z.size ≤ maxLen := fun z hz => SortAt.size ⟨xb, xo, h1, h2, h3⟩ z ((hr.mem z).1 hz).1
    obtain ⟨b, d, rfl, hS⟩ := sortAt_own ho hs (Nat.le_trans hr.len h3)
    exact ⟨b, r, d, 0, rfl, ⟨hE.symm, .inr ⟨rfl, hr⟩⟩, hS, hb⟩

theorem refNormal_full (h : ThyAt nm ca ta ra oa ya qa cc tn tc rn rc on oc yn yc qn qc cb co cs g W) {a : Option Addr} {x : List ByteArray} {c : Nat} (hx : SortAt W a x) :
    Calls Try.prog 21 #[.agg #[.string nm, .slice ca cs.length cc, .slice ta tn tc, .slice ra rn rc, .slice oa on oc, .slice ya yn yc, .slice qa qn qc], .slice a x.length c] W fun e W' =>
      ∃ (b : Option Addr) (r : List ByteArray) (d : Nat) (E : Int), e = .returned (.tuple #[.slice b r.length d, .int .i64 E]) ∧ NormIs cs x E r ∧ SortAt W' b r ∧ Below W.heap.size W W' := by
  have h3 : x.length ≤ 9223372036854775807 := hx.choose_spec.choose_spec.2.2
  refine (refNormal_any (xc := c) W h.cla h.thy.cls h.len hx).mono ?_
  rintro e W' ⟨(⟨hE, rfl⟩ | ⟨hE, v, r, rfl, hr, ho⟩), hb⟩
  · exact ⟨none, [], 0, _, rfl, ⟨rfl, .inl ⟨hE, rfl⟩⟩, sortAt_nil _ _, hb⟩
  · have hs : ∀ z, z ∈ r → z.size ≤ maxLen := fun z hz => hx.size z ((hr.mem z).1 hz).1
    obtain ⟨b, d, rfl, hS⟩ := sortAt_own ho hs (Nat.le_trans hr.len h3)
    exact ⟨b, r, d, 0, rfl, ⟨hE.symm, .inr ⟨rfl, hr⟩⟩, hS, hb⟩

theorem meet_full (h : ThyAt nm ca ta ra oa ya qa cc tn tc rn rc on oc yn yc qn qc cb co cs g W) {a a' : Option Addr} {x y : List ByteArray} {c c' : Nat} (hx : SortAt W a x) (hy : SortAt W a' y) :
    Calls Try.prog 22 #[.agg #[.string nm, .slice ca cs.length cc, .slice ta tn tc, .slice ra rn rc, .slice oa on oc, .slice ya yn yc, .slice qa qn qc], .slice a x.length c, .slice a' y.length c'] W fun e W' =>
      ∃ (b : Option Addr) (r : List ByteArray) (d : Nat) (E : Int), e = .returned (.tuple #[.slice b r.length d, .int .i64 E]) ∧ MeetIs cs x y E r ∧ SortAt W' b r ∧ Below W.heap.size W W' := by
  obtain ⟨xb, xo, h1, h2, h3⟩ := hx
  obtain ⟨yb, yo, k1, k2, k3⟩ := hy
  refine (sortMeet_any nm ca ta ra oa ya qa cc tn tc rn rc on oc yn yc qn qc cb co cs xb xo c yb yo c' a a' x y W h.cla h.thy.cls h.len h1 h2 h3 k1 k2 k3).mono ?_
  have one : openErr cs = 0 → ∀ z, normErr cs z = sortErr (knownB cs) z := fun hO z => by unfold normErr; rw [if_pos hO]
  rintro e W' ⟨(⟨hE, rfl⟩ | ⟨hO, (⟨hE, rfl⟩ | ⟨hx0, hE, rfl⟩ | ⟨hx0, hy0, p, q, r, hp, hq, hr, hres⟩)⟩), hb⟩
  · have hn : normErr cs x = openErr cs := by unfold normErr; rw [if_neg hE]
    exact ⟨none, [], 0, _, rfl, .inl ⟨by rw [hn]; exact hE, hn.symm, rfl⟩, sortAt_nil _ _, hb⟩
  · exact ⟨none, [], 0, _, rfl, .inl ⟨by rw [one hO]; exact hE, (one hO x).symm, rfl⟩, sortAt_nil _ _, hb⟩
  · exact ⟨none, [], 0, _, rfl, .inr (.inl ⟨by rw [one hO]; exact hx0, by rw [one hO]; exact hE, (one hO y).symm, rfl⟩), sortAt_nil _ _, hb⟩
  · have hxk := (sortErr_zero hx0).2
    have hyk := (sortErr_zero hy0).2
    have hN : IsNormalOf ltS (belowB cs) (x ++ y) r := by
      refine ⟨hr.asc, fun z => (hr.mem z).trans (least_meet (classes_ord hO) hp hq hxk hyk z), ?_⟩
      have := hr.len
      have := hp.len
      have := hq.len
      rw [List.length_append] at *
      omega
    have nx : normErr cs x = 0 := by rw [one hO]; exact hx0
    have ny : normErr cs y = 0 := by rw [one hO]; exact hy0
    rcases hres with ⟨hl, rfl⟩ | ⟨hl, v, rfl, ho⟩
    · exact ⟨none, [], 0, 5, rfl, .inr (.inr ⟨nx, ny, r, hN, .inl ⟨hl, rfl, rfl⟩⟩), sortAt_nil _ _, hb⟩
    · have hs : ∀ z, z ∈ r → z.size ≤ maxLen := fun z hz => by
        rcases List.mem_append.1 ((hN.mem z).1 hz).1 with hz | hz
        · exact SortAt.size ⟨xb, xo, h1, h2, h3⟩ z hz
        · exact SortAt.size ⟨yb, yo, k1, k2, k3⟩ z hz
      obtain ⟨b, d, rfl, hS⟩ := sortAt_own ho hs (by omega)
      exact ⟨b, r, d, 0, rfl, .inr (.inr ⟨nx, ny, r, hN, .inr ⟨hl, rfl, rfl⟩⟩), hS, hb⟩

theorem refMeet_full (h : ThyAt nm ca ta ra oa ya qa cc tn tc rn rc on oc yn yc qn qc cb co cs g W) {a a' : Option Addr} {x y : List ByteArray} {c c' : Nat} (hx : SortAt W a x) (hy : SortAt W a' y) :
    Calls Try.prog 23 #[.agg #[.string nm, .slice ca cs.length cc, .slice ta tn tc, .slice ra rn rc, .slice oa on oc, .slice ya yn yc, .slice qa qn qc], .slice a x.length c, .slice a' y.length c'] W fun e W' =>
      ∃ (b : Option Addr) (r : List ByteArray) (d : Nat) (E : Int), e = .returned (.tuple #[.slice b r.length d, .int .i64 E]) ∧ MeetIs cs x y E r ∧ SortAt W' b r ∧ Below W.heap.size W W' := by
  refine (refMeet_any (xc := c) (zc := c') W h.cla h.thy.cls h.len hx hy).mono ?_
  rintro e W' ⟨(⟨hE, rfl⟩ | ⟨hE, r, hN, hres⟩), hb⟩
  · rw [sortsErr_pair] at hE
    by_cases hx0 : normErr cs x = 0
    · rw [if_neg (by simpa using hx0)] at hE
      exact ⟨none, [], 0, _, rfl, .inr (.inl ⟨hx0, hE, by rw [sortsErr_pair, if_neg (by simpa using hx0)], rfl⟩), sortAt_nil _ _, hb⟩
    · exact ⟨none, [], 0, _, rfl, .inl ⟨hx0, by rw [sortsErr_pair, if_pos hx0], rfl⟩, sortAt_nil _ _, hb⟩
  · rw [sortsErr_pair] at hE
    by_cases hx0 : normErr cs x = 0
    · rw [if_neg (by simpa using hx0)] at hE
      rcases hres with ⟨hl, rfl⟩ | ⟨hl, v, rfl, ho⟩
      · exact ⟨none, [], 0, 5, rfl, .inr (.inr ⟨hx0, hE, r, hN, .inl ⟨hl, rfl, rfl⟩⟩), sortAt_nil _ _, hb⟩
      · have hs : ∀ z, z ∈ r → z.size ≤ maxLen := fun z hz => by
          rcases List.mem_append.1 ((hN.mem z).1 hz).1 with hz | hz
          · exact hx.size z hz
          · exact hy.size z hz
        obtain ⟨b, d, rfl, hS⟩ := sortAt_own ho hs (by omega)
        exact ⟨b, r, d, 0, rfl, .inr (.inr ⟨hx0, hE, r, hN, .inr ⟨hl, rfl, rfl⟩⟩), hS, hb⟩
    · rw [if_pos hx0] at hE
      exact absurd hE hx0
end

theorem equal_full {W : World} {a a' : Option Addr} {x : List ByteArray} {c c' : Nat} (hx : SortAt W a x) (hy : SortAt W a' x) :
    Calls Try.prog 24 #[.slice a x.length c, .slice a' x.length c'] W fun e w' => e = .returned (.bool true) ∧ Below W.heap.size W w' := by
  obtain ⟨xb, xo, h1, h2, h3⟩ := hx
  obtain ⟨yb, yo, k1, k2, k3⟩ := hy
  refine (equal_any xb xo c yb yo c' a a' x x W h1 h2 h3 k1 k2 k3).mono ?_
  rintro e w' ⟨rfl, hb⟩
  exact ⟨by rw [decide_eq_true rfl], hb⟩

set_option maxRecDepth 100000 in
set_option maxHeartbeats 4000000 in
theorem sortNormals_walk (nm : ByteArray) (ca ta ra oa ya qa : Option Addr) (cc tn tc rc on oc yn yc qn qc cb co rb ro : Nat) (cs : List Cls) (ars : List (List Nat)) (xc zc : Nat) (xa za : Option Addr) (x y : List ByteArray) (w : World)
    (hca : cs ≠ [] → ca = some ⟨cb, co, none⟩) (hcs : ClassesAt w cb co cs) (hcl : cs.length ≤ 9223372036854775807) (htn : tn ≤ 9223372036854775807) (hra : ars ≠ [] → ra = some ⟨rb, ro, none⟩) (has : AritiesAt w rb ro ars) (hal : ars.length ≤ 9223372036854775807)
    (hx : SortAt w xa x) (hy : SortAt w za y) :
    Calls Try.prog 4 #[.agg #[.string nm, .slice ca cs.length cc, .slice ta tn tc, .slice ra ars.length rc, .slice oa on oc, .slice ya yn yc, .slice qa qn qc], .slice xa x.length xc, .slice za y.length zc] w fun e w' => e = .returned (.bool true) ∧ Below w.heap.size w w' := by
  have hclm : cs.length ≤ maxLen := by unfold maxLen; omega
  have hb0 : Below w.heap.size w (w.alloc (.cells #[.string nm, .slice ca cs.length cc, .slice ta tn tc, .slice ra ars.length rc, .slice oa on oc, .slice ya yn yc, .slice qa qn qc] 29)) := (Below.refl _ w).alloc (Nat.le_refl _) _
  have HTH := Lib.hid (ThyAt.mk (Thy.mk (heap_alloc_new w (.cells #[.string nm, .slice ca cs.length cc, .slice ta tn tc, .slice ra ars.length rc, .slice oa on oc, .slice ya yn yc, .slice qa qn qc] 29)) (hcs.later hb0)) hca hclm : ThyAt nm ca ta ra oa ya qa cc tn tc ars.length rc on oc yn yc qn qc cb co cs w.heap.size _)
  have HFEW := Lib.hid (few_any nm ca ta ra oa ya qa cc tn tc rc on oc yn yc qn qc cb co rb ro cs ars _ hca (hcs.later hb0) hcl htn hra (has.later hb0) hal)
  have HX := Lib.hid (hx.later hb0)
  have HY := Lib.hid (hy.later hb0)
  have hlx : x.length ≤ 9223372036854775807 := hx.choose_spec.choose_spec.2.2
  have hly : y.length ≤ 9223372036854775807 := hy.choose_spec.choose_spec.2.2
  have HB0 := Lib.hid hb0
  clear hb0 hca hcs hra has hx hy
  go_enter Try.func4, Try.ntmps4
  go_wp2_with fail
  generalize (w.alloc (.cells #[.string nm, .slice ca cs.length cc, .slice ta tn tc, .slice ra ars.length rc, .slice oa on oc, .slice ya yn yc, .slice qa qn qc] 29)) = w1 at *
  refine HFEW.out.mono ?_
  rintro e w2 ⟨f, rfl, hb2⟩
  have HTH2 := Lib.hid (HTH.out.later hb2)
  have HX2 := Lib.hid (HX.out.later hb2)
  have HY2 := Lib.hid (HY.out.later hb2)
  have HB2 := Lib.hid (HB0.out.trans (hb2.mono HB0.out.size))
  clear hb2 HFEW HTH HX HY
  cases f with
  | false =>
    go_wp2_with (go_at_call 11; refine (awake_any _).mono ?_; rintro e w' ⟨rfl, hb⟩; have HAW := Lib.hid (HB2.out.trans (hb.mono HB2.out.size)); clear hb)
    go_ret
    exact ⟨rfl, HAW.out⟩
  | true =>
    go_wp2_with fail
    have b3 : Below w2.heap.size w2 (w2.alloc (.cells #[.slice xa x.length xc, .slice za y.length zc] 27)) := (Below.refl _ _).alloc (Nat.le_refl _) _
    have n3 := heap_alloc_new w2 (.cells #[.slice xa x.length xc, .slice za y.length zc] 27)
    have z3 : (w2.alloc (.cells #[.slice xa x.length xc, .slice za y.length zc] 27)).heap.size = w2.heap.size + 1 := by simp
    have HTH3 := Lib.hid (HTH2.out.later b3)
    have HX3 := Lib.hid (HX2.out.later b3)
    have HY3 := Lib.hid (HY2.out.later b3)
    have HB3 := Lib.hid (HB2.out.trans (b3.mono HB2.out.size))
    generalize (w2.alloc (.cells #[.slice xa x.length xc, .slice za y.length zc] 27)) = w3 at *
    refine (fewSorts_any w2.heap.size 0 2 (some ⟨w2.heap.size, 0, none⟩) [x.length, y.length] w3 (fun _ => rfl) (fun i hi => ?_) (show (2 : Nat) ≤ 9223372036854775807 by decide)).mono ?_
    · refine ⟨by omega, ?_⟩
      rw [Lib.cell_of_heap n3, Nat.zero_add]
      match i, hi with
      | 0, _ => exact ⟨hlx, xa, xc, rfl⟩
      | 1, _ => exact ⟨hly, za, zc, rfl⟩
    rintro e w' ⟨rfl, rfl⟩
    cases hsh : shortB [x.length, y.length] with
    | false =>
      clear hsh b3 n3 z3
      go_wp2_with (go_at_call 11; refine (awake_any _).mono ?_; rintro e w' ⟨rfl, hb⟩; have HAW := Lib.hid (HB3.out.trans (hb.mono HB3.out.size)); clear hb)
      go_ret
      exact ⟨rfl, HAW.out⟩
    | true =>
      obtain ⟨g0, g1, g2, g3, g4, g5, g6⟩ := HTH3.out.cells
      clear hsh b3 n3 z3 HTH2 HB2 HX2 HY2
      go_wp2_with fail
      refine (normal_full HTH3.out HX3.out).mono ?_
      rintro e w4 ⟨a1, r1, c1, E1, rfl, h1, s1, hb⟩
      have HN1 := Lib.hid h1
      have HR1 := Lib.hid s1
      have HTH4 := Lib.hid (HTH3.out.later hb)
      have HX4 := Lib.hid (HX3.out.later hb)
      have HY4 := Lib.hid (HY3.out.later hb)
      have HB4 := Lib.hid (HB3.out.trans (hb.mono HB3.out.size))
      clear h1 s1 hb g0 g1 g2 g3 g4 g5 g6 HTH3 HX3 HY3 HB3
      obtain ⟨g0, g1, g2, g3, g4, g5, g6⟩ := HTH4.out.cells
      go_wp2_with fail
      refine (refNormal_full HTH4.out HX4.out).mono ?_
      rintro e w5 ⟨a2, r2, c2, E2, rfl, h1, s1, hb⟩
      obtain ⟨rfl, rfl⟩ := HN1.out.unique h1
      have HR15 := Lib.hid (HR1.out.later hb)
      have HR2 := Lib.hid s1
      have HTH5 := Lib.hid (HTH4.out.later hb)
      have HX5 := Lib.hid (HX4.out.later hb)
      have HY5 := Lib.hid (HY4.out.later hb)
      have HB5 := Lib.hid (HB4.out.trans (hb.mono HB4.out.size))
      clear h1 s1 hb g0 g1 g2 g3 g4 g5 g6 HTH4 HX4 HY4 HB4
      obtain ⟨g0, g1, g2, g3, g4, g5, g6⟩ := HTH5.out.cells
      go_wp2_with fail
      refine (meet_full HTH5.out HX5.out HY5.out).mono ?_
      rintro e w6 ⟨a3, r3, c3, E3, rfl, h1, s1, hb⟩
      have HN3 := Lib.hid h1
      have HR16 := Lib.hid (HR15.out.later hb)
      have HR26 := Lib.hid (HR2.out.later hb)
      have HR3 := Lib.hid s1
      have HTH6 := Lib.hid (HTH5.out.later hb)
      have HX6 := Lib.hid (HX5.out.later hb)
      have HY6 := Lib.hid (HY5.out.later hb)
      have HB6 := Lib.hid (HB5.out.trans (hb.mono HB5.out.size))
      clear h1 s1 hb g0 g1 g2 g3 g4 g5 g6 HTH5 HX5 HY5 HB5
      obtain ⟨g0, g1, g2, g3, g4, g5, g6⟩ := HTH6.out.cells
      go_wp2_with fail
      refine (refMeet_full HTH6.out HX6.out HY6.out).mono ?_
      rintro e w7 ⟨a4, r4, c4, E4, rfl, h1, s1, hb⟩
      obtain ⟨rfl, rfl⟩ := HN3.out.unique h1
      have HR17 := Lib.hid (HR16.out.later hb)
      have HR27 := Lib.hid (HR26.out.later hb)
      have HR37 := Lib.hid (HR3.out.later hb)
      have HR4 := Lib.hid s1
      have HB7 := Lib.hid (HB6.out.trans (hb.mono HB6.out.size))
      clear h1 s1 hb g0 g1 g2 g3 g4 g5 g6 HTH6 HX6 HY6 HB6
      go_wp2_with (first
        | (go_at_call 24; refine (equal_full HR38.out HR48.out).mono ?_; rintro e w9 ⟨rfl, hb9⟩; have HB9 := Lib.hid (HB8.out.trans (hb9.mono HB8.out.size)); clear hb9)
        | (go_at_call 24; refine (equal_full HR17.out HR27.out).mono ?_; rintro e w8 ⟨rfl, hb8⟩; have HB8 := Lib.hid (HB7.out.trans (hb8.mono HB7.out.size)); have HR38 := Lib.hid (HR37.out.later hb8); have HR48 := Lib.hid (HR4.out.later hb8); clear hb8)
        | (go_at_call 11; refine (awake_any _).mono ?_; rintro e w10 ⟨rfl, hb10⟩; have HB10 := Lib.hid (HB9.out.trans (hb10.mono HB9.out.size)); clear hb10))
      go_ret
      exact ⟨rfl, HB10.out⟩
end Go.Proofs.Ytlaibimdkamcfaa
