import Derived.Test.YtlaibimdkamcfaaG4
import Derived.Test.YtlaibimdkamcfaaG1
/-
  The reference's Normal and Meet.
-/
namespace Go.Proofs.Ytlaibimdkamcfaa
open Go.RowKit Go.Maps

theorem sortsErr_one (cs : List Cls) (x : List ByteArray) : sortsErr cs [x] = normErr cs x := by
  unfold sortsErr normErr
  by_cases hO : openErr cs = 0
  · rw [if_pos hO, if_pos hO]
    simp [firstErr, sortOf]
  · rw [if_neg hO, if_neg hO]

theorem sortsErr_two {cs : List Cls} {x y : List ByteArray} (h : sortsErr cs [x, y] = 0) : openErr cs = 0 ∧ x.length ≤ 20 ∧ (∀ c, c ∈ x → knownB cs c = true) ∧ y.length ≤ 20 ∧ (∀ c, c ∈ y → knownB cs c = true) := by
  unfold sortsErr at h
  by_cases hO : openErr cs = 0
  · rw [if_pos hO] at h
    have h1 := firstErr_zero.1 h
    obtain ⟨a1, a2⟩ := sortErr_zero (h1 0 (show (0 : Nat) < 2 by decide))
    obtain ⟨b1, b2⟩ := sortErr_zero (h1 1 (show (1 : Nat) < 2 by decide))
    exact ⟨hO, a1, a2, b1, b2⟩
  · rw [if_neg hO] at h
    exact absurd h hO

theorem sortsErr_pair (cs : List Cls) (x y : List ByteArray) : sortsErr cs [x, y] = if normErr cs x ≠ 0 then normErr cs x else normErr cs y := by
  unfold sortsErr normErr
  by_cases hO : openErr cs = 0
  · rw [if_pos hO, if_pos hO, if_pos hO]
    simp [firstErr, sortOf]
  · rw [if_neg hO, if_neg hO, if_pos hO]

theorem sortsAt_one {w : World} {xa : Option Addr} {x : List ByteArray} {xc b : Nat} (h : w.heap[b]? = some (.cells #[.slice xa x.length xc] 27 (0, 0))) (hx : SortAt w xa x) : SortsAt w b 0 [x] := by
  intro i hi
  have : i = 0 := by simpa using hi
  subst this
  refine ⟨(Array.getElem?_eq_some_iff.1 h).1, xa, xc, ?_, hx⟩
  rw [Lib.cell_of_heap h]; rfl

theorem sortsAt_two {w : World} {xa ya : Option Addr} {x y : List ByteArray} {xc yc b : Nat} (h : w.heap[b]? = some (.cells #[.slice xa x.length xc, .slice ya y.length yc] 27 (0, 0))) (hx : SortAt w xa x) (hy : SortAt w ya y) : SortsAt w b 0 [x, y] := by
  intro i hi
  have hi2 : i < 2 := hi
  refine ⟨(Array.getElem?_eq_some_iff.1 h).1, ?_⟩
  match i, hi2 with
  | 0, _ => exact ⟨xa, xc, by rw [Lib.cell_of_heap h]; rfl, hx⟩
  | 1, _ => exact ⟨ya, yc, by rw [Lib.cell_of_heap h]; rfl, hy⟩

set_option maxRecDepth 100000 in
set_option maxHeartbeats 1000000 in
theorem refNormal_any {nm : ByteArray} {ca ta ra oa ya qa : Option Addr} {cc tn tc rn rc on oc yn yc qn qc cb co : Nat} {cs : List Cls} {xa : Option Addr} {x : List ByteArray} {xc : Nat} (w : World)
    (hca : cs ≠ [] → ca = some ⟨cb, co, none⟩) (hcs : ClassesAt w cb co cs) (hcl : cs.length ≤ maxLen) (hx : SortAt w xa x) :
    Calls Try.prog 21 #[.agg #[.string nm, .slice ca cs.length cc, .slice ta tn tc, .slice ra rn rc, .slice oa on oc, .slice ya yn yc, .slice qa qn qc], .slice xa x.length xc] w fun e w' =>
      ((normErr cs x ≠ 0 ∧ e = .returned (.tuple #[.slice none 0 0, .int .i64 (normErr cs x)])) ∨
       (normErr cs x = 0 ∧ ∃ (v : Value) (r : List ByteArray), e = .returned (.tuple #[v, .int .i64 0]) ∧ IsNormalOf ltS (belowB cs) x r ∧ w'.ownsRow w.heap.size 9 1 v r.length (r.map Value.string))) ∧ Below w.heap.size w w' := by
  have hb0 : Below w.heap.size w (w.alloc (.cells #[.string nm, .slice ca cs.length cc, .slice ta tn tc, .slice ra rn rc, .slice oa on oc, .slice ya yn yc, .slice qa qn qc] 29)) := (Below.refl _ w).alloc (Nat.le_refl _) _
  have HTH := Lib.hid (ThyAt.mk (Thy.mk (heap_alloc_new w (.cells #[.string nm, .slice ca cs.length cc, .slice ta tn tc, .slice ra rn rc, .slice oa on oc, .slice ya yn yc, .slice qa qn qc] 29)) (hcs.later hb0)) hca hcl : ThyAt nm ca ta ra oa ya qa cc tn tc rn rc on oc yn yc qn qc cb co cs w.heap.size _)
  have HB0 := Lib.hid hb0
  have HX := Lib.hid (hx.later hb0)
  have HS1 := Lib.hid (show (w.alloc (.cells #[.string nm, .slice ca cs.length cc, .slice ta tn tc, .slice ra rn rc, .slice oa on oc, .slice ya yn yc, .slice qa qn qc] 29)).heap.size = w.heap.size + 1 by simp)
  clear hb0 hca hcs hcl hx
  go_enter Try.func21, Try.ntmps21
  go_wp2_with fail
  generalize (w.alloc (.cells #[.string nm, .slice ca cs.length cc, .slice ta tn tc, .slice ra rn rc, .slice oa on oc, .slice ya yn yc, .slice qa qn qc] 29)) = w1 at *
  obtain ⟨ga, hga⟩ : ∃ q, w.heap.size = q := ⟨_, rfl⟩
  rw [hga] at HTH HS1 ⊢
  have HGA := Lib.hid hga
  clear hga
  obtain ⟨g0, g1, g2, g3, g4, g5, g6⟩ := HTH.out.cells
  have b2 : Below w1.heap.size w1 (w1.alloc (.cells #[.slice xa x.length xc] 27)) := (Below.refl _ _).alloc (Nat.le_refl _) _
  have HT2 := Lib.hid (HTH.out.later b2)
  have HX2 := Lib.hid (HX.out.later b2)
  have HB2 := Lib.hid (HB0.out.trans (b2.mono HB0.out.size))
  have HL2 := Lib.hid (sortsAt_one (heap_alloc_new w1 (.cells #[.slice xa x.length xc] 27)) HX2.out)
  rw [HS1.out] at HL2
  clear b2
  go_wp2_with fail
  generalize (w1.alloc (.cells #[.slice xa x.length xc] 27)) = w2 at *
  refine (refSorts_any w2 HT2.out.cla HT2.out.thy.cls HT2.out.len HL2.out (show (1 : Nat) ≤ 9223372036854775807 by decide)).mono ?_
  rintro e w3 ⟨rfl, hb3⟩
  have HT3 := Lib.hid (HT2.out.later hb3)
  have HX3 := Lib.hid (HX2.out.later hb3)
  have HB3 := Lib.hid (HB2.out.trans (hb3.mono HB2.out.size))
  clear hb3 g0 g1 g2 g3 g4 g5 g6
  rw [sortsErr_one]
  obtain ⟨E, hE⟩ : ∃ E, normErr cs x = E := ⟨_, rfl⟩
  rw [hE]
  by_cases h0 : E = 0
  · subst h0
    obtain ⟨hO, hl, hk⟩ := normErr_zero hE
    have HO := Lib.hid hO
    have HK := Lib.hid hk
    have HEE := Lib.hid hE
    have HCL := Lib.hid (open_le hO)
    obtain ⟨g0, g1, g2, g3, g4, g5, g6⟩ := HT3.out.cells
    clear hO hk hE
    go_wp2_with fail
    refine (refLeast_any w3 HT3.out.cla HT3.out.thy.cls HCL.out HO.out HX3.out (by omega) HK.out).mono ?_
    rintro e w4 ⟨v, rfl, ho, hb4⟩
    have HOW := Lib.hid ho
    have HB4 := Lib.hid (HB3.out.trans (hb4.mono HB3.out.size))
    obtain ⟨a4, c4, rfl⟩ := own_slice ho
    clear ho hb4 g0 g1 g2 g3 g4 g5 g6
    obtain ⟨L, hL⟩ : ∃ L, leastFrom (belowB cs) x [] x = L := ⟨_, rfl⟩
    rw [hL] at HOW ⊢
    have HLN := Lib.hid (show IsNormalOf ltS (belowB cs) x L from by rw [← hL]; exact leastFrom_normal (belowB cs) x)
    clear hL
    go_wp2_with fail
    go_ret2
    refine ⟨.inr ⟨HEE.out, _, L, rfl, HLN.out, own_mono HOW.out ?_⟩, HB4.out⟩
    have := HB3.out.size
    have := HGA.out
    omega
  · have q1 : (E == 0) = false := by simpa using h0
    have q2 : (E != 0) = true := by simpa using h0
    have H0 := Lib.hid h0
    have HEE := Lib.hid hE
    clear h0 hE
    go_wp2_with fail
    go_ret2
    exact ⟨.inl ⟨by rw [HEE.out]; exact H0.out, by rw [HEE.out]; rfl⟩, HB3.out⟩

/-- A sort is appended to a row of strings. -/
theorem run_append_sort {w : World} {base n : Nat} {v : Value} {xs : List Value} {xa : Option Addr} {x : List ByteArray} {xc : Nat} (ty : TypeId) (hown : w.ownsRow base 9 1 v n xs) (hx : SortAt w xa x) (h : n + x.length ≤ 2000) (hb : base ≤ w.heap.size) :
    ∃ v' w', (Builtin.append_ #[27, 27] ty #[v, .slice xa x.length xc]).run Try.prog w = .ok v' w' ∧ w'.ownsRow base 9 1 v' (n + x.length) (xs ++ x.map Value.string) ∧ w.grownBy w' v.ownBlock := by
  obtain ⟨i9, hi9, hx0, hx1, hxb⟩ := info_parts Try.info9'
  obtain ⟨b, o, h1, h2, h3⟩ := hx
  cases xa with
  | none =>
    have hn : x = [] := Classical.byContradiction fun hn => by have := h1 hn; cases this
    subst hn
    exact ⟨v, w, run_append_owned_none (P := Try.prog) (w := w) base 27 ty 9 i9 1 Try.underlying27 hi9 v n xs hown, by simpa using hown, World.grownBy.refl w _⟩
  | some a =>
    obtain ⟨v', w', hr, k1, k2, _⟩ := run_append_own (P := Try.prog) w base 27 ty 9 i9 (.string ByteArray.empty) 1 16 Try.underlying27 hi9 hx0 hx1 hxb rfl (by decide) v n xs hown a x.length xc (x.map Value.string) (by simp)
      (fun j u hu => by
        have hj : j < x.length := by
          rcases Nat.lt_or_ge j x.length with hj | hj
          · exact hj
          · rw [List.getElem?_eq_none (by simpa using hj)] at hu; cases hu
        have e := h1 (by intro e; subst e; simp at hj)
        cases e
        rw [Go.WideShapes.add_plain, h2.cell j hj]
        rw [List.getElem?_map, List.getElem?_eq_getElem hj] at hu
        simpa using hu)
      (fun u hu => by
        obtain ⟨s, _, rfl⟩ := List.mem_map.1 hu
        rfl)
      (by unfold maxLen; omega) (by omega) hb
    exact ⟨v', w', hr, k1, k2⟩

set_option maxRecDepth 100000 in
set_option maxHeartbeats 2000000 in
theorem refMeet_any {nm : ByteArray} {ca ta ra oa ya qa : Option Addr} {cc tn tc rn rc on oc yn yc qn qc cb co : Nat} {cs : List Cls} {xa za : Option Addr} {x y : List ByteArray} {xc zc : Nat} (w : World)
    (hca : cs ≠ [] → ca = some ⟨cb, co, none⟩) (hcs : ClassesAt w cb co cs) (hcl : cs.length ≤ maxLen) (hx : SortAt w xa x) (hy : SortAt w za y) :
    Calls Try.prog 23 #[.agg #[.string nm, .slice ca cs.length cc, .slice ta tn tc, .slice ra rn rc, .slice oa on oc, .slice ya yn yc, .slice qa qn qc], .slice xa x.length xc, .slice za y.length zc] w fun e w' =>
      ((sortsErr cs [x, y] ≠ 0 ∧ e = .returned (.tuple #[.slice none 0 0, .int .i64 (sortsErr cs [x, y])])) ∨
       (sortsErr cs [x, y] = 0 ∧ ∃ (r : List ByteArray), IsNormalOf ltS (belowB cs) (x ++ y) r ∧
         ((20 < r.length ∧ e = .returned (.tuple #[.slice none 0 0, .int .i64 5])) ∨ (r.length ≤ 20 ∧ ∃ v, e = .returned (.tuple #[v, .int .i64 0]) ∧ w'.ownsRow w.heap.size 9 1 v r.length (r.map Value.string))))) ∧ Below w.heap.size w w' := by
  have hb0 : Below w.heap.size w (w.alloc (.cells #[.string nm, .slice ca cs.length cc, .slice ta tn tc, .slice ra rn rc, .slice oa on oc, .slice ya yn yc, .slice qa qn qc] 29)) := (Below.refl _ w).alloc (Nat.le_refl _) _
  have HTH := Lib.hid (ThyAt.mk (Thy.mk (heap_alloc_new w (.cells #[.string nm, .slice ca cs.length cc, .slice ta tn tc, .slice ra rn rc, .slice oa on oc, .slice ya yn yc, .slice qa qn qc] 29)) (hcs.later hb0)) hca hcl : ThyAt nm ca ta ra oa ya qa cc tn tc rn rc on oc yn yc qn qc cb co cs w.heap.size _)
  have HB0 := Lib.hid hb0
  have HX := Lib.hid (hx.later hb0)
  have HY := Lib.hid (hy.later hb0)
  have HS1 := Lib.hid (show (w.alloc (.cells #[.string nm, .slice ca cs.length cc, .slice ta tn tc, .slice ra rn rc, .slice oa on oc, .slice ya yn yc, .slice qa qn qc] 29)).heap.size = w.heap.size + 1 by simp)
  clear hb0 hca hcs hcl hx hy
  go_enter Try.func23, Try.ntmps23
  go_wp2_with fail
  generalize (w.alloc (.cells #[.string nm, .slice ca cs.length cc, .slice ta tn tc, .slice ra rn rc, .slice oa on oc, .slice ya yn yc, .slice qa qn qc] 29)) = w1 at *
  obtain ⟨ga, hga⟩ : ∃ q, w.heap.size = q := ⟨_, rfl⟩
  rw [hga] at HTH HS1 ⊢
  have HGA := Lib.hid hga
  clear hga
  obtain ⟨g0, g1, g2, g3, g4, g5, g6⟩ := HTH.out.cells
  have b2 : Below w1.heap.size w1 (w1.alloc (.cells #[.slice xa x.length xc, .slice za y.length zc] 27)) := (Below.refl _ _).alloc (Nat.le_refl _) _
  have HT2 := Lib.hid (HTH.out.later b2)
  have HX2 := Lib.hid (HX.out.later b2)
  have HY2 := Lib.hid (HY.out.later b2)
  have HB2 := Lib.hid (HB0.out.trans (b2.mono HB0.out.size))
  have HL2 := Lib.hid (sortsAt_two (heap_alloc_new w1 (.cells #[.slice xa x.length xc, .slice za y.length zc] 27)) HX2.out HY2.out)
  rw [HS1.out] at HL2
  clear b2
  go_wp2_with fail
  generalize (w1.alloc (.cells #[.slice xa x.length xc, .slice za y.length zc] 27)) = w2 at *
  refine (refSorts_any w2 HT2.out.cla HT2.out.thy.cls HT2.out.len HL2.out (show (2 : Nat) ≤ 9223372036854775807 by decide)).mono ?_
  rintro e w3 ⟨rfl, hb3⟩
  have HT3 := Lib.hid (HT2.out.later hb3)
  have HX3 := Lib.hid (HX2.out.later hb3)
  have HY3 := Lib.hid (HY2.out.later hb3)
  have HB3 := Lib.hid (HB2.out.trans (hb3.mono HB2.out.size))
  clear hb3 g0 g1 g2 g3 g4 g5 g6
  obtain ⟨E, hE⟩ : ∃ E, sortsErr cs [x, y] = E := ⟨_, rfl⟩
  have HEE := Lib.hid hE
  rw [hE]
  clear hE
  by_cases h0 : E = 0
  · subst h0
    obtain ⟨hO, hlx, hkx, hly, hky⟩ := sortsErr_two HEE.out
    have HO := Lib.hid hO
    have HKX := Lib.hid hkx
    have HKY := Lib.hid hky
    have HCL := Lib.hid (open_le hO)
    obtain ⟨g0, g1, g2, g3, g4, g5, g6⟩ := HT3.out.cells
    clear hO hkx hky
    have hb4 : Below w3.heap.size w3 (w3.drew.alloc (.cells #[] 9)) := ((Below.refl w3.heap.size w3).drew).alloc (Nat.le_refl _) _
    have ho4 : (w3.drew.alloc (.cells #[] 9)).ownsRow w3.heap.size 9 1 (.slice (some ⟨w3.heap.size, 0, none⟩) 0 0) 0 [] := World.ownsRow_made w3.drew #[] 0 (Nat.le_refl _) (Nat.zero_le _) rfl
    obtain ⟨v5, w5, hr5, ho5, hg5⟩ := run_append_sort (xc := xc) 27 ho4 (HX3.out.later hb4) (by omega) hb4.size
    have hb5 : Below w3.heap.size w3 w5 := hb4.grown hg5 hb4.size (fun k e => (ho4.lt k e).1)
    obtain ⟨v6, w6, hr6, ho6, hg6⟩ := run_append_sort (xc := zc) 27 ho5 (HY3.out.later hb5) (by omega) hb5.size
    have hb6 : Below w3.heap.size w3 w6 := hb5.grown hg6 hb5.size (fun k e => (ho5.lt k e).1)
    rw [List.nil_append, ← List.map_append, Nat.zero_add, ← List.length_append] at ho6
    have hk : ∀ c, c ∈ x ++ y → knownB cs c = true := fun c hc => by
      rcases List.mem_append.1 hc with h | h
      · exact HKX.out c h
      · exact HKY.out c h
    have hz : ∀ c, c ∈ x ++ y → c.size ≤ maxLen := fun c hc => by
      rcases List.mem_append.1 hc with h | h
      · exact HX3.out.size c h
      · exact HY3.out.size c h
    have hl40 : (x ++ y).length ≤ 40 := by rw [List.length_append]; omega
    obtain ⟨xy, hxy⟩ : ∃ l, x ++ y = l := ⟨_, rfl⟩
    rw [hxy] at ho6 hk hz hl40
    obtain ⟨a6, c6, rfl, hs6⟩ := sortAt_own ho6 hz (by omega)
    have HXY := Lib.hid hxy
    have HK := Lib.hid hk
    have HS6 := Lib.hid hs6
    have HR5 := Lib.hid hr5
    have HR6 := Lib.hid hr6
    have HT4 := Lib.hid (HT3.out.later hb4)
    have HT5 := Lib.hid (HT3.out.later hb5)
    have HT6 := Lib.hid (HT3.out.later hb6)
    have HB6 := Lib.hid (HB3.out.trans (hb6.mono HB3.out.size))
    obtain ⟨j0, j1, j2, j3, j4, j5, j6⟩ := HT4.out.cells
    obtain ⟨k0, k1, k2, k3, k4, k5, k6⟩ := HT5.out.cells
    obtain ⟨l0, l1, l2, l3, l4, l5, l6⟩ := HT6.out.cells
    have i0 : w3.drew.cell? ⟨ga, 0, none⟩ = _ := g0
    have i1 : w3.drew.cell? ⟨ga, 1, none⟩ = _ := g1
    have i2 : w3.drew.cell? ⟨ga, 2, none⟩ = _ := g2
    have i3 : w3.drew.cell? ⟨ga, 3, none⟩ = _ := g3
    have i4 : w3.drew.cell? ⟨ga, 4, none⟩ = _ := g4
    have i5 : w3.drew.cell? ⟨ga, 5, none⟩ = _ := g5
    have i6 : w3.drew.cell? ⟨ga, 6, none⟩ = _ := g6
    clear hxy hk hz hs6 hr5 hr6 hb4 hb5 hb6 ho4 ho5 ho6 hg5 hg6
    go_wp2_with fail
    go_region_held3 (fun W => W.cell? ⟨ga, 0, none⟩ = some (.string nm) ∧ W.cell? ⟨ga, 1, none⟩ = some (.slice ca cs.length cc) ∧ W.cell? ⟨ga, 2, none⟩ = some (.slice ta tn tc) ∧ W.cell? ⟨ga, 3, none⟩ = some (.slice ra rn rc) ∧ W.cell? ⟨ga, 4, none⟩ = some (.slice oa on oc) ∧ W.cell? ⟨ga, 5, none⟩ = some (.slice ya yn yc) ∧ W.cell? ⟨ga, 6, none⟩ = some (.slice qa qn qc))
      (refine ⟨?_, ?_, ?_, ?_, ?_, ?_, ?_⟩ <;> first | assumption | exact j0 | exact j1 | exact j2 | exact j3 | exact j4 | exact j5 | exact j6)
      ((first
        | (rw [if_pos (by rfl)]; refine Lib.wp_append_run _ _ _ _ _ rfl _ _ rfl rfl _ _ HR6.out ?_)
        | (rw [if_pos (by rfl)]; refine Lib.wp_append_run _ _ _ _ _ rfl _ _ rfl rfl _ _ HR5.out ?_)
        | (go_at_call 52
           refine (refLeast_any w6 HT6.out.cla HT6.out.thy.cls HCL.out HO.out HS6.out (by omega) HK.out).mono ?_
           rintro e w7 ⟨v7, rfl, ho7, hb7⟩
           have HOW := Lib.hid ho7
           have HB7 := Lib.hid (HB6.out.trans (hb7.mono HB6.out.size))
           obtain ⟨a7, c7, rfl⟩ := own_slice ho7
           obtain ⟨m0, m1, m2, m3, m4, m5, m6⟩ := (HT6.out.later hb7).cells
           clear ho7 hb7)))
    have HLN := Lib.hid (leastFrom_normal (belowB cs) xy)
    obtain ⟨L, hL⟩ : ∃ L, leastFrom (belowB cs) xy [] xy = L := ⟨_, rfl⟩
    rw [hL] at HLN HOW ⊢
    clear hL
    have hL40 : L.length ≤ 40 := Nat.le_trans HLN.out.len hl40
    have HW6 := Lib.hid HB6.out.size
    by_cases h20 : 20 < L.length
    · go_wp2_with fail
      go_ret2
      exact ⟨.inr ⟨HEE.out, L, by rw [HXY.out]; exact HLN.out, .inl ⟨h20, rfl⟩⟩, HB7.out⟩
    · go_wp2_with fail
      go_ret2
      exact ⟨.inr ⟨HEE.out, L, by rw [HXY.out]; exact HLN.out, .inr ⟨by omega, _, rfl, own_mono HOW.out HW6.out⟩⟩, HB7.out⟩
  · have q1 : (E == 0) = false := by simpa using h0
    have q2 : (E != 0) = true := by simpa using h0
    have H0 := Lib.hid h0
    clear h0
    go_wp2_with fail
    go_ret2
    exact ⟨.inl ⟨by rw [HEE.out]; exact H0.out, by rw [HEE.out]; rfl⟩, HB3.out⟩
end Go.Proofs.Ytlaibimdkamcfaa
