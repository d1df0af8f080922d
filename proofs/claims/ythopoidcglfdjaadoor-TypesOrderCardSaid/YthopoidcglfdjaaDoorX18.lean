/-
  The reader: the type of functions, whole.
-/
import Derived.Test.YthopoidcglfdjaaDoorX17
import Derived.Deep.RegionLaw
import Derived.Deep.AppendLies
import Derived.StillTailTactics
namespace Go.Proofs.YthopoidcglfdjaaDoor
open Go.RowKit

theorem info25 : (Tryd.prog.info? 25).map (fun i => (i.zero, i.size, i.bytes)) = some (some (.agg #[.int .i64 0, .string ⟨#[]⟩, .int .i64 0, .slice none 0 0, .slice none 0 0]), 5, 80) := by kernel_rfl

/-- The region goes on, and nothing else. -/
def Nrm (R : Act → World → Prop) : Exit → Act → World → Prop
  | .normal, a, w => R a w
  | _, _, _ => False
/-- Rows of different types lie apart. -/
theorem own_ne {B B' e e' n n' k k' : Nat} {w : World} {v v' : Value} {xs xs' : List Value} (h : w.ownsRow B e k v n xs) (h' : w.ownsRow B' e' k' v' n' xs') (he : e ≠ e') : v.ownBlock = none ∨ v.ownBlock ≠ v'.ownBlock := by
  rcases h.2 with ⟨rfl, _⟩ | ⟨g, cap, cur, rfl, _, hg, _⟩
  · exact .inl rfl
  · refine .inr ?_
    rcases h'.2 with ⟨rfl, _⟩ | ⟨g', cap', cur', rfl, _, hg', _⟩
    · simp [Value.ownBlock]
    · intro e
      simp only [Value.ownBlock, Option.some.injEq] at e
      subst e
      rw [hg] at hg'
      simp only [Option.some.injEq, Obj.cells.injEq] at hg'
      exact he hg'.2.1
theorem own_cell {B e n k g cap : Nat} {w : World} {xs : List Value} (h : w.ownsRow B e k (.slice (some ⟨g, 0, none⟩) n cap) n xs) (j : Nat) (x : Value) (hx : xs[j]? = some x) : w.cell? ⟨g, j, none⟩ = some x := by
  rcases h.2 with ⟨h, _⟩ | ⟨g', cap', cur, h, _, hg, _, _, _, ht⟩
  · cases h
  · simp only [Value.slice.injEq, Option.some.injEq, Addr.mk.injEq, and_true, true_and] at h
    obtain ⟨rfl, _⟩ := h
    rw [Lib.cell_of_heap hg]
    rw [← ht, List.getElem?_take] at hx
    split at hx
    · simpa using hx
    · cases hx
theorem own_lt2 {B e n k g cap : Nat} {w : World} {xs : List Value} (h : w.ownsRow B e k (.slice (some ⟨g, 0, none⟩) n cap) n xs) : g < w.heap.size := (h.lt g rfl).2
theorem strs_own {B : Nat} {w : World} {v : Value} {s : ByteArray} (h : w.ownsRow B 9 1 v 1 [.string s]) (hs : s.size ≤ 9223372036854775807) : HasStrs w.heap.size w v [s] := hs_own h hs
/-- What was read, as a type. -/
theorem funTy {B gb cap2 : Nat} {sa : Option Addr} {sc : Nat} {w : World} (h : w.ownsRow B 25 5 (.slice (some ⟨gb, 0, none⟩) 2 cap2) 2 [Value.int IntKind.i64 3, Value.string ⟨#[97]⟩, Value.int IntKind.i64 0, Value.slice sa 1 sc, Value.slice none 0 0, Value.int IntKind.i64 1, Value.string ⟨#[112, 114, 111, 112]⟩, Value.int IntKind.i64 0, Value.slice none 0 0, Value.slice none 0 0]) (hs : w.ownsRow B 9 1 (.slice sa 1 sc) 1 [.string ⟨#[99]⟩]) :
    HasTy w.heap.size w (.agg #[.int .i64 1, .string ⟨#[102, 117, 110]⟩, .int .i64 0, .slice none 0 0, .slice (some ⟨gb, 0, none⟩) 2 cap2]) tyFun := by
  have c := fun j x hx => own_cell h j x hx
  have lt := own_lt2 h
  refine ⟨.slice none 0 0, some ⟨gb, 0, none⟩, cap2, gb, 0, rfl, by decide, by decide, by decide, hasStrs_nil _ _, by decide, fun _ => ⟨rfl, lt⟩, fun i hi => ?_⟩
  have hi2 : i < 2 := hi
  match i with
  | 0 =>
    exact .mk gb 0 3 0 ⟨#[97]⟩ [⟨#[99]⟩] [] (.slice sa 1 sc) none 0 0 0 lt (c 0 _ rfl) (c 1 _ rfl) (c 2 _ rfl) (c 3 _ rfl) (c 4 _ rfl) (by decide) (by decide) (by decide) (strs_own hs (by decide)) (by decide) (fun h => absurd rfl h) (fun i hi => by simp at hi)
  | 1 =>
    exact .mk gb 5 1 0 ⟨#[112, 114, 111, 112]⟩ [] [] (.slice none 0 0) none 0 0 0 lt (c 5 _ rfl) (c 6 _ rfl) (c 7 _ rfl) (c 8 _ rfl) (c 9 _ rfl) (by decide) (by decide) (by decide) (hasStrs_nil _ _) (by decide) (fun h => absurd rfl h) (fun i hi => by simp at hi)
theorem own_lt {B e n k g cap : Nat} {w : World} {xs : List Value} (h : w.ownsRow B e k (.slice (some ⟨g, 0, none⟩) n cap) n xs) : B ≤ g ∧ g < w.heap.size := h.lt g rfl

set_option maxRecDepth 100000 in
set_option maxHeartbeats 4000000 in
theorem typ_fun (rb : Nat) (w : World) (h : RAt rb sF w) :
    Calls Tryd.prog 39 #[.pointer (some ⟨rb, 0, none⟩), .int .i64 1] w fun e w' => ∃ gb cap2 sa sc, e = .returned (.agg #[.int .i64 1, .string ⟨#[102, 117, 110]⟩, .int .i64 0, .slice none 0 0, .slice (some ⟨gb, 0, none⟩) 2 cap2]) ∧ w'.ownsRow w.heap.size 25 5 (.slice (some ⟨gb, 0, none⟩) 2 cap2) 2 [Value.int IntKind.i64 3, Value.string ⟨#[97]⟩, Value.int IntKind.i64 0, Value.slice sa 1 sc, Value.slice none 0 0, Value.int IntKind.i64 1, Value.string ⟨#[112, 114, 111, 112]⟩, Value.int IntKind.i64 0, Value.slice none 0 0, Value.slice none 0 0] ∧ w'.ownsRow w.heap.size 9 1 (.slice sa 1 sc) 1 [.string ⟨#[99]⟩] ∧ RAt rb ⟨#[]⟩ w' ∧ But w.heap.size rb w w' := by
  have hlt := h.2.2
  have N0 := Lib.hid fun W (hr : RAt rb sF W) => head_con rb sF ⟨#[102, 117, 110]⟩ sF1 W hr (by decide) (by decide) (by decide) (by decide) splitWord_fun
  have N1 := Lib.hid fun W (hr : RAt rb sF1 W) => next_any rb sF1 ⟨#[123]⟩ sF1 false W hr (by decide) (by decide)
  have N2 := Lib.hid fun W (hr : RAt rb sF1 W) => next_any rb sF1 ⟨#[40]⟩ sA true W hr (by decide) (by decide)
  have T1 := Lib.hid fun W (hr : RAt rb sA W) => typ_a rb W hr
  have N3 := Lib.hid fun W (hr : RAt rb sA4 W) => next_any rb sA4 ⟨#[41]⟩ sA4 false W hr (by decide) (by decide)
  have N4 := Lib.hid fun W (hr : RAt rb sA4 W) => want_any rb sA4 ⟨#[44, 32]⟩ sP W hr (by decide) (by decide)
  have T2 := Lib.hid fun W (hr : RAt rb sP W) => typ_prop rb W hr
  have N5 := Lib.hid fun W (hr : RAt rb sP1 W) => next_any rb sP1 ⟨#[41]⟩ ⟨#[]⟩ true W hr (by decide) (by decide)
  obtain ⟨i0, hi, hz0, hz1, hz2⟩ := info_parts info25
  have hse : sF.toList.isEmpty = false := by rw [ByteArray.toList_eq]; decide
  have b1 : Below w.heap.size w (w.alloc (.cells #[.int .i64 0, .string ⟨#[]⟩, .int .i64 0, .slice none 0 0, .slice none 0 0] 25)) := (Below.refl _ w).alloc (Nat.le_refl _) _
  have r1 := h.below b1 hlt
  have R1 := Lib.hid r1
  have s1 : (w.alloc (.cells #[.int .i64 0, .string ⟨#[]⟩, .int .i64 0, .slice none 0 0, .slice none 0 0] 25)).heap.size = w.heap.size + 1 := by simp
  have K1 := Lib.hid (But.of (rb := rb) b1)
  obtain ⟨rc, rf, _⟩ := r1
  have X1 := Lib.hid (Box.new w (.int .i64 0) (.string ⟨#[]⟩) (.int .i64 0) (.slice none 0 0) (.slice none 0 0))
  clear h b1
  go_enter Tryd.func39, Tryd.ntmps39
  go_wp2_with fail
  generalize w.alloc (.cells #[.int .i64 0, .string ⟨#[]⟩, .int .i64 0, .slice none 0 0, .slice none 0 0] 25) = w1 at *
  refine (N0.out _ R1.out).mono ?_
  rintro e w2 ⟨rfl, r2, k2⟩
  have X2 := Lib.hid (X1.out.but k2 X1.out.lt (by omega))
  have K2 := Lib.hid (K1.out.trans (k2.mono K1.out.size))
  have z2 := K2.out.size
  have z2' := k2.size
  have lt2 := r2.2.2
  clear k2
  have b3 : Below w2.heap.size w2 (w2.alloc (.cells #[.int .i64 1, .string ⟨#[102, 117, 110]⟩, .int .i64 0, .slice none 0 0, .slice none 0 0] 25)) := (Below.refl _ w2).alloc (Nat.le_refl _) _
  have Y3 := Lib.hid (Box.new w2 (.int .i64 1) (.string ⟨#[102, 117, 110]⟩) (.int .i64 0) (.slice none 0 0) (.slice none 0 0))
  have s3 : (w2.alloc (.cells #[.int .i64 1, .string ⟨#[102, 117, 110]⟩, .int .i64 0, .slice none 0 0, .slice none 0 0] 25)).heap.size = w2.heap.size + 1 := by simp
  have X3 := Lib.hid (X2.out.below b3 X2.out.lt)
  have K3 := Lib.hid (K2.out.trans (But.of (b3.mono z2)))
  have R3 := Lib.hid (r2.below b3 r2.2.2)
  clear b3 r2 rc rf
  go_wp2_with fail
  generalize w2.alloc (.cells #[.int .i64 1, .string ⟨#[102, 117, 110]⟩, .int .i64 0, .slice none 0 0, .slice none 0 0] 25) = w3 at *
  refine (N1.out _ R3.out).mono ?_
  rintro e w4 ⟨rfl, r4, k4⟩
  have X4 := Lib.hid (X3.out.but k4 X3.out.lt (by omega))
  have Y4 := Lib.hid (Y3.out.but k4 Y3.out.lt (by omega))
  have K4 := Lib.hid (K3.out.trans (k4.mono K3.out.size))
  have R4 := Lib.hid r4
  have z4 := k4.size
  clear r4
  clear k4
  go_wp2_with fail
  refine (N2.out _ R4.out).mono ?_
  rintro e w5 ⟨rfl, r5, k5⟩
  have X5 := Lib.hid (X4.out.but k5 X4.out.lt (by omega))
  have Y5 := Lib.hid (Y4.out.but k5 Y4.out.lt (by omega))
  have K5 := Lib.hid (K4.out.trans (k5.mono K4.out.size))
  have R5 := Lib.hid r5
  have z5 := k5.size
  clear r5
  clear k5
  have yq0 := Y5.out.c0
  have yg0 := Y5.out.fr 0
  have yq1 := Y5.out.c1
  have yg1 := Y5.out.fr 1
  have yq2 := Y5.out.c2
  have yg2 := Y5.out.fr 2
  have yq3 := Y5.out.c3
  have yg3 := Y5.out.fr 3
  have yq4 := Y5.out.c4
  have yg4 := Y5.out.fr 4
  have hxy : w.heap.size ≠ w2.heap.size := by omega
  go_wp2_with fail
  refine wp_loop_rounds 2 ?_
  rw [rounds_succ]
  go_wp2_with fail
  have R5d : RAt rb sA w5.drew := R5.out
  have Y5d := Lib.hid (show Box w2.heap.size (.int .i64 1) (.string ⟨#[102, 117, 110]⟩) (.int .i64 0) (.slice none 0 0) (.slice none 0 0) w5.drew from Y5.out)
  have X5d := Lib.hid (show Box w.heap.size (.int .i64 0) (.string ⟨#[]⟩) (.int .i64 0) (.slice none 0 0) (.slice none 0 0) w5.drew from X5.out)
  have K5d := Lib.hid (show But w.heap.size rb w w5.drew from K5.out.trans (But.of (below_drewN (Below.refl _ _) 1)))
  have TT := T1.out w5.drew R5d
  have z5d : w5.drew.heap.size = w5.heap.size := rfl
  refine Code.wp_mono (Q := Nrm fun a W => ∃ ga cap sa sc h6, a = { tmps := #[Value.pointer (some ⟨rb, 0, none⟩), Value.int IntKind.i64 1, undef, undef, Value.pointer (some ⟨w.heap.size, 0, none⟩), Value.pointer (some ⟨w2.heap.size, 0, none⟩), Value.pointer (some ⟨rb, 0, none⟩), Value.pointer (some ⟨rb, 0, none⟩), Value.pointer (some ⟨rb, 0, none⟩), Value.string sF, Value.bool false, Value.bool false, Value.int IntKind.i64 1, Value.bool false, Value.bool false, undef, Value.pointer (some ⟨rb, 0, none⟩), Value.agg #[Value.int IntKind.i64 1, Value.string ⟨#[102, 117, 110]⟩, Value.int IntKind.i64 0, Value.slice none 0 0, Value.slice none 0 0], Value.pointer (some ⟨rb, 0, none⟩), Value.bool false, undef, undef, undef, Value.pointer (some ⟨rb, 0, none⟩), Value.bool true, Value.bool false, undef, Value.pointer (some ⟨w2.heap.size, 4, none⟩), Value.slice none 0 0, Value.pointer (some ⟨rb, 0, none⟩), Value.int IntKind.i64 1, Value.int IntKind.i64 2, Value.agg #[Value.int IntKind.i64 3, Value.string ⟨#[97]⟩, Value.int IntKind.i64 0, Value.slice sa 1 sc, Value.slice none 0 0], Value.slice (some ⟨h6, 0, none⟩) 1 1, Value.slice (some ⟨ga, 0, none⟩) 1 cap, Value.pointer (some ⟨w2.heap.size, 4, none⟩), undef, undef, undef, undef, undef], defers := [] } ∧
    Box w.heap.size (.int .i64 0) (.string ⟨#[]⟩) (.int .i64 0) (.slice none 0 0) (.slice none 0 0) W ∧ Box w2.heap.size (.int .i64 1) (.string ⟨#[102, 117, 110]⟩) (.int .i64 0) (.slice none 0 0) (.slice (some ⟨ga, 0, none⟩) 1 cap) W ∧
    RAt rb sA4 W ∧ But w.heap.size rb w W ∧ W.ownsRow (w2.heap.size + 1) 25 5 (.slice (some ⟨ga, 0, none⟩) 1 cap) 1 [Value.int IntKind.i64 3, Value.string ⟨#[97]⟩, Value.int IntKind.i64 0, Value.slice sa 1 sc, Value.slice none 0 0] ∧ W.ownsRow (w2.heap.size + 1) 9 1 (.slice sa 1 sc) 1 [.string ⟨#[99]⟩]) ?rest ?reg
  case reg =>
    go_region_law
      ((first
        | (go_simp
           go_at_call 39
           refine TT.mono ?_
           rintro e w6 ⟨vs, rfl, o6, r6, k6⟩
           obtain ⟨sa, sc, rfl⟩ := own_form o6
           have Y6 := Lib.hid (Y5d.out.but k6 Y5d.out.lt (by omega))
           have yq4' := Y6.out.c4
           have z6 := k6.size
           have yq4a := (Y6.out.below ((Below.refl w6.heap.size w6).alloc (Nat.le_refl _) (.cells #[.int .i64 3, .string ⟨#[97]⟩, .int .i64 0, .slice sa 1 sc, .slice none 0 0] 25)) Y6.out.lt).c4)
        | (have _hw6 : w6 = w6 := rfl
           refine step_append_lies _ (by rfl) _ _ _ (by rfl) (w2.heap.size + 1) 25 i0 _ 5 80 Tryd.underlying23 hi hz0 hz1 hz2 rfl (by omega) (.slice none 0 0) 0 [] (by rfl) (World.ownsRow_nil _ _ _ _)
             ⟨w6.heap.size, 0, none⟩ 1 1 [.int .i64 3, .string ⟨#[97]⟩, .int .i64 0, .slice sa 1 sc, .slice none 0 0] (by rfl) (by rfl) (World.news_of_block (heap_alloc_new w6 _)) (by simp [Value.oneCell'])
             (by omega) (by unfold maxLen; omega) (by omega) (by simp; omega) (w6.heap.size + 1) (by simp) ?_
           intro ga cap w8 hown1 hgrow hat hlt8
           have b8 := ((Below.refl w6.heap.size w6).alloc (Nat.le_refl _) (.cells #[.int .i64 3, .string ⟨#[97]⟩, .int .i64 0, .slice sa 1 sc, .slice none 0 0] 25)).grown hgrow (by simp) (fun k e => by cases e)
           have O8 := Lib.hid ((own_mono (B' := w2.heap.size + 1) o6 (by omega)).alloc (.cells #[.int .i64 3, .string ⟨#[97]⟩, .int .i64 0, .slice sa 1 sc, .slice none 0 0] 25) |>.kept hgrow (by cases sa <;> simp [Value.ownBlock]))
           have Y8 := Lib.hid (Y6.out.below b8 Y6.out.lt)
           have yq4'' := Y8.out.c4
           have yg4'' := Y8.out.fr 4)))
    all_goals
      refine ⟨ga, cap, sa, sc, w6.heap.size, rfl, ?_, Y8.out.put4 _, ?_, ?_, ?_, ?_⟩
      · exact ((X5d.out.but k6 X5d.out.lt (by omega)).below b8 (by have := X5d.out.lt; omega)).setFar (p := ⟨w2.heap.size, 4, none⟩) hxy _
      · exact (r6.below b8 r6.2.2).setFar (p := ⟨w2.heap.size, 4, none⟩) (by show rb ≠ w2.heap.size; omega) _
      · exact ((K5d.out.trans (k6.mono (by have := K5d.out.size; omega))).trans (But.of (b8.mono (by have := K5d.out.size; omega)))).setCell ⟨w2.heap.size, 4, none⟩ z2 _
      · exact own_set hown1 ⟨w2.heap.size, 4, none⟩ _ (by show w2.heap.size < w2.heap.size + 1; omega)
      · exact own_set O8.out ⟨w2.heap.size, 4, none⟩ _ (by show w2.heap.size < w2.heap.size + 1; omega)
  case rest =>
    intro e a W hR
    cases e <;> first | exact (show False from hR).elim | skip
    obtain ⟨ga, cap, sa, sc, h6, rfl, x9, y9, r9, k9, o9, s9⟩ := hR
    have X9 := Lib.hid x9
    have Y9 := Lib.hid y9
    have R9 := Lib.hid r9
    have K9 := Lib.hid k9
    have O9 := Lib.hid o9
    have S9 := Lib.hid s9
    have zw := k9.size
    have zY := y9.lt
    clear x9 y9 r9 k9 o9 s9 yq0 yq1 yq2 yq3 yq4 yg0 yg1 yg2 yg3 yg4
    have hrbY : rb < w2.heap.size + 1 := by omega
    go_wp2_with fail
    refine (N3.out _ R9.out).mono ?_
    rintro e w10 ⟨rfl, r10, k10⟩
    have X10 := Lib.hid (X9.out.but k10 X9.out.lt (by omega))
    have Y10 := Lib.hid (Y9.out.but k10 Y9.out.lt (by omega))
    have K10 := Lib.hid (K9.out.trans (k10.mono K9.out.size))
    have O10 := Lib.hid (own_but O9.out k10 hrbY)
    have S10 := Lib.hid (own_but S9.out k10 hrbY)
    have R10 := Lib.hid r10
    have z10 := k10.size
    clear r10 k10
    go_wp2_with fail
    refine (N4.out _ R10.out).mono ?_
    rintro e w11 ⟨rfl, r11, k11⟩
    have X11 := Lib.hid (X10.out.but k11 X10.out.lt (by omega))
    have Y11 := Lib.hid (Y10.out.but k11 Y10.out.lt (by omega))
    have K11 := Lib.hid (K10.out.trans (k11.mono K10.out.size))
    have O11 := Lib.hid (own_but O10.out k11 hrbY)
    have S11 := Lib.hid (own_but S10.out k11 hrbY)
    have R11 := Lib.hid r11
    have z11 := k11.size
    clear r11 k11
    go_wp2_with fail
    rw [rounds_succ]
    go_wp2_with fail
    have R11d : RAt rb sP w11.drew := R11.out
    have Y11d := Lib.hid (show Box w2.heap.size (.int .i64 1) (.string ⟨#[102, 117, 110]⟩) (.int .i64 0) (.slice none 0 0) (.slice (some ⟨ga, 0, none⟩) 1 cap) w11.drew from Y11.out)
    have yq4 := Y11d.out.c4
    have X11d := Lib.hid (show Box w.heap.size (.int .i64 0) (.string ⟨#[]⟩) (.int .i64 0) (.slice none 0 0) (.slice none 0 0) w11.drew from X11.out)
    have K11d := Lib.hid (show But w.heap.size rb w w11.drew from K11.out.trans (But.of (below_drewN (Below.refl _ _) 1)))
    have O11d := Lib.hid (show w11.drew.ownsRow (w2.heap.size + 1) 25 5 (.slice (some ⟨ga, 0, none⟩) 1 cap) 1 [Value.int IntKind.i64 3, Value.string ⟨#[97]⟩, Value.int IntKind.i64 0, Value.slice sa 1 sc, Value.slice none 0 0] from O11.out)
    have S11d := Lib.hid (show w11.drew.ownsRow (w2.heap.size + 1) 9 1 (.slice sa 1 sc) 1 [.string ⟨#[99]⟩] from S11.out)
    have hga := own_lt O11d.out
    have TP := T2.out w11.drew R11d
    have z11d : w11.drew.heap.size = w11.heap.size := rfl
    refine Code.wp_mono (Q := Nrm fun a W => ∃ gb cap2 h7, a = { tmps := #[Value.pointer (some ⟨rb, 0, none⟩), Value.int IntKind.i64 1, undef, undef, Value.pointer (some ⟨w.heap.size, 0, none⟩), Value.pointer (some ⟨w2.heap.size, 0, none⟩), Value.pointer (some ⟨rb, 0, none⟩), Value.pointer (some ⟨rb, 0, none⟩), Value.pointer (some ⟨rb, 0, none⟩), Value.string sF, Value.bool false, Value.bool false, Value.int IntKind.i64 1, Value.bool false, Value.bool false, undef, Value.pointer (some ⟨rb, 0, none⟩), Value.agg #[Value.int IntKind.i64 1, Value.string ⟨#[102, 117, 110]⟩, Value.int IntKind.i64 0, Value.slice none 0 0, Value.slice none 0 0], Value.pointer (some ⟨rb, 0, none⟩), Value.bool false, undef, undef, undef, Value.pointer (some ⟨rb, 0, none⟩), Value.bool true, Value.bool false, undef, Value.pointer (some ⟨w2.heap.size, 4, none⟩), Value.slice (some ⟨ga, 0, none⟩) 1 cap, Value.pointer (some ⟨rb, 0, none⟩), Value.int IntKind.i64 1, Value.int IntKind.i64 2, Value.agg #[Value.int IntKind.i64 1, Value.string ⟨#[112, 114, 111, 112]⟩, Value.int IntKind.i64 0, Value.slice none 0 0, Value.slice none 0 0], Value.slice (some ⟨h7, 0, none⟩) 1 1, Value.slice (some ⟨gb, 0, none⟩) 2 cap2, Value.pointer (some ⟨w2.heap.size, 4, none⟩), Value.pointer (some ⟨rb, 0, none⟩), Value.bool false, undef, Value.pointer (some ⟨rb, 0, none⟩), Value.tuple #[]], defers := [] } ∧
      Box w.heap.size (.int .i64 0) (.string ⟨#[]⟩) (.int .i64 0) (.slice none 0 0) (.slice none 0 0) W ∧ Box w2.heap.size (.int .i64 1) (.string ⟨#[102, 117, 110]⟩) (.int .i64 0) (.slice none 0 0) (.slice (some ⟨gb, 0, none⟩) 2 cap2) W ∧
      RAt rb sP1 W ∧ But w.heap.size rb w W ∧ W.ownsRow (w2.heap.size + 1) 25 5 (.slice (some ⟨gb, 0, none⟩) 2 cap2) 2 [Value.int IntKind.i64 3, Value.string ⟨#[97]⟩, Value.int IntKind.i64 0, Value.slice sa 1 sc, Value.slice none 0 0, Value.int IntKind.i64 1, Value.string ⟨#[112, 114, 111, 112]⟩, Value.int IntKind.i64 0, Value.slice none 0 0, Value.slice none 0 0] ∧ W.ownsRow (w2.heap.size + 1) 9 1 (.slice sa 1 sc) 1 [.string ⟨#[99]⟩]) ?rest2 ?reg2
    case reg2 =>
      go_region_law
        ((first
          | (go_simp
             go_at_call 39
             refine TP.mono ?_
             rintro e w12 ⟨rfl, r12, k12⟩
             have Y12 := Lib.hid (Y11d.out.but k12 Y11d.out.lt (by omega))
             have yq4' := Y12.out.c4
             have z12 := k12.size
             have yq4a := (Y12.out.below ((Below.refl w12.heap.size w12).alloc (Nat.le_refl _) (.cells #[.int .i64 1, .string ⟨#[112, 114, 111, 112]⟩, .int .i64 0, .slice none 0 0, .slice none 0 0] 25)) Y12.out.lt).c4)
          | (have _hw6 : w12 = w12 := rfl
             refine step_append_lies _ (by rfl) _ _ _ (by rfl) (w2.heap.size + 1) 25 i0 _ 5 80 Tryd.underlying23 hi hz0 hz1 hz2 rfl (by omega) (.slice (some ⟨ga, 0, none⟩) 1 cap) 1 [Value.int IntKind.i64 3, Value.string ⟨#[97]⟩, Value.int IntKind.i64 0, Value.slice sa 1 sc, Value.slice none 0 0] (by rfl) ((own_but O11d.out k12 hrbY).alloc _)
               ⟨w12.heap.size, 0, none⟩ 1 1 [.int .i64 1, .string ⟨#[112, 114, 111, 112]⟩, .int .i64 0, .slice none 0 0, .slice none 0 0] (by rfl) (by rfl) (World.news_of_block (heap_alloc_new w12 _)) (by simp [Value.oneCell'])
               (by omega) (by unfold maxLen; omega) (by omega) (by simp; omega) (w12.heap.size + 1) (by simp) ?_
             intro gb cap2 w14 hown1 hgrow hat hlt14
             have b14 := (((Below.refl w12.heap.size w12).alloc (Nat.le_refl _) (.cells #[.int .i64 1, .string ⟨#[112, 114, 111, 112]⟩, .int .i64 0, .slice none 0 0, .slice none 0 0] 25)).mono (show w2.heap.size + 1 ≤ w12.heap.size by omega)).grown hgrow (by simp; omega) (fun k e => by simp only [Value.ownBlock, Option.some.injEq] at e; omega)
             have S14 := Lib.hid (((own_but S11d.out k12 hrbY).alloc (.cells #[.int .i64 1, .string ⟨#[112, 114, 111, 112]⟩, .int .i64 0, .slice none 0 0, .slice none 0 0] 25)).kept hgrow (own_ne (own_but S11d.out k12 hrbY) (own_but O11d.out k12 hrbY) (by decide)))
             have Y14 := Lib.hid (Y12.out.below b14 (by omega))
             have yq4'' := Y14.out.c4
             have yg4'' := Y14.out.fr 4)))
      all_goals
        refine ⟨gb, cap2, w12.heap.size, rfl, ?_, Y14.out.put4 _, ?_, ?_, ?_, ?_⟩
        · exact ((X11d.out.but k12 X11d.out.lt (by omega)).below b14 (by omega)).setFar (p := ⟨w2.heap.size, 4, none⟩) hxy _
        · exact (r12.below b14 hrbY).setFar (p := ⟨w2.heap.size, 4, none⟩) (by show rb ≠ w2.heap.size; omega) _
        · exact ((K11d.out.trans (k12.mono K11d.out.size)).trans (But.of (b14.mono (by omega)))).setCell ⟨w2.heap.size, 4, none⟩ z2 _
        · exact own_set hown1 ⟨w2.heap.size, 4, none⟩ _ (by show w2.heap.size < w2.heap.size + 1; omega)
        · exact own_set S14.out ⟨w2.heap.size, 4, none⟩ _ (by show w2.heap.size < w2.heap.size + 1; omega)
    case rest2 =>
      intro e a W2 hR
      cases e <;> first | exact (show False from hR).elim | skip
      obtain ⟨gb, cap2, h7, rfl, x15, y15, r15, k15, o15, s15⟩ := hR
      have X15 := Lib.hid x15
      have Y15 := Lib.hid y15
      have R15 := Lib.hid r15
      have K15 := Lib.hid k15
      have O15 := Lib.hid o15
      have S15 := Lib.hid s15
      have z15 := k15.size
      clear x15 y15 r15 k15 o15 s15 yq4
      go_wp2_with fail
      refine (N5.out _ R15.out).mono ?_
      rintro e w16 ⟨rfl, r16, k16⟩
      have X16 := Lib.hid (X15.out.but k16 X15.out.lt (by omega))
      have Y16 := Lib.hid (Y15.out.but k16 Y15.out.lt (by omega))
      have K16 := Lib.hid (K15.out.trans (k16.mono K15.out.size))
      have O16 := Lib.hid (own_but O15.out k16 hrbY)
      have S16 := Lib.hid (own_but S15.out k16 hrbY)
      have R16 := Lib.hid r16
      have z16 := k16.size
      clear r16 k16
      have xq0 := X16.out.c0
      have xg0 := X16.out.fr 0
      have yq0 := Y16.out.c0
      have xq1 := X16.out.c1
      have xg1 := X16.out.fr 1
      have yq1 := Y16.out.c1
      have xq2 := X16.out.c2
      have xg2 := X16.out.fr 2
      have yq2 := Y16.out.c2
      have xq3 := X16.out.c3
      have xg3 := X16.out.fr 3
      have yq3 := Y16.out.c3
      have xq4 := X16.out.c4
      have xg4 := X16.out.fr 4
      have yq4 := Y16.out.c4
      go_wp2_with fail
      (try simp only [Exit.inBlock, Exit.then])
      refine bodyPost_ret ((X16.out.store _ _ _ _ _).res rfl _ rfl) rfl ?_
      exact ⟨gb, cap2, sa, sc, rfl, own_mono (own_store5 O16.out (by omega) _ _ _ _ _) (by omega), own_mono (own_store5 S16.out (by omega) _ _ _ _ _) (by omega), R16.out.store5 (by omega) _ _ _ _ _, K16.out.store5 (Nat.le_refl _) _ _ _ _ _⟩
end Go.Proofs.YthopoidcglfdjaaDoor
