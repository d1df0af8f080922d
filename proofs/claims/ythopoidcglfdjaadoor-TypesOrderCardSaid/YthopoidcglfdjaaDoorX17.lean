/-
  The reader: the two arguments of the type of functions.
-/
import Derived.Test.YthopoidcglfdjaaDoorX16
namespace Go.Proofs.YthopoidcglfdjaaDoor
open Go.RowKit

theorem hasStrs_nil (B : Nat) (w : World) : HasStrs B w (.slice none 0 0) [] := ⟨none, 0, 0, 0, rfl, by simp, fun h => absurd rfl h, fun i hi => by simp at hi⟩
theorem hasTy_leaf {B : Nat} {w : World} {vs : Value} {srt : List ByteArray} (op : Int) (nm : ByteArray) (hop : -9223372036854775808 ≤ op ∧ op ≤ 9223372036854775807) (hn : nm.size ≤ 9223372036854775807) (h : HasStrs B w vs srt) : HasTy B w (.agg #[.int .i64 op, .string nm, .int .i64 0, vs, .slice none 0 0]) (.mk op nm 0 srt []) :=
  ⟨vs, none, 0, 0, 0, rfl, hop, by simp [Ty.index], hn, h, by simp [Ty.args], fun h => absurd rfl h, fun i hi => by simp [Ty.args] at hi⟩

set_option maxRecDepth 100000 in
set_option maxHeartbeats 4000000 in
theorem typ_prop (rb : Nat) (w : World) (h : RAt rb sP w) :
    Calls Tryd.prog 39 #[.pointer (some ⟨rb, 0, none⟩), .int .i64 2] w fun e w' => e = .returned (.agg #[.int .i64 1, .string ⟨#[112, 114, 111, 112]⟩, .int .i64 0, .slice none 0 0, .slice none 0 0]) ∧ RAt rb sP1 w' ∧ But w.heap.size rb w w' := by
  have hlt := h.2.2
  have N0 := Lib.hid fun W (hr : RAt rb sP W) => head_con rb sP ⟨#[112, 114, 111, 112]⟩ sP1 W hr (by decide) (by decide) (by decide) (by decide) splitWord_prop
  have N1 := Lib.hid fun W (hr : RAt rb sP1 W) => next_any rb sP1 ⟨#[123]⟩ sP1 false W hr (by decide) (by decide)
  have N2 := Lib.hid fun W (hr : RAt rb sP1 W) => next_any rb sP1 ⟨#[40]⟩ sP1 false W hr (by decide) (by decide)
  have hse : sP.toList.isEmpty = false := by rw [ByteArray.toList_eq]; decide
  have b1 : Below w.heap.size w (w.alloc (.cells #[.int .i64 0, .string ⟨#[]⟩, .int .i64 0, .slice none 0 0, .slice none 0 0] 25)) := (Below.refl _ w).alloc (Nat.le_refl _) _
  have r1 := h.below b1 hlt
  have R1 := Lib.hid r1
  have s1 : (w.alloc (.cells #[.int .i64 0, .string ⟨#[]⟩, .int .i64 0, .slice none 0 0, .slice none 0 0] 25)).heap.size = w.heap.size + 1 := by simp
  have K1 := Lib.hid (But.of (rb := rb) b1)
  obtain ⟨rc, rf, _⟩ := r1
  have X1 := Lib.hid (Box.new w (.int .i64 0) (.string ⟨#[]⟩) (.int .i64 0) (.slice none 0 0) (.slice none 0 0))
  clear h b1
  go_enter Tryd.func39, Tryd.ntmps39
  go_wp2_with fail
  generalize w.alloc (.cells #[.int .i64 0, .string ⟨#[]⟩, .int .i64 0, .slice none 0 0, .slice none 0 0] 25) = w1 at *
  refine (N0.out _ R1.out).mono ?_
  rintro e w2 ⟨rfl, r2, k2⟩
  have X2 := Lib.hid (X1.out.but k2 X1.out.lt (by omega))
  have K2 := Lib.hid (K1.out.trans (k2.mono K1.out.size))
  have z2 := K2.out.size
  have z2' := k2.size
  have lt2 := r2.2.2
  clear k2
  have b3 : Below w2.heap.size w2 (w2.alloc (.cells #[.int .i64 1, .string ⟨#[112, 114, 111, 112]⟩, .int .i64 0, .slice none 0 0, .slice none 0 0] 25)) := (Below.refl _ w2).alloc (Nat.le_refl _) _
  have Y3 := Lib.hid (Box.new w2 (.int .i64 1) (.string ⟨#[112, 114, 111, 112]⟩) (.int .i64 0) (.slice none 0 0) (.slice none 0 0))
  have s3 : (w2.alloc (.cells #[.int .i64 1, .string ⟨#[112, 114, 111, 112]⟩, .int .i64 0, .slice none 0 0, .slice none 0 0] 25)).heap.size = w2.heap.size + 1 := by simp
  have X3 := Lib.hid (X2.out.below b3 X2.out.lt)
  have K3 := Lib.hid (K2.out.trans (But.of (b3.mono z2)))
  have R3 := Lib.hid (r2.below b3 r2.2.2)
  clear b3 r2 rc rf
  go_wp2_with fail
  generalize w2.alloc (.cells #[.int .i64 1, .string ⟨#[112, 114, 111, 112]⟩, .int .i64 0, .slice none 0 0, .slice none 0 0] 25) = w3 at *
  refine (N1.out _ R3.out).mono ?_
  rintro e w4 ⟨rfl, r4, k4⟩
  have X4 := Lib.hid (X3.out.but k4 X3.out.lt (by omega))
  have Y4 := Lib.hid (Y3.out.but k4 Y3.out.lt (by omega))
  have K4 := Lib.hid (K3.out.trans (k4.mono K3.out.size))
  have R4 := Lib.hid r4
  have z4 := k4.size
  clear r4
  clear k4
  go_wp2_with fail
  refine (N2.out _ R4.out).mono ?_
  rintro e w5 ⟨rfl, r5, k5⟩
  have X5 := Lib.hid (X4.out.but k5 X4.out.lt (by omega))
  have Y5 := Lib.hid (Y4.out.but k5 Y4.out.lt (by omega))
  have K5 := Lib.hid (K4.out.trans (k5.mono K4.out.size))
  have R5 := Lib.hid r5
  have z5 := k5.size
  clear r5
  clear k5
  have xq0 := X5.out.c0
  have xg0 := X5.out.fr 0
  have xq1 := X5.out.c1
  have xg1 := X5.out.fr 1
  have xq2 := X5.out.c2
  have xg2 := X5.out.fr 2
  have xq3 := X5.out.c3
  have xg3 := X5.out.fr 3
  have xq4 := X5.out.c4
  have xg4 := X5.out.fr 4
  have yq0 := Y5.out.c0
  have yg0 := Y5.out.fr 0
  have yq1 := Y5.out.c1
  have yg1 := Y5.out.fr 1
  have yq2 := Y5.out.c2
  have yg2 := Y5.out.fr 2
  have yq3 := Y5.out.c3
  have yg3 := Y5.out.fr 3
  have yq4 := Y5.out.c4
  have yg4 := Y5.out.fr 4
  have hxy : w.heap.size ≠ w2.heap.size := by omega
  go_wp2_with fail
  (try simp only [Exit.inBlock, Exit.then])
  refine bodyPost_ret ((X5.out.store _ _ _ _ _).res rfl _ rfl) rfl ?_
  exact ⟨rfl, R5.out.store5 (by omega) _ _ _ _ _, K5.out.store5 (Nat.le_refl _) _ _ _ _ _⟩

set_option maxRecDepth 100000 in
set_option maxHeartbeats 4000000 in
theorem typ_a (rb : Nat) (w : World) (h : RAt rb sA w) :
    Calls Tryd.prog 39 #[.pointer (some ⟨rb, 0, none⟩), .int .i64 2] w fun e w' => ∃ vs, e = .returned (.agg #[.int .i64 3, .string ⟨#[97]⟩, .int .i64 0, vs, .slice none 0 0]) ∧ w'.ownsRow (w.heap.size + 1) 9 1 vs 1 [.string ⟨#[99]⟩] ∧ RAt rb sA4 w' ∧ But w.heap.size rb w w' := by
  have hlt := h.2.2
  have N0 := Lib.hid fun W (hr : RAt rb sA W) => head_a rb W hr
  have N1 := Lib.hid fun W (hr : RAt rb sA2 W) => next_any rb sA2 ⟨#[123]⟩ sA3 true W hr (by decide) (by decide)
  have N2 := Lib.hid fun W (hr : RAt rb sA3 W) => list_c rb W hr
  have N3 := Lib.hid fun W (hr : RAt rb sA4 W) => next_any rb sA4 ⟨#[40]⟩ sA4 false W hr (by decide) (by decide)
  have hse : sA.toList.isEmpty = false := by rw [ByteArray.toList_eq]; decide
  have b1 : Below w.heap.size w (w.alloc (.cells #[.int .i64 0, .string ⟨#[]⟩, .int .i64 0, .slice none 0 0, .slice none 0 0] 25)) := (Below.refl _ w).alloc (Nat.le_refl _) _
  have r1 := h.below b1 hlt
  have R1 := Lib.hid r1
  have s1 : (w.alloc (.cells #[.int .i64 0, .string ⟨#[]⟩, .int .i64 0, .slice none 0 0, .slice none 0 0] 25)).heap.size = w.heap.size + 1 := by simp
  have K1 := Lib.hid (But.of (rb := rb) b1)
  obtain ⟨rc, rf, _⟩ := r1
  have X1 := Lib.hid (Box.new w (.int .i64 0) (.string ⟨#[]⟩) (.int .i64 0) (.slice none 0 0) (.slice none 0 0))
  clear h b1
  go_enter Tryd.func39, Tryd.ntmps39
  go_wp2_with fail
  generalize w.alloc (.cells #[.int .i64 0, .string ⟨#[]⟩, .int .i64 0, .slice none 0 0, .slice none 0 0] 25) = w1 at *
  refine (N0.out _ R1.out).mono ?_
  rintro e w2 ⟨rfl, r2, k2⟩
  have X2 := Lib.hid (X1.out.but k2 X1.out.lt (by omega))
  have K2 := Lib.hid (K1.out.trans (k2.mono K1.out.size))
  have z2 := K2.out.size
  have z2' := k2.size
  have lt2 := r2.2.2
  clear k2
  have b3 : Below w2.heap.size w2 (w2.alloc (.cells #[.int .i64 3, .string ⟨#[97]⟩, .int .i64 0, .slice none 0 0, .slice none 0 0] 25)) := (Below.refl _ w2).alloc (Nat.le_refl _) _
  have Y3 := Lib.hid (Box.new w2 (.int .i64 3) (.string ⟨#[97]⟩) (.int .i64 0) (.slice none 0 0) (.slice none 0 0))
  have s3 : (w2.alloc (.cells #[.int .i64 3, .string ⟨#[97]⟩, .int .i64 0, .slice none 0 0, .slice none 0 0] 25)).heap.size = w2.heap.size + 1 := by simp
  have X3 := Lib.hid (X2.out.below b3 X2.out.lt)
  have K3 := Lib.hid (K2.out.trans (But.of (b3.mono z2)))
  have R3 := Lib.hid (r2.below b3 r2.2.2)
  clear b3 r2 rc rf
  go_wp2_with fail
  generalize w2.alloc (.cells #[.int .i64 3, .string ⟨#[97]⟩, .int .i64 0, .slice none 0 0, .slice none 0 0] 25) = w3 at *
  refine (N1.out _ R3.out).mono ?_
  rintro e w4 ⟨rfl, r4, k4⟩
  have X4 := Lib.hid (X3.out.but k4 X3.out.lt (by omega))
  have Y4 := Lib.hid (Y3.out.but k4 Y3.out.lt (by omega))
  have K4 := Lib.hid (K3.out.trans (k4.mono K3.out.size))
  have R4 := Lib.hid r4
  have z4 := k4.size
  clear r4
  clear k4
  go_wp2_with fail
  refine (N2.out _ R4.out).mono ?_
  rintro e w5 ⟨vs, rfl, o5, r5, k5⟩
  have X5 := Lib.hid (X4.out.but k5 X4.out.lt (by omega))
  have Y5 := Lib.hid (Y4.out.but k5 Y4.out.lt (by omega))
  have K5 := Lib.hid (K4.out.trans (k5.mono K4.out.size))
  have R5 := Lib.hid r5
  have z5 := k5.size
  clear r5
  clear k5
  obtain ⟨sa, sc, rfl⟩ := own_form o5
  have O5 := Lib.hid o5
  clear o5
  have yq0 := Y5.out.c0
  have yg0 := Y5.out.fr 0
  have yq1 := Y5.out.c1
  have yg1 := Y5.out.fr 1
  have yq2 := Y5.out.c2
  have yg2 := Y5.out.fr 2
  have yq3 := Y5.out.c3
  have yg3 := Y5.out.fr 3
  have yq4 := Y5.out.c4
  have yg4 := Y5.out.fr 4
  have hxy : w.heap.size ≠ w2.heap.size := by omega
  go_wp2_with fail
  have X6 := Lib.hid (X5.out.setFar (p := ⟨w2.heap.size, 3, none⟩) hxy (.slice sa 1 sc))
  have Y6 := Lib.hid (Y5.out.put3 (.slice sa 1 sc))
  have K6 := Lib.hid (K5.out.setCell ⟨w2.heap.size, 3, none⟩ z2 (.slice sa 1 sc))
  have R6 := Lib.hid (R5.out.setFar (p := ⟨w2.heap.size, 3, none⟩) (by show rb ≠ w2.heap.size; omega) (.slice sa 1 sc))
  have O6 := Lib.hid (own_set O5.out ⟨w2.heap.size, 3, none⟩ (.slice sa 1 sc) (by show w2.heap.size < w4.heap.size; omega))
  generalize w5.setCell ⟨w2.heap.size, 3, none⟩ (.slice sa 1 sc) = w6 at *
  clear yq0 yq1 yq2 yq3 yq4 yg0 yg1 yg2 yg3 yg4
  refine (N3.out _ R6.out).mono ?_
  rintro e w7 ⟨rfl, r7, k7⟩
  have X7 := Lib.hid (X6.out.but k7 X6.out.lt (by omega))
  have Y7 := Lib.hid (Y6.out.but k7 Y6.out.lt (by omega))
  have K7 := Lib.hid (K6.out.trans (k7.mono K6.out.size))
  have R7 := Lib.hid r7
  have z7 := k7.size
  clear r7
  have O7 := Lib.hid (own_but O6.out k7 (by omega))
  clear k7
  have xq0 := X7.out.c0
  have xg0 := X7.out.fr 0
  have xq1 := X7.out.c1
  have xg1 := X7.out.fr 1
  have xq2 := X7.out.c2
  have xg2 := X7.out.fr 2
  have xq3 := X7.out.c3
  have xg3 := X7.out.fr 3
  have xq4 := X7.out.c4
  have xg4 := X7.out.fr 4
  have yq0 := Y7.out.c0
  have yg0 := Y7.out.fr 0
  have yq1 := Y7.out.c1
  have yg1 := Y7.out.fr 1
  have yq2 := Y7.out.c2
  have yg2 := Y7.out.fr 2
  have yq3 := Y7.out.c3
  have yg3 := Y7.out.fr 3
  have yq4 := Y7.out.c4
  have yg4 := Y7.out.fr 4
  have hxy : w.heap.size ≠ w2.heap.size := by omega
  go_wp2_with fail
  (try simp only [Exit.inBlock, Exit.then])
  refine bodyPost_ret ((X7.out.store _ _ _ _ _).res rfl _ rfl) rfl ?_
  exact ⟨_, rfl, own_store5 (own_mono O7.out (by omega)) (by omega) _ _ _ _ _, R7.out.store5 (by omega) _ _ _ _ _, K7.out.store5 (Nat.le_refl _) _ _ _ _ _⟩
end Go.Proofs.YthopoidcglfdjaaDoor
