/-
  The last words of the types laws hold: awake returns true, whatever the world.
-/
import Derived.Test.YthopoidcglfdjaaDoorX22
import Derived.Deep.RegionHeld3
namespace Go.Proofs.YthopoidcglfdjaaDoor
open Go.RowKit

theorem same_fun : (Ty.cmp tyFun tyFun == 0) = true := by rw [((Ty.cmp_cmp tyFun).zero tyFun).2 rfl]; rfl

set_option maxRecDepth 100000 in
set_option maxHeartbeats 8000000 in
theorem awake_ok (w : World) : Calls Tryd.prog 5 #[] w fun e w' => e = .returned (.bool true) ∧ Below w.heap.size w w' := by
  have hb : Below w.heap.size w ((w.alloc (.cells #[.string ⟨#[99]⟩] 9)).alloc (.cells #[.int .i64 3, .string ⟨#[97]⟩, .int .i64 0, .slice (some ⟨w.heap.size, 0, none⟩) 1 1, .slice none 0 0] 25)) := ((Below.refl _ w).alloc (Nat.le_refl _) _).alloc (by simp) _
  have hs : ((w.alloc (.cells #[.string ⟨#[99]⟩] 9)).alloc (.cells #[.int .i64 3, .string ⟨#[97]⟩, .int .i64 0, .slice (some ⟨w.heap.size, 0, none⟩) 1 1, .slice none 0 0] 25)).heap.size = w.heap.size + 1 + 1 := by simp
  have x2 : Box (w.heap.size + 1) (.int .i64 3) (.string ⟨#[97]⟩) (.int .i64 0) (.slice (some ⟨w.heap.size, 0, none⟩) 1 1) (.slice none 0 0) ((w.alloc (.cells #[.string ⟨#[99]⟩] 9)).alloc (.cells #[.int .i64 3, .string ⟨#[97]⟩, .int .i64 0, .slice (some ⟨w.heap.size, 0, none⟩) 1 1, .slice none 0 0] 25)) := Go.heap_alloc2_new w _ _
  have h2 : ((w.alloc (.cells #[.string ⟨#[99]⟩] 9)).alloc (.cells #[.int .i64 3, .string ⟨#[97]⟩, .int .i64 0, .slice (some ⟨w.heap.size, 0, none⟩) 1 1, .slice none 0 0] 25)).heap[w.heap.size]? = some (.cells #[.string ⟨#[99]⟩] 9) := by
    rw [Below.heap_alloc _ _ _ (by simp)]; exact Go.heap_alloc_new w _
  have HB := Lib.hid hb
  have X2 := Lib.hid x2
  have H2 := Lib.hid h2
  clear hb x2 h2
  go_enter Tryd.func5, Tryd.ntmps5
  go_wp2_with fail
  generalize (w.alloc (.cells #[.string ⟨#[99]⟩] 9)).alloc (.cells #[.int .i64 3, .string ⟨#[97]⟩, .int .i64 0, .slice (some ⟨w.heap.size, 0, none⟩) 1 1, .slice none 0 0] 25) = w2 at *
  have Xd := Lib.hid (show Box (w.heap.size + 1) _ _ _ _ _ w2.drew from X2.out)
  have Hd : Hid (w2.drew.heap[w.heap.size]? = _) := Lib.hid H2.out
  have Bd := Lib.hid (show Below w2.heap.size w2 w2.drew from below_drewN (Below.refl _ _) 1)
  have xq0 := Xd.out.c0
  have xq1 := Xd.out.c1
  have xq2 := Xd.out.c2
  have xq3 := Xd.out.c3
  have xq4 := Xd.out.c4
  have hsd : w2.drew.heap.size = w2.heap.size := rfl
  go_region_held3 (fun W => W.cell? ⟨w.heap.size + 1, 0, none⟩ = some (.int .i64 3) ∧ W.cell? ⟨w.heap.size + 1, 1, none⟩ = some (.string ⟨#[97]⟩) ∧ W.cell? ⟨w.heap.size + 1, 2, none⟩ = some (.int .i64 0) ∧ W.cell? ⟨w.heap.size + 1, 3, none⟩ = some (.slice (some ⟨w.heap.size, 0, none⟩) 1 1) ∧ W.cell? ⟨w.heap.size + 1, 4, none⟩ = some (.slice none 0 0))
    (refine ⟨?_, ?_, ?_, ?_, ?_⟩ <;> assumption)
    ((first
      | (go_at_call 12
         refine (prop_ok w2.drew).mono ?_
         rintro e w3 ⟨rfl, b3⟩
         have z3 := b3.size
         have K3 := Lib.hid (Bd.out.trans (b3.mono (Nat.le_of_eq hsd.symm)))
         have X3 := Lib.hid (X2.out.below K3.out (by omega))
         have yq0 := X3.out.c0
         have yq1 := X3.out.c1
         have yq2 := X3.out.c2
         have yq3 := X3.out.c3
         have yq4 := X3.out.c4
         have F3 := fun_ok w.heap.size 0 1 w3 (by rw [Lib.cell_of_heap ((K3.out.block _ (by omega)).trans H2.out)]; rfl) (by omega))
      | (go_at_call 11
         refine F3.mono ?_
         rintro e w4 ⟨g, sa, sc', rfl, t4, b4⟩
         have z4 := b4.size
         have T4 := Lib.hid t4
         have K4 := Lib.hid (K3.out.trans (b4.mono (by omega)))
         have X4 := Lib.hid (X2.out.below K4.out (by omega))
         have uq0 := X4.out.c0
         have uq1 := X4.out.c1
         have uq2 := X4.out.c2
         have uq3 := X4.out.c3
         have uq4 := X4.out.c4
         have TX : Calls Tryd.prog 10 #[readV g 2] w4 fun e w' => e = .returned (.tuple #[.string ⟨#[102, 117, 110, 40, 63, 97, 46, 48, 123, 99, 125, 44, 32, 112, 114, 111, 112, 41]⟩, .int .i64 0]) ∧ Below w4.heap.size w4 w' := text_ok w4.heap.size (readV g 2) w4 (Nat.le_refl _) T4.out.has)
      | (go_at_call 10
         refine TX.mono ?_
         rintro e w5 ⟨rfl, b5⟩
         have z5 := b5.size
         have K5 := Lib.hid (K4.out.trans (b5.mono (by omega)))
         have X5 := Lib.hid (X2.out.below K5.out (by omega))
         have vq0 := X5.out.c0
         have vq1 := X5.out.c1
         have vq2 := X5.out.c2
         have vq3 := X5.out.c3
         have vq4 := X5.out.c4)))
  clear xq0 xq1 xq2 xq3 xq4 yq0 yq1 yq2 yq3 yq4 uq0 uq1 uq2 uq3 uq4 vq0 vq1 vq2 vq3 vq4 F3 TX t4
  have RR : Calls Tryd.prog 13 #[.string ⟨#[102, 117, 110, 40, 63, 97, 46, 48, 123, 99, 125, 44, 32, 112, 114, 111, 112, 41]⟩] w5 _ := read_ok w5
  go_wp2_with fail
  refine RR.mono ?_
  rintro e w6 ⟨gb, cap2, sa2, sc2, rfl, t6, b6⟩
  have z6 := b6.size
  have T6 := Lib.hid t6
  have K6 := Lib.hid (K5.out.trans (b6.mono (by omega)))
  have b7 : Below w6.heap.size w6 (w6.alloc (.cells #[.int .i64 1, .string ⟨#[102, 117, 110]⟩, .int .i64 0, .slice none 0 0, .slice (some ⟨gb, 0, none⟩) 2 cap2] 25)) := (Below.refl _ w6).alloc (Nat.le_refl _) _
  have Y7 := Lib.hid (Box.new w6 (.int .i64 1) (.string ⟨#[102, 117, 110]⟩) (.int .i64 0) (.slice none 0 0) (.slice (some ⟨gb, 0, none⟩) 2 cap2))
  have s7 : (w6.alloc (.cells #[.int .i64 1, .string ⟨#[102, 117, 110]⟩, .int .i64 0, .slice none 0 0, .slice (some ⟨gb, 0, none⟩) 2 cap2] 25)).heap.size = w6.heap.size + 1 := by simp
  have T7 := Lib.hid (T6.out.below b7)
  have K7 := Lib.hid (K6.out.trans (b7.mono (by omega)))
  clear t6 b7 RR
  go_wp2_with fail
  generalize w6.alloc (.cells #[.int .i64 1, .string ⟨#[102, 117, 110]⟩, .int .i64 0, .slice none 0 0, .slice (some ⟨gb, 0, none⟩) 2 cap2] 25) = w7 at *
  have D7 := Lib.hid (show Below w7.heap.size w7 w7.drew from below_drewN (Below.refl _ _) 1)
  have X7 := Lib.hid (show Box (w.heap.size + 1) _ _ _ _ _ w7.drew from X2.out.below (K7.out.trans (D7.out.mono (by omega))) (by omega))
  have Yd := Lib.hid (show Box w6.heap.size _ _ _ _ _ w7.drew from Y7.out)
  have xq0 := X7.out.c0
  have yq0 := Yd.out.c0
  have xq1 := X7.out.c1
  have yq1 := Yd.out.c1
  have xq2 := X7.out.c2
  have yq2 := Yd.out.c2
  have xq3 := X7.out.c3
  have yq3 := Yd.out.c3
  have xq4 := X7.out.c4
  have yq4 := Yd.out.c4
  have hs7 : w7.drew.heap.size = w7.heap.size := rfl
  go_region_held3 (fun W => W.cell? ⟨w.heap.size + 1, 0, none⟩ = some (.int .i64 3) ∧ W.cell? ⟨w.heap.size + 1, 1, none⟩ = some (.string ⟨#[97]⟩) ∧ W.cell? ⟨w.heap.size + 1, 2, none⟩ = some (.int .i64 0) ∧ W.cell? ⟨w.heap.size + 1, 3, none⟩ = some (.slice (some ⟨w.heap.size, 0, none⟩) 1 1) ∧ W.cell? ⟨w.heap.size + 1, 4, none⟩ = some (.slice none 0 0) ∧ W.cell? ⟨w6.heap.size, 0, none⟩ = some (.int .i64 1) ∧ W.cell? ⟨w6.heap.size, 1, none⟩ = some (.string ⟨#[102, 117, 110]⟩) ∧ W.cell? ⟨w6.heap.size, 2, none⟩ = some (.int .i64 0) ∧ W.cell? ⟨w6.heap.size, 3, none⟩ = some (.slice none 0 0) ∧ W.cell? ⟨w6.heap.size, 4, none⟩ = some (.slice (some ⟨gb, 0, none⟩) 2 cap2))
    (refine ⟨?_, ?_, ?_, ?_, ?_, ?_, ?_, ?_, ?_, ?_⟩ <;> assumption)
    ((first
      | (go_at_call 12
         refine (prop_ok w7.drew).mono ?_
         rintro e w8 ⟨rfl, b8⟩
         have z8 := b8.size
         have L8 := Lib.hid (D7.out.trans (b8.mono (Nat.le_of_eq hs7.symm)))
         have K8 := Lib.hid (K7.out.trans (L8.out.mono (by omega)))
         have X8 := Lib.hid (X2.out.below K8.out (by omega))
         have Y8 := Lib.hid (Y7.out.below L8.out (by omega))
         have xa0 := X8.out.c0
         have xa1 := X8.out.c1
         have xa2 := X8.out.c2
         have xa3 := X8.out.c3
         have xa4 := X8.out.c4
         have ya0 := Y8.out.c0
         have ya1 := Y8.out.c1
         have ya2 := Y8.out.c2
         have ya3 := Y8.out.c3
         have ya4 := Y8.out.c4
         have F8 := fun_ok w.heap.size 0 1 w8 (by rw [Lib.cell_of_heap ((K8.out.block _ (by omega)).trans H2.out)]; rfl) (by omega))
      | (go_at_call 11
         refine F8.mono ?_
         rintro e w9 ⟨g9, sa9, sc9, rfl, t9, b9⟩
         have z9 := b9.size
         have T9 := Lib.hid t9
         have L9 := Lib.hid (L8.out.trans (b9.mono (by omega)))
         have K9 := Lib.hid (K7.out.trans (L9.out.mono (by omega)))
         have X9 := Lib.hid (X2.out.below K9.out (by omega))
         have Y9 := Lib.hid (Y7.out.below L9.out (by omega))
         have xb0 := X9.out.c0
         have xb1 := X9.out.c1
         have xb2 := X9.out.c2
         have xb3 := X9.out.c3
         have xb4 := X9.out.c4
         have yb0 := Y9.out.c0
         have yb1 := Y9.out.c1
         have yb2 := Y9.out.c2
         have yb3 := Y9.out.c3
         have yb4 := Y9.out.c4
         have EQ := equal_val w9.heap.size (readV gb cap2) (readV g9 2) tyFun tyFun w9 (Nat.le_refl _) (T7.out.below L9.out).has T9.out.has
         rw [same_fun] at EQ)
      | (go_at_call 7
         refine EQ.mono ?_
         rintro e w10 ⟨rfl, b10⟩
         have z10 := b10.size
         have L10 := Lib.hid (L9.out.trans (b10.mono (by omega)))
         have K10 := Lib.hid (K7.out.trans (L10.out.mono (by omega)))
         have X10 := Lib.hid (X2.out.below K10.out (by omega))
         have Y10 := Lib.hid (Y7.out.below L10.out (by omega))
         have xc0 := X10.out.c0
         have xc1 := X10.out.c1
         have xc2 := X10.out.c2
         have xc3 := X10.out.c3
         have xc4 := X10.out.c4
         have yc0 := Y10.out.c0
         have yc1 := Y10.out.c1
         have yc2 := Y10.out.c2
         have yc3 := Y10.out.c3
         have yc4 := Y10.out.c4
         have MX := max_ok w10.heap.size (readV gb cap2) w10 (Nat.le_refl _) (T7.out.below L10.out).has)
      | (go_at_call 14
         refine MX.mono ?_
         rintro e w11 ⟨rfl, b11⟩
         have z11 := b11.size
         have L11 := Lib.hid (L10.out.trans (b11.mono (by omega)))
         have K11 := Lib.hid (K7.out.trans (L11.out.mono (by omega)))
         have X11 := Lib.hid (X2.out.below K11.out (by omega))
         have Y11 := Lib.hid (Y7.out.below L11.out (by omega))
         have xd0 := X11.out.c0
         have xd1 := X11.out.c1
         have xd2 := X11.out.c2
         have xd3 := X11.out.c3
         have xd4 := X11.out.c4
         have yd0 := Y11.out.c0
         have yd1 := Y11.out.c1
         have yd2 := Y11.out.c2
         have yd3 := Y11.out.c3
         have yd4 := Y11.out.c4
         skip)))
  go_wp2_with fail
  go_ret
  exact ⟨rfl, HB.out.trans (K11.out.mono (by omega))⟩
end Go.Proofs.YthopoidcglfdjaaDoor
