/-
  Fun at the types of the last words: a type in new memory.
-/
import Derived.Test.YthopoidcglfdjaaDoorX21
import Derived.Deep.RegionLaw
namespace Go.Proofs.YthopoidcglfdjaaDoor
open Go.RowKit

set_option maxRecDepth 100000 in
set_option maxHeartbeats 4000000 in
theorem fun_ok (sb so sc : Nat) (w : World) (h : w.cell? ⟨sb, so, none⟩ = some (.string ⟨#[99]⟩)) (hlt : sb < w.heap.size) :
    Calls Tryd.prog 11 #[.agg #[.int .i64 3, .string ⟨#[97]⟩, .int .i64 0, .slice (some ⟨sb, so, none⟩) 1 sc, .slice none 0 0], .agg #[.int .i64 1, .string ⟨#[112, 114, 111, 112]⟩, .int .i64 0, .slice none 0 0, .slice none 0 0]] w fun e w' => ∃ g sa sc', e = .returned (.agg #[.int .i64 1, .string ⟨#[102, 117, 110]⟩, .int .i64 0, .slice none 0 0, .slice (some ⟨g, 0, none⟩) 2 2]) ∧ ReadTy w.heap.size g 2 sa sc' w' ∧ Below w.heap.size w w' := by
  have hb : Below w.heap.size w (((w.alloc (.cells #[.int .i64 3, .string ⟨#[97]⟩, .int .i64 0, .slice (some ⟨sb, so, none⟩) 1 sc, .slice none 0 0] 25)).alloc (.cells #[.int .i64 1, .string ⟨#[112, 114, 111, 112]⟩, .int .i64 0, .slice none 0 0, .slice none 0 0] 25)).alloc (.cells #[.int .i64 0, .string ⟨#[]⟩, .int .i64 0, .slice none 0 0, .slice none 0 0] 25)) := (((Below.refl _ w).alloc (Nat.le_refl _) _).alloc (by simp) _).alloc (by simp; omega) _
  have hs : (((w.alloc (.cells #[.int .i64 3, .string ⟨#[97]⟩, .int .i64 0, .slice (some ⟨sb, so, none⟩) 1 sc, .slice none 0 0] 25)).alloc (.cells #[.int .i64 1, .string ⟨#[112, 114, 111, 112]⟩, .int .i64 0, .slice none 0 0, .slice none 0 0] 25)).alloc (.cells #[.int .i64 0, .string ⟨#[]⟩, .int .i64 0, .slice none 0 0, .slice none 0 0] 25)).heap.size = w.heap.size + 1 + 1 + 1 := by simp
  have x3 : Box w.heap.size (.int .i64 3) (.string ⟨#[97]⟩) (.int .i64 0) (.slice (some ⟨sb, so, none⟩) 1 sc) (.slice none 0 0) (((w.alloc (.cells #[.int .i64 3, .string ⟨#[97]⟩, .int .i64 0, .slice (some ⟨sb, so, none⟩) 1 sc, .slice none 0 0] 25)).alloc (.cells #[.int .i64 1, .string ⟨#[112, 114, 111, 112]⟩, .int .i64 0, .slice none 0 0, .slice none 0 0] 25)).alloc (.cells #[.int .i64 0, .string ⟨#[]⟩, .int .i64 0, .slice none 0 0, .slice none 0 0] 25)) := by
    unfold Box; rw [Below.heap_alloc _ _ _ (by simp; omega), Below.heap_alloc _ _ _ (by simp)]; exact Go.heap_alloc_new w _
  have y3 : Box (w.heap.size + 1) (.int .i64 1) (.string ⟨#[112, 114, 111, 112]⟩) (.int .i64 0) (.slice none 0 0) (.slice none 0 0) (((w.alloc (.cells #[.int .i64 3, .string ⟨#[97]⟩, .int .i64 0, .slice (some ⟨sb, so, none⟩) 1 sc, .slice none 0 0] 25)).alloc (.cells #[.int .i64 1, .string ⟨#[112, 114, 111, 112]⟩, .int .i64 0, .slice none 0 0, .slice none 0 0] 25)).alloc (.cells #[.int .i64 0, .string ⟨#[]⟩, .int .i64 0, .slice none 0 0, .slice none 0 0] 25)) := by
    unfold Box; rw [Below.heap_alloc _ _ _ (by simp)]; exact Go.heap_alloc2_new w _ _
  have u3 : Box (w.heap.size + 1 + 1) (.int .i64 0) (.string ⟨#[]⟩) (.int .i64 0) (.slice none 0 0) (.slice none 0 0) (((w.alloc (.cells #[.int .i64 3, .string ⟨#[97]⟩, .int .i64 0, .slice (some ⟨sb, so, none⟩) 1 sc, .slice none 0 0] 25)).alloc (.cells #[.int .i64 1, .string ⟨#[112, 114, 111, 112]⟩, .int .i64 0, .slice none 0 0, .slice none 0 0] 25)).alloc (.cells #[.int .i64 0, .string ⟨#[]⟩, .int .i64 0, .slice none 0 0, .slice none 0 0] 25)) := by
    have := Go.heap_alloc_new ((w.alloc (.cells #[.int .i64 3, .string ⟨#[97]⟩, .int .i64 0, .slice (some ⟨sb, so, none⟩) 1 sc, .slice none 0 0] 25)).alloc (.cells #[.int .i64 1, .string ⟨#[112, 114, 111, 112]⟩, .int .i64 0, .slice none 0 0, .slice none 0 0] 25)) (.cells #[.int .i64 0, .string ⟨#[]⟩, .int .i64 0, .slice none 0 0, .slice none 0 0] 25)
    unfold Box; simpa using this
  have h3 := (hb.cell (p := ⟨sb, so, none⟩) hlt).trans h
  have HB := Lib.hid hb
  have X3 := Lib.hid x3
  have Y3 := Lib.hid y3
  have U3 := Lib.hid u3
  have H3 := Lib.hid h3
  clear hb x3 y3 u3 h3 h
  go_enter Tryd.func11, Tryd.ntmps11
  go_wp2_with fail
  generalize (((w.alloc (.cells #[.int .i64 3, .string ⟨#[97]⟩, .int .i64 0, .slice (some ⟨sb, so, none⟩) 1 sc, .slice none 0 0] 25)).alloc (.cells #[.int .i64 1, .string ⟨#[112, 114, 111, 112]⟩, .int .i64 0, .slice none 0 0, .slice none 0 0] 25)).alloc (.cells #[.int .i64 0, .string ⟨#[]⟩, .int .i64 0, .slice none 0 0, .slice none 0 0] 25)) = w3 at *
  have hsd : w3.drew.heap.size = w3.heap.size := rfl
  have CA := clone_a sb so sc w3.drew H3.out (by omega)
  have Xd := Lib.hid (show Box w.heap.size _ _ _ _ _ w3.drew from X3.out)
  have Yd := Lib.hid (show Box (w.heap.size + 1) _ _ _ _ _ w3.drew from Y3.out)
  have Ud := Lib.hid (show Box (w.heap.size + 1 + 1) _ _ _ _ _ w3.drew from U3.out)
  have xq0 := Xd.out.c0
  have yq0 := Yd.out.c0
  have xq1 := Xd.out.c1
  have yq1 := Yd.out.c1
  have xq2 := Xd.out.c2
  have yq2 := Yd.out.c2
  have xq3 := Xd.out.c3
  have yq3 := Yd.out.c3
  have xq4 := Xd.out.c4
  have yq4 := Yd.out.c4
  go_region_law
    ((first
      | (have _g : w4 = w4 := rfl
         go_simp
         go_at_call 24
         refine (clone_prop w4).mono ?_
         rintro e w5 ⟨rfl, b5⟩
         have O5 := Lib.hid (own_below O4.out b5)
         have K5 := Lib.hid (K4.out.trans (b5.mono (by have := K4.out.size; omega)))
         have CF := fun_small w5 (.int .i64 3) (.string ⟨#[97]⟩) (.int .i64 0) (.slice none 0 0) (.int .i64 1) (.string ⟨#[112, 114, 111, 112]⟩) (.int .i64 0) (.slice none 0 0) (.slice none 0 0) sa sc' rfl rfl rfl rfl rfl rfl rfl rfl rfl)
      | (go_simp
         go_at_call 24
         refine CA.mono ?_
         rintro e w4 ⟨sa, sc', rfl, o4, b4⟩
         have O4 := Lib.hid o4
         have K4 := Lib.hid (show Below w3.heap.size w3 w4 from (below_drewN (Below.refl w3.heap.size w3) 1).trans (b4.mono (Nat.le_of_eq hsd.symm)))
         have Y4 := Lib.hid (Y3.out.below K4.out (by omega))
         have yp0 := Y4.out.c0
         have yp1 := Y4.out.c1
         have yp2 := Y4.out.c2
         have yp3 := Y4.out.c3
         have yp4 := Y4.out.c4)
      | (have _g : w5 = w5 := rfl
         go_simp
         go_at_call 23
         refine CF.mono ?_
         rintro e w6 ⟨g, rfl, o6, b6⟩
         have O6 := Lib.hid (own_below O5.out b6)
         have K6 := Lib.hid (K5.out.trans (b6.mono (by have := K5.out.size; omega)))
         have U6 := Lib.hid (U3.out.below K6.out (by omega))
         have R6 := Lib.hid o6
         have uq0 := U6.out.c0
         have uq1 := U6.out.c1
         have uq2 := U6.out.c2
         have uq3 := U6.out.c3
         have uq4 := U6.out.c4
         have ug0 := U6.out.fr 0
         have ug1 := U6.out.fr 1
         have ug2 := U6.out.fr 2
         have ug3 := U6.out.fr 3
         have ug4 := U6.out.fr 4)))
  all_goals
    clear uq0 uq1 uq2 uq3 uq4 ug0 ug1 ug2 ug3 ug4 yp0 yp1 yp2 yp3 yp4 xq0 xq1 xq2 xq3 xq4 yq0 yq1 yq2 yq3 yq4 CA CF o4 o6 b4 b5 b6
    have k5 := K5.out.size
    have hR : ReadTy w.heap.size g 2 sa sc' (((((w6.setCell ⟨w.heap.size + 1 + 1, 0, none⟩ (.int .i64 1)).setCell ⟨w.heap.size + 1 + 1, 1, none⟩ (.string ⟨#[102, 117, 110]⟩)).setCell ⟨w.heap.size + 1 + 1, 2, none⟩ (.int .i64 0)).setCell ⟨w.heap.size + 1 + 1, 3, none⟩ (.slice none 0 0)).setCell ⟨w.heap.size + 1 + 1, 4, none⟩ (.slice (some ⟨g, 0, none⟩) 2 2)) :=
      ((ReadTy.mono (B' := w3.heap.size) ⟨own_mono R6.out k5, own_mono O6.out (Nat.le_of_eq hsd.symm)⟩ (Nat.le_refl _)).store5 (by omega) (.int .i64 1) (.string ⟨#[102, 117, 110]⟩) (.int .i64 0) (.slice none 0 0) (.slice (some ⟨g, 0, none⟩) 2 2)).mono (by omega)
    have hU := U6.out.store (.int .i64 1) (.string ⟨#[102, 117, 110]⟩) (.int .i64 0) (.slice none 0 0) (.slice (some ⟨g, 0, none⟩) 2 2)
    have hB6 := HB.out.trans (K6.out.mono (by omega))
    have hB7 := ((((hB6.setCell (p := ⟨w.heap.size + 1 + 1, 0, none⟩) (by show w.heap.size ≤ w.heap.size + 1 + 1; omega) (.int .i64 1)).setCell (p := ⟨w.heap.size + 1 + 1, 1, none⟩) (by show w.heap.size ≤ w.heap.size + 1 + 1; omega) (.string ⟨#[102, 117, 110]⟩)).setCell (p := ⟨w.heap.size + 1 + 1, 2, none⟩) (by show w.heap.size ≤ w.heap.size + 1 + 1; omega) (.int .i64 0)).setCell (p := ⟨w.heap.size + 1 + 1, 3, none⟩) (by show w.heap.size ≤ w.heap.size + 1 + 1; omega) (.slice none 0 0)).setCell (p := ⟨w.heap.size + 1 + 1, 4, none⟩) (by show w.heap.size ≤ w.heap.size + 1 + 1; omega) (.slice (some ⟨g, 0, none⟩) 2 2)
    generalize ((((w6.setCell ⟨w.heap.size + 1 + 1, 0, none⟩ (.int .i64 1)).setCell ⟨w.heap.size + 1 + 1, 1, none⟩ (.string ⟨#[102, 117, 110]⟩)).setCell ⟨w.heap.size + 1 + 1, 2, none⟩ (.int .i64 0)).setCell ⟨w.heap.size + 1 + 1, 3, none⟩ (.slice none 0 0)).setCell ⟨w.heap.size + 1 + 1, 4, none⟩ (.slice (some ⟨g, 0, none⟩) 2 2) = w7 at *
    go_wp2_with fail
    (try simp only [Exit.inBlock, Exit.then])
    refine bodyPost_ret (hU.res rfl _ rfl) rfl ?_
    first | exact ⟨g, rfl, ⟨sa, sc', hR⟩, hB7⟩ | exact ⟨g, sa, sc', rfl, hR, hB7⟩
end Go.Proofs.YthopoidcglfdjaaDoor
