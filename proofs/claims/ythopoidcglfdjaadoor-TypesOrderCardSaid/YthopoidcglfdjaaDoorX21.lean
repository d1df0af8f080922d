/-
  Prop, clone and fun at the types of the last words.
-/
import Derived.Test.YthopoidcglfdjaaDoorX20
import Derived.Deep.RegionHeld3
namespace Go.Proofs.YthopoidcglfdjaaDoor
open Go.RowKit

set_option maxRecDepth 100000 in
set_option maxHeartbeats 4000000 in
theorem prop_ok (w : World) :
    Calls Tryd.prog 12 #[] w fun e w' => e = .returned (.agg #[.int .i64 1, .string ⟨#[112, 114, 111, 112]⟩, .int .i64 0, .slice none 0 0, .slice none 0 0]) ∧ Below w.heap.size w w' := by
  have hx := Lib.hid (Box.new w (.int .i64 1) (.string ⟨#[112, 114, 111, 112]⟩) (.int .i64 0) (.slice none 0 0) (.slice none 0 0))
  go_enter Tryd.func12, Tryd.ntmps12
  go_wp2_with fail
  (try simp only [Exit.inBlock, Exit.then])
  refine bodyPost_ret (hx.out.res rfl _ rfl) rfl ?_
  exact ⟨rfl, (Below.refl _ w).alloc (Nat.le_refl _) _⟩

/-- What fun returns: where its memory lies. -/
theorem row_of_cells {w : World} {B g : Nat} {cs : List Value} (hB : B ≤ g) (h : w.heap[g]? = some (.cells cs.toArray 25 (0, 0))) (hl : cs.length = 10) : w.ownsRow B 25 5 (.slice (some ⟨g, 0, none⟩) 2 2) 2 cs :=
  ⟨by simpa using hl, .inr ⟨g, 2, cs.toArray, rfl, hB, h, Nat.le_refl _, by unfold maxLen; omega, by simpa using hl, List.take_of_length_le (by simp; omega)⟩⟩

set_option maxRecDepth 100000 in
set_option maxHeartbeats 4000000 in
theorem fun_small (w : World) (x0 x1 x2 x4 y0 y1 y2 y3 y4 : Value) (sa : Option Addr) (sc : Nat) (hx0 : x0 = .int .i64 3) (hx1 : x1 = .string ⟨#[97]⟩) (hx2 : x2 = .int .i64 0) (hx4 : x4 = .slice none 0 0)
    (hy0 : y0 = .int .i64 1) (hy1 : y1 = .string ⟨#[112, 114, 111, 112]⟩) (hy2 : y2 = .int .i64 0) (hy3 : y3 = .slice none 0 0) (hy4 : y4 = .slice none 0 0) :
    Calls Tryd.prog 23 #[.agg #[x0, x1, x2, .slice sa 1 sc, x4], .agg #[y0, y1, y2, y3, y4]] w fun e w' => ∃ g, e = .returned (.agg #[.int .i64 1, .string ⟨#[102, 117, 110]⟩, .int .i64 0, .slice none 0 0, .slice (some ⟨g, 0, none⟩) 2 2]) ∧
      w'.ownsRow w.heap.size 25 5 (.slice (some ⟨g, 0, none⟩) 2 2) 2 [x0, x1, x2, .slice sa 1 sc, x4, y0, y1, y2, y3, y4] ∧ Below w.heap.size w w' := by
  subst hx0 hx1 hx2 hx4 hy0 hy1 hy2 hy3 hy4
  go_enter Tryd.func23, Tryd.ntmps23
  go_wp2_with fail
  have hbx : Box (w.heap.size + 1 + 1) (.int .i64 1) (.string ⟨#[102, 117, 110]⟩) (.int .i64 0) (.slice none 0 0) (.slice (some ⟨w.heap.size + 1 + 1 + 1, 0, none⟩) 2 2) (((w.alloc (.cells #[.int .i64 3, .string ⟨#[97]⟩, .int .i64 0, .slice sa 1 sc, .slice none 0 0] 25)).alloc (.cells #[.int .i64 1, .string ⟨#[112, 114, 111, 112]⟩, .int .i64 0, .slice none 0 0, .slice none 0 0] 25)).alloc (.cells #[.int .i64 1, .string ⟨#[102, 117, 110]⟩, .int .i64 0, .slice none 0 0, .slice (some ⟨w.heap.size + 1 + 1 + 1, 0, none⟩) 2 2] 25)) := by
    have := Go.heap_alloc_new ((w.alloc (.cells #[.int .i64 3, .string ⟨#[97]⟩, .int .i64 0, .slice sa 1 sc, .slice none 0 0] 25)).alloc (.cells #[.int .i64 1, .string ⟨#[112, 114, 111, 112]⟩, .int .i64 0, .slice none 0 0, .slice none 0 0] 25)) (.cells #[.int .i64 1, .string ⟨#[102, 117, 110]⟩, .int .i64 0, .slice none 0 0, .slice (some ⟨w.heap.size + 1 + 1 + 1, 0, none⟩) 2 2] 25)
    unfold Box
    simpa using this
  have hb : Below w.heap.size w (((w.alloc (.cells #[.int .i64 3, .string ⟨#[97]⟩, .int .i64 0, .slice sa 1 sc, .slice none 0 0] 25)).alloc (.cells #[.int .i64 1, .string ⟨#[112, 114, 111, 112]⟩, .int .i64 0, .slice none 0 0, .slice none 0 0] 25)).alloc (.cells #[.int .i64 1, .string ⟨#[102, 117, 110]⟩, .int .i64 0, .slice none 0 0, .slice (some ⟨w.heap.size + 1 + 1 + 1, 0, none⟩) 2 2] 25)) := (((Below.refl _ w).alloc (Nat.le_refl _) _).alloc (by simp) _).alloc (by simp; omega) _
  have hs : (((w.alloc (.cells #[.int .i64 3, .string ⟨#[97]⟩, .int .i64 0, .slice sa 1 sc, .slice none 0 0] 25)).alloc (.cells #[.int .i64 1, .string ⟨#[112, 114, 111, 112]⟩, .int .i64 0, .slice none 0 0, .slice none 0 0] 25)).alloc (.cells #[.int .i64 1, .string ⟨#[102, 117, 110]⟩, .int .i64 0, .slice none 0 0, .slice (some ⟨w.heap.size + 1 + 1 + 1, 0, none⟩) 2 2] 25)).heap.size = w.heap.size + 1 + 1 + 1 := by simp
  generalize (((w.alloc (.cells #[.int .i64 3, .string ⟨#[97]⟩, .int .i64 0, .slice sa 1 sc, .slice none 0 0] 25)).alloc (.cells #[.int .i64 1, .string ⟨#[112, 114, 111, 112]⟩, .int .i64 0, .slice none 0 0, .slice none 0 0] 25)).alloc (.cells #[.int .i64 1, .string ⟨#[102, 117, 110]⟩, .int .i64 0, .slice none 0 0, .slice (some ⟨w.heap.size + 1 + 1 + 1, 0, none⟩) 2 2] 25)) = w3 at *
  have h4 := Go.heap_alloc_new w3 (.cells #[.int .i64 3, .string ⟨#[97]⟩, .int .i64 0, .slice sa 1 sc, .slice none 0 0, .int .i64 1, .string ⟨#[112, 114, 111, 112]⟩, .int .i64 0, .slice none 0 0, .slice none 0 0] 25)
  have b4 : Below w3.heap.size w3 (w3.alloc (.cells #[.int .i64 3, .string ⟨#[97]⟩, .int .i64 0, .slice sa 1 sc, .slice none 0 0, .int .i64 1, .string ⟨#[112, 114, 111, 112]⟩, .int .i64 0, .slice none 0 0, .slice none 0 0] 25)) := (Below.refl _ w3).alloc (Nat.le_refl _) _
  (try simp only [Exit.inBlock, Exit.then])
  refine bodyPost_ret ((hbx.below b4 (by omega)).res rfl _ rfl) rfl ?_
  refine ⟨_, rfl, row_of_cells (by omega) ?_ rfl, hb.trans (b4.mono (by omega))⟩
  rw [hs] at h4
  exact h4

theorem cloned_nil (w : World) : Calls Tryd.prog 37 #[.slice none 0 0] w fun e w' => e = .returned (.slice none 0 0) ∧ w' = w := Tryd.slices_Clone_string_nil 0 0 w
theorem cloned_c (sb so sc : Nat) (w : World) (h : w.cell? ⟨sb, so, none⟩ = some (.string ⟨#[99]⟩)) : Calls Tryd.prog 37 #[.slice (some ⟨sb, so, none⟩) 1 sc] w fun e w' => ∃ v', e = .returned v' ∧ w'.ownsRow w.heap.size 9 1 v' 1 [.string ⟨#[99]⟩] ∧ Below w.heap.size w w' := by
  refine (Tryd.slices_Clone_string sb so 1 sc [⟨#[99]⟩] w (by simp) (by omega) (fun j hj => ?_)).mono ?_
  · obtain rfl : j = 0 := by simpa using hj
    exact h
  · rintro e w' ⟨v', rfl, h1, _, h2⟩
    exact ⟨v', rfl, h1, h2⟩

set_option maxRecDepth 100000 in
set_option maxHeartbeats 4000000 in
theorem clone_prop (w : World) :
    Calls Tryd.prog 24 #[.agg #[.int .i64 1, .string ⟨#[112, 114, 111, 112]⟩, .int .i64 0, .slice none 0 0, .slice none 0 0]] w fun e w' => e = .returned (.agg #[.int .i64 1, .string ⟨#[112, 114, 111, 112]⟩, .int .i64 0, .slice none 0 0, .slice none 0 0]) ∧ Below w.heap.size w w' := by
  go_enter Tryd.func24, Tryd.ntmps24
  go_wp2_with fail
  refine (cloned_nil _).mono ?_
  rintro e w' ⟨rfl, rfl⟩
  go_wp2_with fail
  have hbx : Box (w.heap.size + 1) (.int .i64 1) (.string ⟨#[112, 114, 111, 112]⟩) (.int .i64 0) (.slice none 0 0) (.slice none 0 0) ((w.alloc (.cells #[.int .i64 1, .string ⟨#[112, 114, 111, 112]⟩, .int .i64 0, .slice none 0 0, .slice none 0 0] 25)).alloc (.cells #[.int .i64 1, .string ⟨#[112, 114, 111, 112]⟩, .int .i64 0, .slice none 0 0, .slice none 0 0] 25)) := Go.heap_alloc2_new w _ _
  (try simp only [Exit.inBlock, Exit.then])
  refine bodyPost_ret (hbx.res rfl _ rfl) rfl ?_
  exact ⟨rfl, ((Below.refl _ w).alloc (Nat.le_refl _) _).alloc (by simp) _⟩

set_option maxRecDepth 100000 in
set_option maxHeartbeats 4000000 in
theorem clone_a (sb so sc : Nat) (w : World) (h : w.cell? ⟨sb, so, none⟩ = some (.string ⟨#[99]⟩)) (hlt : sb < w.heap.size) :
    Calls Tryd.prog 24 #[.agg #[.int .i64 3, .string ⟨#[97]⟩, .int .i64 0, .slice (some ⟨sb, so, none⟩) 1 sc, .slice none 0 0]] w fun e w' => ∃ sa sc', e = .returned (.agg #[.int .i64 3, .string ⟨#[97]⟩, .int .i64 0, .slice sa 1 sc', .slice none 0 0]) ∧ w'.ownsRow w.heap.size 9 1 (.slice sa 1 sc') 1 [.string ⟨#[99]⟩] ∧ Below w.heap.size w w' := by
  go_enter Tryd.func24, Tryd.ntmps24
  go_wp2_with fail
  have hb : Below w.heap.size w ((w.alloc (.cells #[.int .i64 3, .string ⟨#[97]⟩, .int .i64 0, .slice (some ⟨sb, so, none⟩) 1 sc, .slice none 0 0] 25)).alloc (.cells #[.int .i64 0, .string ⟨#[]⟩, .int .i64 0, .slice none 0 0, .slice none 0 0] 25)) := ((Below.refl _ w).alloc (Nat.le_refl _) _).alloc (by simp) _
  have hs : ((w.alloc (.cells #[.int .i64 3, .string ⟨#[97]⟩, .int .i64 0, .slice (some ⟨sb, so, none⟩) 1 sc, .slice none 0 0] 25)).alloc (.cells #[.int .i64 0, .string ⟨#[]⟩, .int .i64 0, .slice none 0 0, .slice none 0 0] 25)).heap.size = w.heap.size + 1 + 1 := by simp
  have x2 : Box w.heap.size (.int .i64 3) (.string ⟨#[97]⟩) (.int .i64 0) (.slice (some ⟨sb, so, none⟩) 1 sc) (.slice none 0 0) ((w.alloc (.cells #[.int .i64 3, .string ⟨#[97]⟩, .int .i64 0, .slice (some ⟨sb, so, none⟩) 1 sc, .slice none 0 0] 25)).alloc (.cells #[.int .i64 0, .string ⟨#[]⟩, .int .i64 0, .slice none 0 0, .slice none 0 0] 25)) := by
    unfold Box; rw [Below.heap_alloc _ _ _ (by simp)]; exact Go.heap_alloc_new w _
  have y2 : Box (w.heap.size + 1) (.int .i64 0) (.string ⟨#[]⟩) (.int .i64 0) (.slice none 0 0) (.slice none 0 0) ((w.alloc (.cells #[.int .i64 3, .string ⟨#[97]⟩, .int .i64 0, .slice (some ⟨sb, so, none⟩) 1 sc, .slice none 0 0] 25)).alloc (.cells #[.int .i64 0, .string ⟨#[]⟩, .int .i64 0, .slice none 0 0, .slice none 0 0] 25)) := Go.heap_alloc2_new w _ _
  have h2 := (hb.cell (p := ⟨sb, so, none⟩) hlt).trans h
  generalize ((w.alloc (.cells #[.int .i64 3, .string ⟨#[97]⟩, .int .i64 0, .slice (some ⟨sb, so, none⟩) 1 sc, .slice none 0 0] 25)).alloc (.cells #[.int .i64 0, .string ⟨#[]⟩, .int .i64 0, .slice none 0 0, .slice none 0 0] 25)) = w2 at *
  refine (cloned_c sb so sc w2 h2).mono ?_
  rintro e w3 ⟨v', rfl, o3, b3⟩
  obtain ⟨sa, sc', rfl⟩ := own_form o3
  rw [hs] at o3 b3
  have x3 := x2.below b3 (by omega)
  have y3 := y2.below b3 (by omega)
  have O3 := Lib.hid o3
  have B3 := Lib.hid (hb.trans (b3.mono (by omega)))
  have X3 := Lib.hid x3
  have Y3 := Lib.hid y3
  have xq0 := x3.c0
  have xg0 := x3.fr 0
  have yq0 := y3.c0
  have yg0 := y3.fr 0
  have xq1 := x3.c1
  have xg1 := x3.fr 1
  have yq1 := y3.c1
  have yg1 := y3.fr 1
  have xq2 := x3.c2
  have xg2 := x3.fr 2
  have yq2 := y3.c2
  have yg2 := y3.fr 2
  have xq3 := x3.c3
  have xg3 := x3.fr 3
  have yq3 := y3.c3
  have yg3 := y3.fr 3
  have xq4 := x3.c4
  have xg4 := x3.fr 4
  have yq4 := y3.c4
  have yg4 := y3.fr 4
  have n1 : w.heap.size + 1 ≠ w.heap.size := by omega
  clear x3 y3 o3 b3 x2 y2 h2 h hb
  go_wp2_with fail
  (try simp only [Exit.inBlock, Exit.then])
  have Y4 := ((Y3.out.setFar (p := ⟨w.heap.size, 3, none⟩) n1 (.slice sa 1 sc')).setFar (p := ⟨w.heap.size, 4, none⟩) n1 (.slice none 0 0)).store (.int .i64 3) (.string ⟨#[97]⟩) (.int .i64 0) (.slice sa 1 sc') (.slice none 0 0)
  refine bodyPost_ret (Y4.res rfl _ rfl) rfl ?_
  refine ⟨sa, sc', rfl, own_mono (own_store5 (own_set (own_set O3.out ⟨w.heap.size, 3, none⟩ _ (by show w.heap.size < w.heap.size + 1 + 1; omega)) ⟨w.heap.size, 4, none⟩ _ (by show w.heap.size < w.heap.size + 1 + 1; omega)) (by omega) _ _ _ _ _) (by omega), ?_⟩
  exact ((((((B3.out.setCell (p := ⟨w.heap.size, 3, none⟩) (Nat.le_refl _) _).setCell (p := ⟨w.heap.size, 4, none⟩) (Nat.le_refl _) _).setCell (p := ⟨w.heap.size + 1, 0, none⟩) (by show w.heap.size ≤ w.heap.size + 1; omega) _).setCell (p := ⟨w.heap.size + 1, 1, none⟩) (by show w.heap.size ≤ w.heap.size + 1; omega) _).setCell (p := ⟨w.heap.size + 1, 2, none⟩) (by show w.heap.size ≤ w.heap.size + 1; omega) _).setCell (p := ⟨w.heap.size + 1, 3, none⟩) (by show w.heap.size ≤ w.heap.size + 1; omega) _).setCell (p := ⟨w.heap.size + 1, 4, none⟩) (by show w.heap.size ≤ w.heap.size + 1; omega) _
end Go.Proofs.YthopoidcglfdjaaDoor
