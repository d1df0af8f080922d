/-
  The three types have the right form and size.
-/
import Derived.Test.YthopoidcglfdjaaDoorX9
namespace Go.Proofs.YthopoidcglfdjaaDoor
open Go.RowKit

set_option maxRecDepth 100000 in
set_option maxHeartbeats 4000000 in
theorem isVar_a (b o : Nat) (w : World) (h : w.cell? ⟨b, o, none⟩ = some (.int .i64 3)) :
    Calls Tryd.prog 46 #[.pointer (some ⟨b, o, none⟩)] w fun e w' => e = .returned (.bool true) ∧ w' = w := by
  go_enter Tryd.func46, Tryd.ntmps46
  go_wp2_with fail
  go_ret
  exact ⟨rfl, rfl⟩

set_option maxRecDepth 100000 in
set_option maxHeartbeats 4000000 in
theorem sortForm_nil (a : Option Addr) (c : Nat) (w : World) :
    Calls Tryd.prog 48 #[.slice a 0 c] w fun e w' => e = .returned (.int .i64 0) ∧ w' = w := by
  go_enter Tryd.func48, Tryd.ntmps48
  go_wp2_with fail
  refine wp_loop_rounds 1 ?_
  rw [rounds_succ]
  go_wp2_with fail
  go_ret
  exact ⟨rfl, rfl⟩

theorem name_c : nameB ⟨#[99]⟩ = true := by decide
theorem name_a : nameB ⟨#[97]⟩ = true := by decide
theorem name_fun : nameB ⟨#[102, 117, 110]⟩ = true := by decide
theorem name_prop : nameB ⟨#[112, 114, 111, 112]⟩ = true := by decide

set_option maxRecDepth 100000 in
set_option maxHeartbeats 4000000 in
theorem sortForm_one (b o c : Nat) (w : World) (h : w.cell? ⟨b, o, none⟩ = some (.string ⟨#[99]⟩)) (_ : 1 ≤ c) :
    Calls Tryd.prog 48 #[.slice (some ⟨b, o, none⟩) 1 c] w fun e w' => e = .returned (.int .i64 0) ∧ w' = w := by
  have hn := Lib.hid (name_any ⟨#[99]⟩ w (by decide))
  rw [name_c] at hn
  go_enter Tryd.func48, Tryd.ntmps48
  go_wp2_with fail
  refine wp_loop_rounds 2 ?_
  rw [rounds_succ]
  go_wp2_with fail
  refine hn.out.mono ?_
  rintro e w' ⟨rfl, rfl⟩
  go_wp2_with fail
  rw [rounds_succ]
  go_wp2_with fail
  go_ret
  exact ⟨rfl, rfl⟩

set_option maxRecDepth 100000 in
set_option maxHeartbeats 4000000 in
theorem nodeForm_con (b o : Nat) (nm : ByteArray) (w : World) (sa : Option Addr) (sc : Nat) (hn : nameB nm = true) (hm : nm.size ≤ 9223372036854775807)
    (k0 : w.cell? ⟨b, o, none⟩ = some (.int .i64 1)) (k1 : w.cell? ⟨b, o + 1, none⟩ = some (.string nm)) (k2 : w.cell? ⟨b, o + 2, none⟩ = some (.int .i64 0)) (k3 : w.cell? ⟨b, o + 3, none⟩ = some (.slice sa 0 sc)) :
    Calls Tryd.prog 33 #[.pointer (some ⟨b, o, none⟩)] w fun e w' => e = .returned (.int .i64 0) ∧ w' = w := by
  have hn' := Lib.hid (name_any nm w hm)
  rw [hn] at hn'
  go_enter Tryd.func33, Tryd.ntmps33
  go_wp2_with fail
  refine hn'.out.mono ?_
  rintro e w' ⟨rfl, rfl⟩
  go_wp2_with fail
  refine (sortForm_nil sa sc w).mono ?_
  rintro e w' ⟨rfl, rfl⟩
  go_wp2_with fail
  go_ret
  exact ⟨rfl, rfl⟩

set_option maxRecDepth 100000 in
set_option maxHeartbeats 4000000 in
theorem nodeForm_a (b o : Nat) (w : World) (sb so sc : Nat) (aa : Option Addr) (ac : Nat) (hsc : 1 ≤ sc)
    (k0 : w.cell? ⟨b, o, none⟩ = some (.int .i64 3)) (k1 : w.cell? ⟨b, o + 1, none⟩ = some (.string ⟨#[97]⟩)) (k2 : w.cell? ⟨b, o + 2, none⟩ = some (.int .i64 0)) (k3 : w.cell? ⟨b, o + 3, none⟩ = some (.slice (some ⟨sb, so, none⟩) 1 sc)) (k4 : w.cell? ⟨b, o + 4, none⟩ = some (.slice aa 0 ac))
    (hs : w.cell? ⟨sb, so, none⟩ = some (.string ⟨#[99]⟩)) :
    Calls Tryd.prog 33 #[.pointer (some ⟨b, o, none⟩)] w fun e w' => e = .returned (.int .i64 0) ∧ w' = w := by
  have hn' := Lib.hid (name_any ⟨#[97]⟩ w (by decide))
  rw [name_a] at hn'
  have hss := Lib.hid (sortForm_one sb so sc w hs hsc)
  have hv := Lib.hid (isVar_a b o w k0)
  clear hs
  go_enter Tryd.func33, Tryd.ntmps33
  go_wp2_with fail
  refine hv.out.mono ?_
  rintro e w' ⟨rfl, rfl⟩
  go_wp2_with fail
  refine hn'.out.mono ?_
  rintro e w' ⟨rfl, rfl⟩
  go_wp2_with fail
  refine hss.out.mono ?_
  rintro e w' ⟨rfl, rfl⟩
  go_wp2_with fail
  go_ret
  exact ⟨rfl, rfl⟩

/-- The nodes of the type of the last words have the right form. -/
theorem node_ok (B : Nat) (w : World) (b o : Nat) (T : Ty) (hT : T = tyFun ∨ T = tyA ∨ T = tyProp) (h : AtTy B w b o T) : Calls Tryd.prog 33 #[.pointer (some ⟨b, o, none⟩)] w fun e w' => e = .returned (.int .i64 0) ∧ w' = w := by
  rcases hT with rfl | rfl | rfl
  · obtain ⟨_, _, op, ix, nm, srt, args, vs, a, cap, ab, ao, hb, k0, k1, k2, k3, k4, hop, hix, hnm, hs, hl, ha, he⟩ := h
    obtain ⟨sa, sc, sb, so, rfl, hsl, hsn, hsc⟩ := hs
    exact nodeForm_con b o _ w sa sc name_fun hnm k0 k1 k2 k3
  · obtain ⟨_, _, op, ix, nm, srt, args, vs, a, cap, ab, ao, hb, k0, k1, k2, k3, k4, hop, hix, hnm, hs, hl, ha, he⟩ := h
    obtain ⟨sa, sc, sb, so, rfl, hsl, hsn, hsc⟩ := hs
    obtain ⟨rfl, hsb⟩ := hsn (by simp)
    exact nodeForm_a b o w sb so sc a cap hsl.1 k0 k1 k2 k3 k4 (hsc 0 (by simp)).1
  · obtain ⟨_, _, op, ix, nm, srt, args, vs, a, cap, ab, ao, hb, k0, k1, k2, k3, k4, hop, hix, hnm, hs, hl, ha, he⟩ := h
    obtain ⟨sa, sc, sb, so, rfl, hsl, hsn, hsc⟩ := hs
    exact nodeForm_con b o _ w sa sc name_prop hnm k0 k1 k2 k3

set_option maxRecDepth 100000 in
set_option maxHeartbeats 4000000 in
theorem fault_ok (mb : Nat) (n d most : Int) (w : World) (h : MeterAt mb n d most w) (hn : n ≤ 20000) (hd : d ≤ 500) :
    Calls Tryd.prog 45 #[.pointer (some ⟨mb, 0, none⟩)] w fun e w' => e = .returned (.int .i64 0) ∧ w' = w := by
  obtain ⟨c0, c1, c2, f0, f1⟩ := h
  go_enter Tryd.func45, Tryd.ntmps45
  go_wp2_with fail
  go_ret
  exact ⟨rfl, rfl⟩

theorem meter_new (w : World) (most : Int) : MeterAt w.heap.size 0 0 most (w.alloc (.cells #[.int .i64 0, .int .i64 0, .int .i64 most] 81)) := by
  have hb := Go.heap_alloc_new w (.cells #[.int .i64 0, .int .i64 0, .int .i64 most] 81)
  refine ⟨?_, ?_, ?_, Lib.frozen_of_heap hb 0, Lib.frozen_of_heap hb 1⟩
  · rw [Lib.cell_of_heap hb]; rfl
  · rw [Lib.cell_of_heap hb]; rfl
  · rw [Lib.cell_of_heap hb]; rfl

set_option maxRecDepth 100000 in
set_option maxHeartbeats 4000000 in
theorem size_ok (B b o : Nat) (T : Ty) (w : World) (hT : AtTy B w b o T) (hB : B ≤ w.heap.size) (hn : T.nodes ≤ 20000) (hd : T.depth ≤ 500) :
    Calls Tryd.prog 32 #[.pointer (some ⟨b, o, none⟩)] w fun e w' => e = .returned (.int .i64 0) ∧ Below w.heap.size w w' := by
  have h1 : Below w.heap.size w (w.alloc (.cells #[.int .i64 0, .int .i64 0, .int .i64 20000] 81)) := (Below.refl _ w).alloc (Nat.le_refl _) _
  have hc := Lib.hid (add_any (T.sz + 1) B w.heap.size b o T 0 0 20000 1 _ (by omega) hB (AtTy.later (h1.mono hB) (Nat.le_refl _) hT) (meter_new w 20000) (by omega) (by omega) (by omega) (by omega) (by omega))
  have H1 := Lib.hid h1
  clear h1
  go_enter Tryd.func32, Tryd.ntmps32
  go_wp2_with fail
  refine hc.out.mono ?_
  rintro e W ⟨rfl, hm, hb⟩
  have hf := Lib.hid (fault_ok w.heap.size _ _ 20000 W hm (by omega) (by omega))
  clear hm
  go_wp2_with fail
  refine hf.out.mono ?_
  rintro e w' ⟨rfl, rfl⟩
  go_wp2_with fail
  go_ret
  exact ⟨rfl, H1.out.trans hb⟩
end Go.Proofs.YthopoidcglfdjaaDoor
