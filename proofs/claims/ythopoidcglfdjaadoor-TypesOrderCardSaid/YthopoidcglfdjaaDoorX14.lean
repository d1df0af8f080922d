/-
  The parts of that text that are words; an index.
-/
import Derived.Test.YthopoidcglfdjaaDoorX13
namespace Go.Proofs.YthopoidcglfdjaaDoor
open Go.RowKit

set_option maxRecDepth 100000 in
set_option maxHeartbeats 4000000 in
theorem readIndex0 (w : World) : Calls Tryd.prog 72 #[.string ⟨#[48]⟩] w fun e w' => e = .returned (.tuple #[.int .i64 0, .bool true]) ∧ w' = w := by
  go_enter Tryd.func72, Tryd.ntmps72
  go_wp2_with fail
  refine wp_loop_rounds 2 ?_
  rw [rounds_succ]
  go_wp2_with fail
  rw [rounds_succ]
  go_wp2_with fail
  go_ret2
  exact ⟨rfl, rfl⟩

theorem name_is (t : ByteArray) (v : Bool) (w : World) (hv : nameB t = v) (hs : t.size ≤ 9223372036854775807) : Calls Tryd.prog 47 #[.string t] w fun e w' => e = .returned (.bool v) ∧ w' = w := by
  subst hv
  exact (name_any t w hs).mono fun e w' ⟨h1, h2⟩ => ⟨h1, h2.symm⟩

theorem ret_two {a b a' b' : ByteArray} (h : a = a') (k : b = b') : Ending.returned (.tuple #[.string a, .string b]) = .returned (.tuple #[.string a', .string b']) := by rw [h, k]

set_option maxRecDepth 100000 in
set_option maxHeartbeats 4000000 in
theorem splitWord_fun (w : World) : Calls Tryd.prog 70 #[.string ⟨#[102, 117, 110, 40, 63, 97, 46, 48, 123, 99, 125, 44, 32, 112, 114, 111, 112, 41]⟩] w fun e w' => e = .returned (.tuple #[.string ⟨#[102, 117, 110]⟩, .string ⟨#[40, 63, 97, 46, 48, 123, 99, 125, 44, 32, 112, 114, 111, 112, 41]⟩]) ∧ Below w.heap.size w w' := by
  have hb : Below w.heap.size w w := Below.refl _ _
  go_enter Tryd.func70, Tryd.ntmps70
  go_wp2_with fail
  refine wp_loop_rounds 4 ?_
  rw [rounds_succ]
  go_wp2_with fail
  refine Calls.mono (name_is _ true _ ?h1 ?h2) ?_
  case h1 => decide
  case h2 => decide
  rintro e w' ⟨rfl, rfl⟩
  go_wp2_with fail
  rw [rounds_succ]
  go_wp2_with fail
  refine Calls.mono (name_is _ true _ ?h1 ?h2) ?_
  case h1 => decide
  case h2 => decide
  rintro e w' ⟨rfl, rfl⟩
  go_wp2_with fail
  rw [rounds_succ]
  go_wp2_with fail
  refine Calls.mono (name_is _ true _ ?h1 ?h2) ?_
  case h1 => decide
  case h2 => decide
  rintro e w' ⟨rfl, rfl⟩
  go_wp2_with fail
  rw [rounds_succ]
  go_wp2_with fail
  refine Calls.mono (name_is _ false _ ?h1 ?h2) ?_
  case h1 => decide
  case h2 => decide
  rintro e w' ⟨rfl, rfl⟩
  go_wp2_with fail
  go_quiet (fail)
  go_wp2_with fail
  go_ret2
  exact ⟨ret_two (by decide) (by decide), below_drewN hb _⟩

set_option maxRecDepth 100000 in
set_option maxHeartbeats 4000000 in
theorem splitWord_a (w : World) : Calls Tryd.prog 70 #[.string ⟨#[97, 46, 48, 123, 99, 125, 44, 32, 112, 114, 111, 112, 41]⟩] w fun e w' => e = .returned (.tuple #[.string ⟨#[97, 46, 48]⟩, .string ⟨#[123, 99, 125, 44, 32, 112, 114, 111, 112, 41]⟩]) ∧ Below w.heap.size w w' := by
  have hb : Below w.heap.size w w := Below.refl _ _
  go_enter Tryd.func70, Tryd.ntmps70
  go_wp2_with fail
  refine wp_loop_rounds 4 ?_
  rw [rounds_succ]
  go_wp2_with fail
  refine Calls.mono (name_is _ true _ ?h1 ?h2) ?_
  case h1 => decide
  case h2 => decide
  rintro e w' ⟨rfl, rfl⟩
  go_wp2_with fail
  rw [rounds_succ]
  go_wp2_with fail
  refine Calls.mono (name_is _ true _ ?h1 ?h2) ?_
  case h1 => decide
  case h2 => decide
  rintro e w' ⟨rfl, rfl⟩
  go_wp2_with fail
  rw [rounds_succ]
  go_wp2_with fail
  refine Calls.mono (name_is _ true _ ?h1 ?h2) ?_
  case h1 => decide
  case h2 => decide
  rintro e w' ⟨rfl, rfl⟩
  go_wp2_with fail
  rw [rounds_succ]
  go_wp2_with fail
  refine Calls.mono (name_is _ false _ ?h1 ?h2) ?_
  case h1 => decide
  case h2 => decide
  rintro e w' ⟨rfl, rfl⟩
  go_wp2_with fail
  go_quiet (fail)
  go_wp2_with fail
  go_ret2
  exact ⟨ret_two (by decide) (by decide), below_drewN hb _⟩

set_option maxRecDepth 100000 in
set_option maxHeartbeats 4000000 in
theorem splitWord_c (w : World) : Calls Tryd.prog 70 #[.string ⟨#[99, 125, 44, 32, 112, 114, 111, 112, 41]⟩] w fun e w' => e = .returned (.tuple #[.string ⟨#[99]⟩, .string ⟨#[125, 44, 32, 112, 114, 111, 112, 41]⟩]) ∧ Below w.heap.size w w' := by
  have hb : Below w.heap.size w w := Below.refl _ _
  go_enter Tryd.func70, Tryd.ntmps70
  go_wp2_with fail
  refine wp_loop_rounds 2 ?_
  rw [rounds_succ]
  go_wp2_with fail
  refine Calls.mono (name_is _ true _ ?h1 ?h2) ?_
  case h1 => decide
  case h2 => decide
  rintro e w' ⟨rfl, rfl⟩
  go_wp2_with fail
  rw [rounds_succ]
  go_wp2_with fail
  refine Calls.mono (name_is _ false _ ?h1 ?h2) ?_
  case h1 => decide
  case h2 => decide
  rintro e w' ⟨rfl, rfl⟩
  go_wp2_with fail
  go_quiet (fail)
  go_wp2_with fail
  go_ret2
  exact ⟨ret_two (by decide) (by decide), below_drewN hb _⟩

set_option maxRecDepth 100000 in
set_option maxHeartbeats 4000000 in
theorem splitWord_prop (w : World) : Calls Tryd.prog 70 #[.string ⟨#[112, 114, 111, 112, 41]⟩] w fun e w' => e = .returned (.tuple #[.string ⟨#[112, 114, 111, 112]⟩, .string ⟨#[41]⟩]) ∧ Below w.heap.size w w' := by
  have hb : Below w.heap.size w w := Below.refl _ _
  go_enter Tryd.func70, Tryd.ntmps70
  go_wp2_with fail
  refine wp_loop_rounds 5 ?_
  rw [rounds_succ]
  go_wp2_with fail
  refine Calls.mono (name_is _ true _ ?h1 ?h2) ?_
  case h1 => decide
  case h2 => decide
  rintro e w' ⟨rfl, rfl⟩
  go_wp2_with fail
  rw [rounds_succ]
  go_wp2_with fail
  refine Calls.mono (name_is _ true _ ?h1 ?h2) ?_
  case h1 => decide
  case h2 => decide
  rintro e w' ⟨rfl, rfl⟩
  go_wp2_with fail
  rw [rounds_succ]
  go_wp2_with fail
  refine Calls.mono (name_is _ true _ ?h1 ?h2) ?_
  case h1 => decide
  case h2 => decide
  rintro e w' ⟨rfl, rfl⟩
  go_wp2_with fail
  rw [rounds_succ]
  go_wp2_with fail
  refine Calls.mono (name_is _ true _ ?h1 ?h2) ?_
  case h1 => decide
  case h2 => decide
  rintro e w' ⟨rfl, rfl⟩
  go_wp2_with fail
  rw [rounds_succ]
  go_wp2_with fail
  refine Calls.mono (name_is _ false _ ?h1 ?h2) ?_
  case h1 => decide
  case h2 => decide
  rintro e w' ⟨rfl, rfl⟩
  go_wp2_with fail
  go_quiet (fail)
  go_wp2_with fail
  go_ret2
  exact ⟨ret_two (by decide) (by decide), below_drewN hb _⟩
end Go.Proofs.YthopoidcglfdjaaDoor
