/-
  The names of a node that has none are names.
-/
import Derived.Test.YtdffhnfjcbnioaaDoorA8
import Derived.BigQuiet
namespace Go.Proofs.YtdffhnfjcbnioaaDoor
open Go.RowKit

set_option maxHeartbeats 1000000 in
theorem index1_none (f : Value) (w : World) : Calls Tryd.prog 50 #[.slice none 0 0, f] w fun e w' => e = .returned (.int .i64 (-1)) ∧ w' = w := by
  go_enter Tryd.func50, Tryd.ntmps50
  go_wp2_with fail
  refine wp_loop_rounds 1 ?_
  rw [rounds_succ]
  go_wp2_with fail
  go_ret
  exact ⟨rfl, rfl⟩
set_option maxHeartbeats 1000000 in
theorem index2_none (f : Value) (w : World) : Calls Tryd.prog 51 #[.slice none 0 0, f] w fun e w' => e = .returned (.int .i64 (-1)) ∧ w' = w := by
  go_enter Tryd.func51, Tryd.ntmps51
  go_wp2_with fail
  refine wp_loop_rounds 1 ?_
  rw [rounds_succ]
  go_wp2_with fail
  go_ret
  exact ⟨rfl, rfl⟩
set_option maxHeartbeats 1000000 in
theorem index3_none (f : Value) (w : World) : Calls Tryd.prog 52 #[.slice none 0 0, f] w fun e w' => e = .returned (.int .i64 (-1)) ∧ w' = w := by
  go_enter Tryd.func52, Tryd.ntmps52
  go_wp2_with fail
  refine wp_loop_rounds 1 ?_
  rw [rounds_succ]
  go_wp2_with fail
  go_ret
  exact ⟨rfl, rfl⟩

set_option maxHeartbeats 1000000 in
theorem cont1_none (f : Value) (w : World) (n : Nat) : Calls Tryd.prog 32 #[.slice none 0 0, f] (w.drewN n) fun e w' => e = .returned (.bool false) ∧ ∃ m, w' = w.drewN m := by
  go_enter Tryd.func32, Tryd.ntmps32
  go_wp2_with fail
  (with_reducible refine (index1_none _ _).mono ?_)
  rintro e W ⟨rfl, rfl⟩
  go_wp2_with fail
  go_ret
  exact ⟨rfl, n, rfl⟩
set_option maxHeartbeats 1000000 in
theorem cont2_none (f : Value) (w : World) (n : Nat) : Calls Tryd.prog 33 #[.slice none 0 0, f] (w.drewN n) fun e w' => e = .returned (.bool false) ∧ ∃ m, w' = w.drewN m := by
  go_enter Tryd.func33, Tryd.ntmps33
  go_wp2_with fail
  (with_reducible refine (index2_none _ _).mono ?_)
  rintro e W ⟨rfl, rfl⟩
  go_wp2_with fail
  go_ret
  exact ⟨rfl, n, rfl⟩
set_option maxHeartbeats 1000000 in
theorem cont3_none (f : Value) (w : World) (n : Nat) : Calls Tryd.prog 35 #[.slice none 0 0, f] (w.drewN n) fun e w' => e = .returned (.bool false) ∧ ∃ m, w' = w.drewN m := by
  go_enter Tryd.func35, Tryd.ntmps35
  go_wp2_with fail
  (with_reducible refine (index3_none _ _).mono ?_)
  rintro e W ⟨rfl, rfl⟩
  go_wp2_with fail
  go_ret
  exact ⟨rfl, n, rfl⟩

set_option maxRecDepth 100000 in
set_option maxHeartbeats 4000000 in
theorem names_assume (B b o : Nat) (T : Pf) (w : World) (hB : B ≤ w.heap.size) (hT : AtPf B w b o T) (hK : Kinds w) (h0 : T.op = 3) :
    Calls Tryd.prog 21 #[.pointer (some ⟨b, o, none⟩)] w fun e w' => e = .returned (.bool true) ∧ Below w.heap.size w w' := by
  have hsf : ∀ (fn : Fn) (first cap : Array Value) (a : Addr) (m : Mode) (w : World), (store a (.func fn first cap) m).run Tryd.prog w = stored Tryd.prog w a (.func fn first cap) m := fun _ _ _ a m w => run_store Tryd.prog w a _ m rfl
  have hmf : ∀ (fn : Fn) (first cap : Array Value) (w : World), (Instr.makeFunc fn first cap).run Tryd.prog w = .ok (.func fn first cap) w := fun _ _ _ _ => rfl
  have hal : Below w.heap.size w (w.alloc (.cells #[.func (.func 30) #[] #[]] 87)) := (Below.refl _ w).alloc (Nat.le_refl _) _
  have hb0 := hT.own.1
  have hnew := Go.heap_alloc_new w (.cells #[.func (.func 30) #[] #[]] 87)
  have f0 : (w.alloc (.cells #[.func (.func 30) #[] #[]] 87)).cell? ⟨w.heap.size, 0, none⟩ = some (.func (.func 30) #[] #[]) := by rw [Lib.cell_of_heap hnew]; rfl
  obtain ⟨hb, c0, c1, ct, d11, d12, d13, d14, d15⟩ := (hT.later (hal.mono hB) (Nat.le_refl _)).own
  rw [h0] at c0
  obtain ⟨g0, g1, g2, g3, g4, g5⟩ := (hK.later hal).ass
  simp only [Nat.reduceMul, Nat.reduceAdd] at g0 g1 g2 g3 g4 g5
  clear hnew ct hT hK g0 g2 g3 g4 g5 c1
  go_enter Tryd.func21, Tryd.ntmps21
  go_wp2_with fail
  generalize w.alloc (.cells #[.func (.func 30) #[] #[]] 87) = W at *
  go_quiet ((first | (go_at_call 32; exact cont1_none _ _ _) | (go_at_call 33; exact cont2_none _ _ _) | (go_at_call 35; exact cont3_none _ _ _)))
  go_wp2_with fail
  go_ret
  exact ⟨rfl, below_drewN hal _⟩

set_option maxRecDepth 100000 in
set_option maxHeartbeats 4000000 in
theorem names_impI (B b o : Nat) (T : Pf) (w : World) (hB : B ≤ w.heap.size) (hT : AtPf B w b o T) (hK : Kinds w) (h0 : T.op = 4) :
    Calls Tryd.prog 21 #[.pointer (some ⟨b, o, none⟩)] w fun e w' => e = .returned (.bool true) ∧ Below w.heap.size w w' := by
  have hsf : ∀ (fn : Fn) (first cap : Array Value) (a : Addr) (m : Mode) (w : World), (store a (.func fn first cap) m).run Tryd.prog w = stored Tryd.prog w a (.func fn first cap) m := fun _ _ _ a m w => run_store Tryd.prog w a _ m rfl
  have hmf : ∀ (fn : Fn) (first cap : Array Value) (w : World), (Instr.makeFunc fn first cap).run Tryd.prog w = .ok (.func fn first cap) w := fun _ _ _ _ => rfl
  have hal : Below w.heap.size w (w.alloc (.cells #[.func (.func 30) #[] #[]] 87)) := (Below.refl _ w).alloc (Nat.le_refl _) _
  have hb0 := hT.own.1
  have hnew := Go.heap_alloc_new w (.cells #[.func (.func 30) #[] #[]] 87)
  have f0 : (w.alloc (.cells #[.func (.func 30) #[] #[]] 87)).cell? ⟨w.heap.size, 0, none⟩ = some (.func (.func 30) #[] #[]) := by rw [Lib.cell_of_heap hnew]; rfl
  obtain ⟨hb, c0, c1, ct, d11, d12, d13, d14, d15⟩ := (hT.later (hal.mono hB) (Nat.le_refl _)).own
  rw [h0] at c0
  obtain ⟨g0, g1, g2, g3, g4, g5⟩ := (hK.later hal).imp
  simp only [Nat.reduceMul, Nat.reduceAdd] at g0 g1 g2 g3 g4 g5
  clear hnew ct hT hK g0 g2 g3 g4 g5 c1
  go_enter Tryd.func21, Tryd.ntmps21
  go_wp2_with fail
  generalize w.alloc (.cells #[.func (.func 30) #[] #[]] 87) = W at *
  go_quiet ((first | (go_at_call 32; exact cont1_none _ _ _) | (go_at_call 33; exact cont2_none _ _ _) | (go_at_call 35; exact cont3_none _ _ _)))
  go_wp2_with fail
  go_ret
  exact ⟨rfl, below_drewN hal _⟩
end Go.Proofs.YtdffhnfjcbnioaaDoor
