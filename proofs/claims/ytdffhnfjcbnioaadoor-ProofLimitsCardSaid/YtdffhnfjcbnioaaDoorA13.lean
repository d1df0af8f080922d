/-
  proof.Text of the proof of A ==> A.
-/
import Derived.Test.YtdffhnfjcbnioaaDoorA12
import Derived.Recover
namespace Go.Proofs.YtdffhnfjcbnioaaDoor
open Go.RowKit

theorem pcatch_idle (p q : Value) (w : World) :
    CallsD Tryd.prog 13 #[p, q] .returning w fun e u' w' => e = .returned (.tuple #[]) ∧ u' = .returning ∧ w' = w := by
  refine callsD_of_wpS Tryd.func13 rfl fun c₀ cs hu => ?_
  apply wpS_seq
  apply wpS_region
  simp [wpOpsS, go_sem, recoverD, hu, Tryd.ntmps13, Exit.thenS]
  apply wpS_seq
  apply wpS_region
  simp [wpOpsS, go_sem, recoverD, hu, Tryd.ntmps13, Exit.thenS]
  refine wpS_cond (t := false) (by simp [Act.eval, Array.replicate]) ?_
  simp only [Bool.false_eq_true, if_false]
  refine wpS_of_wp (wp_skip ?_)
  cases c₀
  simp_all [bodyPostS, results, Tryd.results13]

theorem txtI_ne (nm tn : ByteArray) : txtI nm tn ≠ [] := by simp [txtI]

set_option maxRecDepth 100000 in
set_option maxHeartbeats 4000000 in
theorem ptext_I (kb : Nat) (w : World) (t : TypeId) (hkb : kb < w.heap.size) (hk : w.heap[kb]? = some (.cells (pcA 3 none 0 0) t (0, 0))) (hK : Kinds w) :
    Calls Tryd.prog 8 #[.agg (pcA 4 (some ⟨kb, 0, none⟩) 1 1)] w fun e w' => e = .returned (.tuple #[.string ⟨(txtI nA nProp).toArray⟩, .int .i64 0]) ∧ Below w.heap.size w w' := by
  have hmf : ∀ (fn : Fn) (first cap : Array Value) (w : World), (Instr.makeFunc fn first cap).run Tryd.prog w = .ok (.func fn first cap) w := fun _ _ _ _ => rfl
  have a1 : Below w.heap.size w (w.alloc (.cells (pcA 4 (some ⟨kb, 0, none⟩) 1 1) 36)) := (Below.refl _ w).alloc (Nat.le_refl _) _
  have z1 : (w.alloc (.cells (pcA 4 (some ⟨kb, 0, none⟩) 1 1) 36)).heap.size = w.heap.size + 1 := by simp
  have n1 := Go.heap_alloc_new w (.cells (pcA 4 (some ⟨kb, 0, none⟩) 1 1) 36)
  have W1 : ∃ w1, w.alloc (.cells (pcA 4 (some ⟨kb, 0, none⟩) 1 1) 36) = w1 := ⟨_, rfl⟩
  obtain ⟨w1, hw1⟩ := W1
  rw [hw1] at a1 z1 n1
  have a2 : Below w1.heap.size w1 (w1.alloc (.cells #[.string ⟨#[]⟩] 9)) := (Below.refl _ w1).alloc (Nat.le_refl _) _
  have z2 : (w1.alloc (.cells #[.string ⟨#[]⟩] 9)).heap.size = w1.heap.size + 1 := by simp
  have n2 := Go.heap_alloc_new w1 (.cells #[.string ⟨#[]⟩] 9)
  have W2 : ∃ w2, w1.alloc (.cells #[.string ⟨#[]⟩] 9) = w2 := ⟨_, rfl⟩
  obtain ⟨w2, hw2⟩ := W2
  rw [hw2] at a2 z2 n2
  have a3 : Below w2.heap.size w2 (w2.alloc (.cells #[.int .i64 0] 37)) := (Below.refl _ w2).alloc (Nat.le_refl _) _
  have z3 : (w2.alloc (.cells #[.int .i64 0] 37)).heap.size = w2.heap.size + 1 := by simp
  have n3 := Go.heap_alloc_new w2 (.cells #[.int .i64 0] 37)
  have W3 : ∃ w3, w2.alloc (.cells #[.int .i64 0] 37) = w3 := ⟨_, rfl⟩
  obtain ⟨w3, hw3⟩ := W3
  rw [hw3] at a3 z3 n3
  rw [z2, z1] at n3
  rw [z1] at n2
  have b3 : Below w.heap.size w w3 := (a1.trans (a2.mono (by omega))).trans (a3.mono (by omega))
  have p3 : w3.heap[w.heap.size]? = some (.cells (pcA 4 (some ⟨kb, 0, none⟩) 1 1) 36 (0, 0)) := (a3.block _ (by omega)).trans ((a2.block _ (by omega)).trans n1)
  have s3 : w3.heap[w.heap.size + 1]? = some (.cells #[.string ⟨#[]⟩] 9 (0, 0)) := (a3.block _ (by omega)).trans n2
  have k3 := (b3.block kb hkb).trans hk
  have z : w3.heap.size = w.heap.size + 3 := by omega
  have hA : AtPf (w.heap.size + 1) w3 w.heap.size 0 pfI := pfI_at (by omega) (by omega) k3 p3
  have K3 := hK.later b3
  have hck := check_good (w.heap.size + 1) w.heap.size 0 pfI w3 (by omega) hA K3 good_pfI (by rw [depth_pfI]; omega)
  rw [limit_pfI] at hck
  have HCk := Lib.hid hck
  have HPr := Lib.hid fun W (hW : Below w3.heap.size w3 W) => by
    have hal : Below W.heap.size W (W.alloc (.cells #[.pointer none, .slice none 0 0, .bool false] 60)) := (Below.refl _ W).alloc (Nat.le_refl _) _
    have hzz := hW.size
    have hW3 : Below w3.heap.size w3 (W.alloc (.cells #[.pointer none, .slice none 0 0, .bool false] 60)) := hW.trans (hal.mono hW.size)
    have hbs : IsBs 60 [.bool false] W.heap.size W.heap.size [] (W.alloc (.cells #[.pointer none, .slice none 0 0, .bool false] 60)) :=
      .inl ⟨Nat.le_refl _, .slice none 0 0, Go.heap_alloc_new W _, World.ownsRow_nil _ _ _ _, by simp [Value.ownBlock]⟩
    exact pproof_impI nA nProp W.heap.size W.heap.size (w.heap.size + 1) w.heap.size 0 pfI [] _ hbs hal.size (by omega) (by omega) (hA.later (hW3.mono (by omega)) (Nat.le_refl _)) (K3.later hW3) rfl rfl pfA rfl rfl rfl rfl (by decide) (by decide) (by decide) (by decide) (by simp)
  have HW3 := Lib.hid (show ((w.alloc (.cells (pcA 4 (some ⟨kb, 0, none⟩) 1 1) 36)).alloc (.cells #[.string ⟨#[]⟩] 9)).alloc (.cells #[.int .i64 0] 37) = w3 by rw [hw1, hw2, hw3])
  have B3 := Lib.hid b3
  have S3 := Lib.hid s3
  have R3 := Lib.hid n3
  have Z3 := Lib.hid z
  clear a1 a2 a3 z1 z2 z3 n1 n2 n3 hw1 hw2 hw3 b3 p3 s3 k3 z hA K3 hck hk hK
  unfold pcA at HW3 ⊢
  go_enter_defers Tryd.func8, Tryd.ntmps8
  go_wp2_with fail
  rw [HW3.out]
  (with_reducible refine HCk.out.mono ?_)
  rintro e W ⟨rfl, hW⟩
  have HPr2 := Lib.hid (HPr.out W hW)
  have HW := Lib.hid hW
  clear hW
  go_wp2_with fail
  (with_reducible refine HPr2.out.mono ?_)
  rintro e V ⟨rfl, hb, hbw, _⟩
  obtain ⟨_, f0, f1⟩ := hb.full
  have HST := Lib.hid (bs_string 60 [.bool false] W.heap.size W.heap.size (txtI nA nProp) V hb (txtI_ne _ _))
  have hal : Below W.heap.size W (W.alloc (.cells #[.pointer none, .slice none 0 0, .bool false] 60)) := (Below.refl _ W).alloc (Nat.le_refl _) _
  have HBW := Lib.hid (hal.trans hbw)
  clear hb hbw hal
  go_wp2_with fail
  (with_reducible refine HST.out.mono ?_)
  rintro e W4 ⟨rfl, hb4⟩
  have hz3 := Z3.out
  have h34 : Below w3.heap.size w3 W4 := HW.out.trans ((HBW.out.trans hb4).mono HW.out.size)
  have s4 := (h34.block (w.heap.size + 1) (by omega)).trans S3.out
  have r4 := (h34.block (w.heap.size + 1 + 1) (by omega)).trans R3.out
  have HB4 := Lib.hid (B3.out.trans (h34.mono (by omega)))
  have cs : W4.cell? ⟨w.heap.size + 1, 0, none⟩ = some (.string ⟨#[]⟩) := by rw [Lib.cell_of_heap s4]; rfl
  have fs : W4.frozen? ⟨w.heap.size + 1, 0, none⟩ = false := Lib.frozen_of_heap s4 0
  have cr : W4.cell? ⟨w.heap.size + 1 + 1, 0, none⟩ = some (.int .i64 0) := by rw [Lib.cell_of_heap r4]; rfl
  have fr : W4.frozen? ⟨w.heap.size + 1 + 1, 0, none⟩ = false := Lib.frozen_of_heap r4 0
  have n1 : w.heap.size + 1 + 1 ≠ w.heap.size + 1 := by omega
  have S5 := Lib.hid ((Below.heap_setCell (W4.setCell ⟨w.heap.size + 1, 0, none⟩ (.string ⟨(txtI nA nProp).toArray⟩)) ⟨w.heap.size + 1 + 1, 0, none⟩ (.int .i64 0) (w.heap.size + 1) n1.symm).trans (Go.heap_setCell_same W4 (w.heap.size + 1) 0 _ 9 (.string ⟨(txtI nA nProp).toArray⟩) s4))
  have R5 := Lib.hid (Go.heap_setCell_same (W4.setCell ⟨w.heap.size + 1, 0, none⟩ (.string ⟨(txtI nA nProp).toArray⟩)) (w.heap.size + 1 + 1) 0 _ 37 (.int .i64 0) ((Below.heap_setCell W4 ⟨w.heap.size + 1, 0, none⟩ (.string ⟨(txtI nA nProp).toArray⟩) (w.heap.size + 1 + 1) n1).trans r4))
  have B5 := Lib.hid ((HB4.out.setCell (p := ⟨w.heap.size + 1, 0, none⟩) (by show w.heap.size ≤ w.heap.size + 1; omega) (.string ⟨(txtI nA nProp).toArray⟩)).setCell (p := ⟨w.heap.size + 1 + 1, 0, none⟩) (by show w.heap.size ≤ w.heap.size + 1 + 1; omega) (.int .i64 0))
  clear s4 r4 h34 hb4 hz3 f0 f1
  go_wp2_with fail
  generalize (W4.setCell ⟨w.heap.size + 1, 0, none⟩ (.string ⟨(txtI nA nProp).toArray⟩)).setCell ⟨w.heap.size + 1 + 1, 0, none⟩ (.int .i64 0) = W5 at *
  refine leaves_cons (f := 13) (args := #[.pointer (some ⟨w.heap.size + 1, 0, none⟩), .pointer (some ⟨w.heap.size + 1 + 1, 0, none⟩)]) (by simp) (by simp [go_sem]) ?_
  refine (pcatch_idle _ _ _).mono ?_
  rintro e u' w'' ⟨rfl, rfl, rfl⟩
  refine ⟨_, results_cc rfl _ _ ⟨w.heap.size + 1, 0, none⟩ ⟨w.heap.size + 1 + 1, 0, none⟩ (.string ⟨(txtI nA nProp).toArray⟩) (.int .i64 0) rfl rfl (run_loadVar_cell _ _ _ _ (Tryd.isAgg9 _) (by rw [Lib.cell_of_heap S5.out]; rfl)) (run_loadVar_cell _ _ _ _ (Tryd.isAgg37 _) (by rw [Lib.cell_of_heap R5.out]; rfl)), ?_⟩
  exact ⟨rfl, B5.out⟩
end Go.Proofs.YtdffhnfjcbnioaaDoor
