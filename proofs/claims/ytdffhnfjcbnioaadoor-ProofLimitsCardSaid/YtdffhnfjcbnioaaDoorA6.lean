/-
  term.Text of a fixed variable.
-/
import Derived.Test.YtdffhnfjcbnioaaDoorA5
import Derived.Recover
namespace Go.Proofs.YtdffhnfjcbnioaaDoor
open Go.RowKit

theorem wcatch_idle (p q : Value) (w : World) :
    CallsD Tryd.prog 68 #[p, q] .returning w fun e u' w' => e = .returned (.tuple #[]) ∧ u' = .returning ∧ w' = w := by
  refine callsD_of_wpS Tryd.func68 rfl fun c₀ cs hu => ?_
  apply wpS_seq
  apply wpS_region
  simp [wpOpsS, go_sem, recoverD, hu, Tryd.ntmps68, Exit.thenS]
  apply wpS_seq
  apply wpS_region
  simp [wpOpsS, go_sem, recoverD, hu, Tryd.ntmps68, Exit.thenS]
  refine wpS_cond (t := false) (by simp [Act.eval, Array.replicate]) ?_
  simp only [Bool.false_eq_true, if_false]
  refine wpS_of_wp (wp_skip ?_)
  cases c₀
  simp_all [bodyPostS, results, Tryd.results68]

theorem results_cc {P : Program} {fn : Func} {p q : Tmp} {t u : TypeId} (h : fn.results = #[.cell p t, .cell q u]) (tmps : Array Value) (w : World) (a b : Addr) (x y : Value) (hp : tmps.getD p undef = .pointer (some a)) (hq : tmps.getD q undef = .pointer (some b))
    (h1 : (loadVar t a).run P w = .ok x w) (h2 : (loadVar u b).run P w = .ok y w) : (results fn tmps).run P w = .ok (.tuple #[x, y]) w := by
  have hp' : tmps[p]?.getD undef = .pointer (some a) := by simpa using hp
  have hq' : tmps[q]?.getD undef = .pointer (some b) := by simpa using hq
  simp [results, h, hp', hq', asAddr, Sem.run_bind, h1, h2, Result.andThen]

theorem txtF_ne (nm tn : ByteArray) : txtF nm tn ≠ [] := by simp [txtF]

set_option maxRecDepth 100000 in
set_option maxHeartbeats 4000000 in
theorem twrite_free (nm tn : ByteArray) (Bt tb to : Nat) (w : World) (hBt : Bt ≤ w.heap.size) (hT : AtTm Bt w tb to (tmF nm tn)) (hn : nameB tn = true) (hs : tn.size ≤ 1000) (hs2 : nm.size ≤ 1000) :
    Calls Tryd.prog 55 #[.pointer (some ⟨tb, to, none⟩)] w fun e w' => e = .returned (.tuple #[.string ⟨(txtF nm tn).toArray⟩, .int .i64 0]) ∧ Below w.heap.size w w' := by
  have hmf : ∀ (fn : Fn) (first cap : Array Value) (w : World), (Instr.makeFunc fn first cap).run Tryd.prog w = .ok (.func fn first cap) w := fun _ _ _ _ => rfl
  have a1 : Below w.heap.size w (w.alloc (.cells #[.string ⟨#[]⟩] 9)) := (Below.refl _ w).alloc (Nat.le_refl _) _
  have z1 : (w.alloc (.cells #[.string ⟨#[]⟩] 9)).heap.size = w.heap.size + 1 := by simp
  have n1 := Go.heap_alloc_new w (.cells #[.string ⟨#[]⟩] 9)
  have W1 : ∃ w1, w.alloc (.cells #[.string ⟨#[]⟩] 9) = w1 := ⟨_, rfl⟩
  obtain ⟨w1, hw1⟩ := W1
  rw [hw1] at a1 z1 n1
  have a2 : Below w1.heap.size w1 (w1.alloc (.cells #[.int .i64 0] 37)) := (Below.refl _ w1).alloc (Nat.le_refl _) _
  have z2 : (w1.alloc (.cells #[.int .i64 0] 37)).heap.size = w1.heap.size + 1 := by simp
  have n2 := Go.heap_alloc_new w1 (.cells #[.int .i64 0] 37)
  have W2 : ∃ w2, w1.alloc (.cells #[.int .i64 0] 37) = w2 := ⟨_, rfl⟩
  obtain ⟨w2, hw2⟩ := W2
  rw [hw2] at a2 z2 n2
  have a3 : Below w2.heap.size w2 (w2.alloc (.cells #[.pointer none, .slice none 0 0] 126)) := (Below.refl _ w2).alloc (Nat.le_refl _) _
  have z3 : (w2.alloc (.cells #[.pointer none, .slice none 0 0] 126)).heap.size = w2.heap.size + 1 := by simp
  have n3 : IsBs 126 [] w2.heap.size w2.heap.size [] (w2.alloc (.cells #[.pointer none, .slice none 0 0] 126)) :=
    .inl ⟨Nat.le_refl _, .slice none 0 0, Go.heap_alloc_new w2 _, World.ownsRow_nil _ _ _ _, by simp [Value.ownBlock]⟩
  have W3 : ∃ w3, w2.alloc (.cells #[.pointer none, .slice none 0 0] 126) = w3 := ⟨_, rfl⟩
  obtain ⟨w3, hw3⟩ := W3
  rw [hw3] at a3 z3 n3
  have e2 : w2.heap.size = w.heap.size + 1 + 1 := by omega
  rw [e2] at n3
  rw [z1] at n2
  have b3 : Below w.heap.size w w3 := (a1.trans (a2.mono (by omega))).trans (a3.mono (by omega))
  have s3 : w3.heap[w.heap.size]? = some (.cells #[.string ⟨#[]⟩] 9 (0, 0)) := (a3.block _ (by omega)).trans ((a2.block _ (by omega)).trans n1)
  have r3 : w3.heap[w.heap.size + 1]? = some (.cells #[.int .i64 0] 37 (0, 0)) := (a3.block _ (by omega)).trans n2
  have hcall := Lib.hid (wterm_free nm tn (w.heap.size + 1 + 1) (w.heap.size + 1 + 1) Bt tb to w3 n3 (by omega) (by omega) (hT.later (b3.mono hBt) (Nat.le_refl _)) hn hs hs2)
  have HW3 := Lib.hid (show ((w.alloc (.cells #[.string ⟨#[]⟩] 9)).alloc (.cells #[.int .i64 0] 37)).alloc (.cells #[.pointer none, .slice none 0 0] 126) = w3 by rw [hw1, hw2, hw3])
  have B3 := Lib.hid b3
  have S3 := Lib.hid s3
  have R3 := Lib.hid r3
  have Z3 := Lib.hid (show w3.heap.size = w.heap.size + 3 by omega)
  clear a1 a2 a3 z1 z2 z3 n1 n2 n3 hw1 hw2 hw3 e2 b3 s3 r3 hT
  go_enter_defers Tryd.func55, Tryd.ntmps55
  go_wp2_with fail
  rw [HW3.out]
  (with_reducible refine hcall.out.mono ?_)
  rintro e W ⟨rfl, hb, hbw, _⟩
  have hzz := Z3.out
  have hwz := hbw.size
  have HST := Lib.hid (bs_string 126 [] (w.heap.size + 1 + 1) (w.heap.size + 1 + 1) (txtF nm tn) W hb (txtF_ne nm tn))
  have HBW := Lib.hid hbw
  clear hb hbw
  go_wp2_with fail
  (with_reducible refine HST.out.mono ?_)
  rintro e W4 ⟨rfl, hb4⟩
  have h34 : Below (w.heap.size + 1 + 1) w3 W4 := HBW.out.trans hb4
  have s4 := (h34.block w.heap.size (by omega)).trans S3.out
  have r4 := (h34.block (w.heap.size + 1) (by omega)).trans R3.out
  have HB4 := Lib.hid (B3.out.trans (h34.mono (by omega)))
  have cs : W4.cell? ⟨w.heap.size, 0, none⟩ = some (.string ⟨#[]⟩) := by rw [Lib.cell_of_heap s4]; rfl
  have fs : W4.frozen? ⟨w.heap.size, 0, none⟩ = false := Lib.frozen_of_heap s4 0
  have cr : W4.cell? ⟨w.heap.size + 1, 0, none⟩ = some (.int .i64 0) := by rw [Lib.cell_of_heap r4]; rfl
  have fr : W4.frozen? ⟨w.heap.size + 1, 0, none⟩ = false := Lib.frozen_of_heap r4 0
  have n1 : w.heap.size + 1 ≠ w.heap.size := by omega
  have S5 := Lib.hid ((Below.heap_setCell (W4.setCell ⟨w.heap.size, 0, none⟩ (.string ⟨(txtF nm tn).toArray⟩)) ⟨w.heap.size + 1, 0, none⟩ (.int .i64 0) w.heap.size n1.symm).trans (Go.heap_setCell_same W4 w.heap.size 0 _ 9 (.string ⟨(txtF nm tn).toArray⟩) s4))
  have R5 := Lib.hid (Go.heap_setCell_same (W4.setCell ⟨w.heap.size, 0, none⟩ (.string ⟨(txtF nm tn).toArray⟩)) (w.heap.size + 1) 0 _ 37 (.int .i64 0) ((Below.heap_setCell W4 ⟨w.heap.size, 0, none⟩ (.string ⟨(txtF nm tn).toArray⟩) (w.heap.size + 1) n1).trans r4))
  have B5 := Lib.hid ((HB4.out.setCell (p := ⟨w.heap.size, 0, none⟩) (Nat.le_refl _) (.string ⟨(txtF nm tn).toArray⟩)).setCell (p := ⟨w.heap.size + 1, 0, none⟩) (by show w.heap.size ≤ w.heap.size + 1; omega) (.int .i64 0))
  clear s4 r4 h34 hb4 hzz hwz
  go_wp2_with fail
  generalize (W4.setCell ⟨w.heap.size, 0, none⟩ (.string ⟨(txtF nm tn).toArray⟩)).setCell ⟨w.heap.size + 1, 0, none⟩ (.int .i64 0) = W5 at *
  refine leaves_cons (f := 68) (args := #[.pointer (some ⟨w.heap.size, 0, none⟩), .pointer (some ⟨w.heap.size + 1, 0, none⟩)]) (by simp) (by simp [go_sem]) ?_
  refine (wcatch_idle _ _ _).mono ?_
  rintro e u' w'' ⟨rfl, rfl, rfl⟩
  refine ⟨_, results_cc rfl _ _ ⟨w.heap.size, 0, none⟩ ⟨w.heap.size + 1, 0, none⟩ (.string ⟨(txtF nm tn).toArray⟩) (.int .i64 0) rfl rfl (run_loadVar_cell _ _ _ _ (Tryd.isAgg9 _) (by rw [Lib.cell_of_heap S5.out]; rfl)) (run_loadVar_cell _ _ _ _ (Tryd.isAgg37 _) (by rw [Lib.cell_of_heap R5.out]; rfl)), ?_⟩
  exact ⟨rfl, B5.out⟩

set_option maxRecDepth 100000 in
set_option maxHeartbeats 4000000 in
theorem ttext_free (nm tn : ByteArray) (B : Nat) (v : Value) (w : World) (hB : B ≤ w.heap.size) (hv : HasTm B w v (tmF nm tn)) (hm : nameB nm = true) (hn : nameB tn = true) (hs : tn.size ≤ 1000) (hs2 : nm.size ≤ 1000) :
    Calls Tryd.prog 39 #[v] w fun e w' => e = .returned (.tuple #[.string ⟨(txtF nm tn).toArray⟩, .int .i64 0]) ∧ Below w.heap.size w w' := by
  obtain ⟨vs, rfl, a1⟩ := hv.boxed hB 29
  have b1 : Below w.heap.size w (w.alloc (.cells vs 29)) := (Below.refl _ w).alloc (Nat.le_refl _) _
  have hs1 : (w.alloc (.cells vs 29)).heap.size = w.heap.size + 1 := by simp
  have hf := tform_free (w.heap.size + 1) w.heap.size 0 nm tn (w.alloc (.cells vs 29)) (by omega) a1 hm hn
  have HWr := Lib.hid fun W (h : Below (w.heap.size + 1) (w.alloc (.cells vs 29)) W) => twrite_free nm tn (w.heap.size + 1) w.heap.size 0 W (by have := h.size; omega) (a1.later h (Nat.le_refl _)) hn hs hs2
  have HF := Lib.hid hf
  have HB1 := Lib.hid b1
  have HS1 := Lib.hid hs1
  clear hf a1 hv b1 hs1
  go_enter Tryd.func39, Tryd.ntmps39
  go_wp2_with fail
  (with_reducible refine HF.out.mono ?_)
  rintro e W ⟨rfl, hW⟩
  have hW1 := hW.mono (Nat.le_of_eq HS1.out.symm)
  have HW := Lib.hid (HWr.out W hW1)
  have H2 := Lib.hid (HB1.out.trans (hW1.mono (by omega)))
  clear hW hW1
  go_wp2_with fail
  (with_reducible refine HW.out.mono ?_)
  rintro e W2 ⟨rfl, hW2⟩
  have H3 := Lib.hid (H2.out.trans (hW2.mono H2.out.size))
  clear hW2
  go_wp2_with fail
  go_ret2
  exact ⟨rfl, H3.out⟩
end Go.Proofs.YtdffhnfjcbnioaaDoor
