/-
  Text of the type of functions of the last words.
-/
import Derived.Test.YthopoidcglfdjaaDoorX12
namespace Go.Proofs.YthopoidcglfdjaaDoor
open Go.RowKit Go.Shelf

theorem funAt_of {B b o : Nat} {w : World} (h : AtTy B w b o tyFun) : ∃ ab ao cap, FunAt B w b o ab ao cap := by
  have h' := h
  obtain ⟨_, _, op, ix, nm, srt, args, vs, a, cap, ab, ao, hb, k0, k1, k2, k3, k4, hop, hix, hnm, hs, hl, ha, he⟩ := h
  obtain ⟨rfl, hab⟩ := ha (by simp)
  have q0 := he 0 (by simp)
  have q1 := he 1 (by simp)
  simp only [List.length_nil, List.length_cons, Nat.zero_add, Nat.add_zero, Nat.zero_mul, Nat.one_mul, Nat.reduceAdd, List.getElem_cons_zero, List.getElem_cons_succ] at k4 q0 q1
  exact ⟨ab, ao, cap, ⟨h', hb, k4, q0, q1⟩⟩

theorem builder_new (w : World) : Lib.IsBuilder 51 5 w.heap.size w.heap.size (Lib.byteCells []) (w.alloc (.cells #[.pointer none, .slice none 0 0] 51)) := Lib.fresh_isBuilder 51 5 w

set_option maxRecDepth 100000 in
set_option maxHeartbeats 4000000 in
theorem text_ok (B : Nat) (v : Value) (w : World) (hB : B ≤ w.heap.size) (hv : HasTy B w v tyFun) :
    Calls Tryd.prog 10 #[v] w fun e w' => e = .returned (.tuple #[.string ⟨txtFun.toArray⟩, .int .i64 0]) ∧ Below w.heap.size w w' := by
  obtain ⟨vs, rfl, a1⟩ := hv.boxed hB 25
  obtain ⟨ab, ao, cap, hf⟩ := funAt_of a1
  have b1 := Lib.hid (show Below w.heap.size w (w.alloc (.cells vs 25)) from (Below.refl _ w).alloc (Nat.le_refl _) _)
  have hs1 : (w.alloc (.cells vs 25)).heap.size = w.heap.size + 1 := by simp
  have h1 := Lib.hid (form_ok (w.heap.size + 1) w.heap.size 0 ab ao cap (w.alloc (.cells vs 25)) (by omega) hf)
  have A1 := Lib.hid a1
  clear a1 hf hv
  go_enter Tryd.func10, Tryd.ntmps10
  go_wp2_with fail
  generalize w.alloc (.cells vs 25) = w1 at *
  refine h1.out.mono ?_
  rintro e w2 ⟨rfl, b2⟩
  go_wp2_with fail
  have b3 := Lib.hid (show Below w2.heap.size w2 (w2.alloc (.cells #[.pointer none, .slice none 0 0] 51)) from (Below.refl _ w2).alloc (Nat.le_refl _) _)
  have hn := Lib.hid (builder_new w2)
  have hs3 : (w2.alloc (.cells #[.pointer none, .slice none 0 0] 51)).heap.size = w2.heap.size + 1 := by simp
  generalize w2.alloc (.cells #[.pointer none, .slice none 0 0] 51) = w3 at *
  have s2 := b2.size
  have b13 : Below (w.heap.size + 1) w1 w3 := b2.trans (b3.out.mono (by omega))
  refine (write_fun (w.heap.size + 1) w2.heap.size w2.heap.size w.heap.size 0 w3 (by omega) (by omega) (AtTy.later b13 (Nat.le_refl _) A1.out) hn.out).mono ?_
  rintro e w4 ⟨rfl, hbd, b4⟩
  have s4 := b4.size
  have hst := Lib.hid (Tryd.Builder_String_any w2.heap.size w2.heap.size txtFun w4 hbd (by omega))
  clear hbd
  go_wp2_with fail
  refine hst.out.mono ?_
  rintro e w5 ⟨rfl, b5⟩
  go_wp2_with fail
  go_ret2
  exact ⟨rfl, (b1.out.trans (b13.mono (by omega))).trans ((b4.trans b5).mono (by omega))⟩
end Go.Proofs.YthopoidcglfdjaaDoor
