/-
  The scanner's candidates that are none: variables, quotations, strings.
-/
import Derived.Test.YtdkagjbedinhjaaGreatS4
namespace Go.Proofs.YtdkagjbedinhjaaGreat
open Go.RowKit

set_option maxRecDepth 100000 in
set_option maxHeartbeats 2000000 in
theorem variable_none (b : Nat) (T : ByteArray) (k : Nat) (w : World) (hS : ScT b T w) (hk : k ≤ T.size) (hT : T.size ≤ 100000000) (h1 : Lib.hasPrefix (from' T k) [63, 39] = false) (h2 : Lib.hasPrefix (from' T k) [63] = false) (h3 : Lib.hasPrefix (from' T k) [39] = false) :
    CandC 44 b k w 0 ⟨#[]⟩ k := by
  unfold CandC
  obtain ⟨W, hW, hb, hz, ht⟩ := res_laid w
  have c1 := (hS.later hb hS.lt).cell
  have c1' := c1
  rw [← hW] at c1'
  have hro : (T.extract k T.size).data.toList = from' T k := from_ext T k
  have P1 := Lib.hid fun (w : World) => Tryz.strings_HasPrefix (T.extract k T.size) ⟨#[63, 39]⟩ w
  have P2 := Lib.hid fun (w : World) => Tryz.strings_HasPrefix (T.extract k T.size) ⟨#[63]⟩ w
  have P3 := Lib.hid fun (w : World) => Tryz.strings_HasPrefix (T.extract k T.size) ⟨#[39]⟩ w
  simp only [hro] at P1 P2 P3
  have e1 : Lib.hasPrefix (from' T k) (⟨#[63, 39]⟩ : ByteArray).data.toList = false := h1
  have e2 : Lib.hasPrefix (from' T k) (⟨#[63]⟩ : ByteArray).data.toList = false := h2
  have e3 : Lib.hasPrefix (from' T k) (⟨#[39]⟩ : ByteArray).data.toList = false := h3
  simp only [e1] at P1
  simp only [e2] at P2
  simp only [e3] at P3
  obtain ⟨q0, q1, q2, f0, f1, f2⟩ := ht.cells
  have HW := Lib.hid hW
  have HB := Lib.hid hb
  have HZ := Lib.hid hz
  have HT := Lib.hid ht
  have hle : (k : Int) ≤ T.size := by omega
  clear hW hb hz ht hS h1 h2 h3 e1 e2 e3 hro
  go_enter Tryz.func44, Tryz.ntmps44
  go_wp2_with fail
  rw [HW.out]
  clear c1'
  (with_reducible refine (P1.out _).mono ?_)
  rintro e w' ⟨rfl, rfl⟩
  go_wp2_with fail
  (with_reducible refine (P2.out _).mono ?_)
  rintro e w' ⟨rfl, rfl⟩
  go_wp2_with fail
  (with_reducible refine (P3.out _).mono ?_)
  rintro e w' ⟨rfl, rfl⟩
  go_wp2_with fail
  exact bodyPost_ret (results_ct rfl _ _ ⟨w.heap.size, 0, none⟩ _ rfl (HT.out.put _ _ _).load) rfl ⟨rfl, below_put HB.out (Nat.le_refl _) _ _ _⟩

set_option maxRecDepth 100000 in
set_option maxHeartbeats 2000000 in
theorem quotation_none (b : Nat) (T : ByteArray) (k : Nat) (w : World) (hS : ScT b T w) (hk : k ≤ T.size) (hT : T.size ≤ 100000000) (h1 : Lib.hasPrefix (from' T k) [92, 60, 111, 112, 101, 110, 62] = false) :
    CandC 47 b k w 0 ⟨#[]⟩ k := by
  unfold CandC
  obtain ⟨W, hW, hb, hz, ht⟩ := res_laid w
  have c1 := (hS.later hb hS.lt).cell
  have c1' := c1
  rw [← hW] at c1'
  have hro : (T.extract k T.size).data.toList = from' T k := from_ext T k
  have P1 := Lib.hid fun (w : World) => Tryz.strings_HasPrefix (T.extract k T.size) ⟨#[92, 60, 111, 112, 101, 110, 62]⟩ w
  simp only [hro] at P1
  have e1 : Lib.hasPrefix (from' T k) (⟨#[92, 60, 111, 112, 101, 110, 62]⟩ : ByteArray).data.toList = false := h1
  simp only [e1] at P1
  obtain ⟨q0, q1, q2, f0, f1, f2⟩ := ht.cells
  have HW := Lib.hid hW
  have HB := Lib.hid hb
  have HZ := Lib.hid hz
  have HT := Lib.hid ht
  have hle : (k : Int) ≤ T.size := by omega
  clear hW hb hz ht hS h1 e1 hro
  go_enter Tryz.func47, Tryz.ntmps47
  go_wp2_with fail
  rw [HW.out]
  clear c1'
  (with_reducible refine (P1.out _).mono ?_)
  rintro e w' ⟨rfl, rfl⟩
  go_wp2_with fail
  exact bodyPost_ret (results_ct rfl _ _ ⟨w.heap.size, 0, none⟩ _ rfl (HT.out.put _ _ _).load) rfl ⟨rfl, below_put HB.out (Nat.le_refl _) _ _ _⟩

set_option maxRecDepth 100000 in
set_option maxHeartbeats 2000000 in
theorem str_none (b : Nat) (T : ByteArray) (k : Nat) (w : World) (hS : ScT b T w) (hk : k < T.size) (hT : T.size ≤ 100000000) (h1 : T[k] ≠ 34) :
    CandC 48 b k w 0 ⟨#[]⟩ k := by
  unfold CandC
  obtain ⟨W, hW, hb, hz, ht⟩ := res_laid w
  have c1 := (hS.later hb hS.lt).cell
  have c1' := c1
  rw [← hW] at c1'
  have e1 : ((T[k].toNat : Int) == 34) = false := by
    have : T[k].toNat ≠ 34 := fun e => h1 (UInt8.toNat_inj.1 (by rw [e]; rfl))
    simp; omega
  have e2 : ((T[k].toNat : Int) != 34) = true := by rw [bne, e1]; rfl
  obtain ⟨q0, q1, q2, f0, f1, f2⟩ := ht.cells
  have HW := Lib.hid hW
  have HB := Lib.hid hb
  have HZ := Lib.hid hz
  have HT := Lib.hid ht
  clear hW hb hz ht hS h1
  go_enter Tryz.func48, Tryz.ntmps48
  go_wp2_with fail
  exact bodyPost_ret (results_ct rfl _ _ ⟨w.heap.size, 0, none⟩ _ rfl (tok_new w 0 ⟨#[]⟩ 0).load) rfl ⟨rfl, (Below.refl _ w).alloc (Nat.le_refl _) _⟩
end Go.Proofs.YtdkagjbedinhjaaGreat
