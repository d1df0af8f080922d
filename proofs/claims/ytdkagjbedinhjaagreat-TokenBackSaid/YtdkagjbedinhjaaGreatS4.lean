/-
  The scanner's candidates: names, numbers, symbols.
-/
import Derived.Test.YtdkagjbedinhjaaGreatS3
namespace Go.Proofs.YtdkagjbedinhjaaGreat
open Go.RowKit

theorem TokAt.cells {b : Nat} {kind : Int} {t : ByteArray} {at_ : Int} {w : World} (h : TokAt b kind t at_ w) : w.cell? ⟨b, 0, none⟩ = some (.int .i64 kind) ∧ w.cell? ⟨b, 1, none⟩ = some (.string t) ∧ w.cell? ⟨b, 2, none⟩ = some (.int .i64 at_) ∧ w.frozen? ⟨b, 0, none⟩ = false ∧ w.frozen? ⟨b, 1, none⟩ = false ∧ w.frozen? ⟨b, 2, none⟩ = false :=
  ⟨by rw [Lib.cell_of_heap h]; rfl, by rw [Lib.cell_of_heap h]; rfl, by rw [Lib.cell_of_heap h]; rfl, Lib.frozen_of_heap h 0, Lib.frozen_of_heap h 1, Lib.frozen_of_heap h 2⟩
theorem TokAt.later {b B : Nat} {kind : Int} {t : ByteArray} {at_ : Int} {w w' : World} (h : TokAt b kind t at_ w) (hb : Below B w w') (hB : b < B) : TokAt b kind t at_ w' := (hb.block b hB).trans h
/-- A token stored over another one. -/
def putTok (w : World) (b : Nat) (kind : Int) (t : ByteArray) (at_ : Int) : World := ((w.setCell ⟨b, 0, none⟩ (.int .i64 kind)).setCell ⟨b, 1, none⟩ (.string t)).setCell ⟨b, 2, none⟩ (.int .i64 at_)
theorem TokAt.put {b : Nat} {kind : Int} {t : ByteArray} {at_ : Int} {w : World} (h : TokAt b kind t at_ w) (kind' : Int) (t' : ByteArray) (at' : Int) : TokAt b kind' t' at' (putTok w b kind' t' at') := by
  have h1 := Go.heap_setCell_same w b 0 _ 35 (.int .i64 kind') h
  have h2 := Go.heap_setCell_same _ b 1 _ 35 (.string t') h1
  have h3 := Go.heap_setCell_same _ b 2 _ 35 (.int .i64 at') h2
  exact h3
theorem below_put {B b : Nat} {w0 w : World} (h : Below B w0 w) (hb : B ≤ b) (kind : Int) (t : ByteArray) (at_ : Int) : Below B w0 (putTok w b kind t at_) :=
  ((h.setCell (p := ⟨b, 0, none⟩) hb _).setCell (p := ⟨b, 1, none⟩) hb _).setCell (p := ⟨b, 2, none⟩) hb _

/-- The result's cell, laid. -/
theorem res_laid (w : World) : ∃ W, w.alloc (.cells #[.int .i64 0, .string ⟨#[]⟩, .int .i64 0] 35) = W ∧ Below w.heap.size w W ∧ w.heap.size + 1 = W.heap.size ∧ TokAt w.heap.size 0 ⟨#[]⟩ 0 W :=
  ⟨_, rfl, (Below.refl _ w).alloc (Nat.le_refl _) _, by simp, tok_new w 0 ⟨#[]⟩ 0⟩

/-- A candidate's contract. -/
def CandC (f : Nat) (b : Nat) (k : Nat) (w : World) (kind : Int) (t : ByteArray) (e : Nat) : Prop :=
  Calls Tryz.prog f #[.pointer (some ⟨b, 0, none⟩), .int .i64 (k : Int)] w fun x w' => x = .returned (.tuple #[tokV kind t 0, .int .i64 (e : Int)]) ∧ Below w.heap.size w w'

set_option maxRecDepth 100000 in
set_option maxHeartbeats 2000000 in
theorem number_any (b : Nat) (T : ByteArray) (k : Nat) (w : World) (hS : ScT b T w) (hk : k ≤ T.size) (hT : T.size ≤ 100000000) :
    CandC 45 b k w (candTok T k 6 (runLen digB (from' T k))).1 (candTok T k 6 (runLen digB (from' T k))).2 (k + runLen digB (from' T k)) := by
  unfold CandC
  obtain ⟨W, hW, hb, hz, ht⟩ := res_laid w
  have hS2 := hS.later hb hS.lt
  have HWh := Lib.hid (while_dig b T k W hS2 hk hT)
  have hle : k + runLen digB (from' T k) ≤ T.size := by
    have := runLen_le digB (from' T k)
    rw [from_len] at this
    omega
  have HTk := Lib.hid (token_any b T 6 k (runLen digB (from' T k)) W hS2 hle hT)
  obtain ⟨p, hp⟩ : ∃ p, candTok T k 6 (runLen digB (from' T k)) = p := ⟨_, rfl⟩
  obtain ⟨n, hn⟩ : ∃ n, k + runLen digB (from' T k) = n := ⟨_, rfl⟩
  rw [hp, hn] at HTk
  rw [hn] at HWh
  rw [hp, hn]
  have HW := Lib.hid hW
  have HB := Lib.hid hb
  have HZ := Lib.hid hz
  have HT := Lib.hid ht
  clear hW hb hz ht hp hn hS2 hS
  go_enter Tryz.func45, Tryz.ntmps45
  go_wp2_with fail
  rw [HW.out]
  (with_reducible refine HWh.out.mono ?_)
  rintro e w' ⟨rfl, rfl⟩
  go_wp2_with fail
  (with_reducible refine HTk.out.mono ?_)
  rintro e w2 ⟨rfl, hb2⟩
  have HB2 := Lib.hid hb2
  clear hb2
  have ht2 := HT.out.later HB2.out (by have := HZ.out; omega)
  obtain ⟨c0, c1, c2, f0, f1, f2⟩ := ht2.cells
  have HT2 := Lib.hid ht2
  clear ht2
  go_wp2_with fail
  exact bodyPost_ret (results_ct rfl _ _ ⟨w.heap.size, 0, none⟩ _ rfl (HT2.out.put _ _ _).load) rfl ⟨rfl, below_put (HB.out.trans (HB2.out.mono (by have := HZ.out; omega))) (Nat.le_refl _) _ _ _⟩

set_option maxRecDepth 100000 in
set_option maxHeartbeats 2000000 in
theorem symbol_any (b : Nat) (T : ByteArray) (k : Nat) (w : World) (hS : ScT b T w) (hk : k ≤ T.size) (hT : T.size ≤ 100000000) :
    CandC 46 b k w (candTok T k 7 (signLen (from' T k))).1 (candTok T k 7 (signLen (from' T k))).2 (k + signLen (from' T k)) := by
  unfold CandC
  obtain ⟨W, hW, hb, hz, ht⟩ := res_laid w
  have hS2 := hS.later hb hS.lt
  have HWh := Lib.hid (sign_any b T k W hS2 hk hT)
  have hle := signLen_from_le T k hk
  have HTk := Lib.hid (token_any b T 7 k (signLen (from' T k)) W hS2 hle hT)
  obtain ⟨p, hp⟩ : ∃ p, candTok T k 7 (signLen (from' T k)) = p := ⟨_, rfl⟩
  obtain ⟨n, hn⟩ : ∃ n, k + signLen (from' T k) = n := ⟨_, rfl⟩
  rw [hp, hn] at HTk
  rw [hn] at HWh
  rw [hp, hn]
  have HW := Lib.hid hW
  have HB := Lib.hid hb
  have HZ := Lib.hid hz
  have HT := Lib.hid ht
  clear hW hb hz ht hp hn hS2 hS
  go_enter Tryz.func46, Tryz.ntmps46
  go_wp2_with fail
  rw [HW.out]
  (with_reducible refine HWh.out.mono ?_)
  rintro e w' ⟨rfl, rfl⟩
  go_wp2_with fail
  (with_reducible refine HTk.out.mono ?_)
  rintro e w2 ⟨rfl, hb2⟩
  have HB2 := Lib.hid hb2
  clear hb2
  have ht2 := HT.out.later HB2.out (by have := HZ.out; omega)
  obtain ⟨c0, c1, c2, f0, f1, f2⟩ := ht2.cells
  have HT2 := Lib.hid ht2
  clear ht2
  go_wp2_with fail
  exact bodyPost_ret (results_ct rfl _ _ ⟨w.heap.size, 0, none⟩ _ rfl (HT2.out.put _ _ _).load) rfl ⟨rfl, below_put (HB.out.trans (HB2.out.mono (by have := HZ.out; omega))) (Nat.le_refl _) _ _ _⟩

set_option maxRecDepth 100000 in
set_option maxHeartbeats 2000000 in
theorem name_long (b : Nat) (T : ByteArray) (k : Nat) (w : World) (hS : ScT b T w) (hk : k ≤ T.size) (hT : T.size ≤ 100000000) (hc : idLen (from' T k) < longLen (from' T k)) :
    CandC 43 b k w (candTok T k 2 (longLen (from' T k))).1 (candTok T k 2 (longLen (from' T k))).2 (k + longLen (from' T k)) := by
  unfold CandC
  obtain ⟨W, hW, hb, hz, ht⟩ := res_laid w
  have hS2 := hS.later hb hS.lt
  have HWh := Lib.hid (long_any b T k W hS2 hk hT)
  have HIh := Lib.hid (identifier_any b T k W hS2 hk hT)
  have hle := longLen_from_le T k hk
  have hgt : decide (k + idLen (from' T k) < k + longLen (from' T k)) = true := by simp; omega
  obtain ⟨i, hi⟩ : ∃ i, k + idLen (from' T k) = i := ⟨_, rfl⟩
  rw [hi] at HIh hgt
  clear hi
  have HTk := Lib.hid (token_any b T 2 k (longLen (from' T k)) W hS2 hle hT)
  obtain ⟨p, hp⟩ : ∃ p, candTok T k 2 (longLen (from' T k)) = p := ⟨_, rfl⟩
  obtain ⟨n, hn⟩ : ∃ n, k + longLen (from' T k) = n := ⟨_, rfl⟩
  rw [hp, hn] at HTk
  rw [hn] at HWh hgt
  rw [hp, hn]
  have HW := Lib.hid hW
  have HB := Lib.hid hb
  have HZ := Lib.hid hz
  have HT := Lib.hid ht
  clear hW hb hz ht hp hn hS2 hS
  go_enter Tryz.func43, Tryz.ntmps43
  go_wp2_with fail
  rw [HW.out]
  (with_reducible refine HWh.out.mono ?_)
  rintro e w' ⟨rfl, rfl⟩
  go_wp2_with fail
  (with_reducible refine HIh.out.mono ?_)
  rintro e w' ⟨rfl, rfl⟩
  go_wp2_with fail
  (with_reducible refine HTk.out.mono ?_)
  rintro e w2 ⟨rfl, hb2⟩
  have HB2 := Lib.hid hb2
  clear hb2
  have ht2 := HT.out.later HB2.out (by have := HZ.out; omega)
  obtain ⟨c0, c1, c2, f0, f1, f2⟩ := ht2.cells
  have HT2 := Lib.hid ht2
  clear ht2
  go_wp2_with fail
  exact bodyPost_ret (results_ct rfl _ _ ⟨w.heap.size, 0, none⟩ _ rfl (HT2.out.put _ _ _).load) rfl ⟨rfl, below_put (HB.out.trans (HB2.out.mono (by have := HZ.out; omega))) (Nat.le_refl _) _ _ _⟩

set_option maxRecDepth 100000 in
set_option maxHeartbeats 2000000 in
theorem name_ident (b : Nat) (T : ByteArray) (k : Nat) (w : World) (hS : ScT b T w) (hk : k ≤ T.size) (hT : T.size ≤ 100000000) (hc : longLen (from' T k) ≤ idLen (from' T k)) :
    CandC 43 b k w (candTok T k 1 (longLen (from' T k))).1 (candTok T k 1 (longLen (from' T k))).2 (k + longLen (from' T k)) := by
  unfold CandC
  obtain ⟨W, hW, hb, hz, ht⟩ := res_laid w
  have hS2 := hS.later hb hS.lt
  have HWh := Lib.hid (long_any b T k W hS2 hk hT)
  have HIh := Lib.hid (identifier_any b T k W hS2 hk hT)
  have hle := longLen_from_le T k hk
  have hgt : decide (k + idLen (from' T k) < k + longLen (from' T k)) = false := by simp; omega
  obtain ⟨i, hi⟩ : ∃ i, k + idLen (from' T k) = i := ⟨_, rfl⟩
  rw [hi] at HIh hgt
  clear hi
  have HTk := Lib.hid (token_any b T 1 k (longLen (from' T k)) W hS2 hle hT)
  obtain ⟨p, hp⟩ : ∃ p, candTok T k 1 (longLen (from' T k)) = p := ⟨_, rfl⟩
  obtain ⟨n, hn⟩ : ∃ n, k + longLen (from' T k) = n := ⟨_, rfl⟩
  rw [hp, hn] at HTk
  rw [hn] at HWh hgt
  rw [hp, hn]
  have HW := Lib.hid hW
  have HB := Lib.hid hb
  have HZ := Lib.hid hz
  have HT := Lib.hid ht
  clear hW hb hz ht hp hn hS2 hS
  go_enter Tryz.func43, Tryz.ntmps43
  go_wp2_with fail
  rw [HW.out]
  (with_reducible refine HWh.out.mono ?_)
  rintro e w' ⟨rfl, rfl⟩
  go_wp2_with fail
  (with_reducible refine HIh.out.mono ?_)
  rintro e w' ⟨rfl, rfl⟩
  go_wp2_with fail
  (with_reducible refine HTk.out.mono ?_)
  rintro e w2 ⟨rfl, hb2⟩
  have HB2 := Lib.hid hb2
  clear hb2
  have ht2 := HT.out.later HB2.out (by have := HZ.out; omega)
  obtain ⟨c0, c1, c2, f0, f1, f2⟩ := ht2.cells
  have HT2 := Lib.hid ht2
  clear ht2
  go_wp2_with fail
  exact bodyPost_ret (results_ct rfl _ _ ⟨w.heap.size, 0, none⟩ _ rfl (HT2.out.put _ _ _).load) rfl ⟨rfl, below_put (HB.out.trans (HB2.out.mono (by have := HZ.out; omega))) (Nat.le_refl _) _ _ _⟩

/-- The kind of a name. -/
def nameKind (l : Bs) : Int := if idLen l < longLen l then 2 else 1
theorem name_any (b : Nat) (T : ByteArray) (k : Nat) (w : World) (hS : ScT b T w) (hk : k ≤ T.size) (hT : T.size ≤ 100000000) :
    CandC 43 b k w (candTok T k (nameKind (from' T k)) (longLen (from' T k))).1 (candTok T k (nameKind (from' T k)) (longLen (from' T k))).2 (k + longLen (from' T k)) := by
  unfold nameKind
  by_cases h : idLen (from' T k) < longLen (from' T k)
  · rw [if_pos h]
    exact name_long b T k w hS hk hT h
  · rw [if_neg h]
    exact name_ident b T k w hS hk hT (by omega)
end Go.Proofs.YtdkagjbedinhjaaGreat
