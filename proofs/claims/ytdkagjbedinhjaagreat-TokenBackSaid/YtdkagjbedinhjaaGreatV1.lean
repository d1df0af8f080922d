/-
  The scanner's variables.
-/
import Derived.Test.YtdkagjbedinhjaaGreatS6
namespace Go.Proofs.YtdkagjbedinhjaaGreat
open Go.RowKit

/-- The mark of a variable: its kind, and how many bytes it has. -/
def markOf (l : Bs) : Option (Int × Nat) := if Lib.hasPrefix l [63, 39] then some (5, 2) else if Lib.hasPrefix l [63] then some (4, 1) else if Lib.hasPrefix l [39] then some (3, 1) else none
/-- How many bytes a variable has behind its name: the dot and digits of an index. -/
def indexLen (kind : Int) (l : Bs) : Nat := if kind ≠ 3 ∧ Lib.hasPrefix l [46] = true ∧ 0 < runLen digB (l.drop 1) then 1 + runLen digB (l.drop 1) else 0
def varLen (l : Bs) : Nat := match markOf l with
  | none => 0
  | some (kind, m) => if 0 < idLen (l.drop m) then m + idLen (l.drop m) + indexLen kind (l.drop (m + idLen (l.drop m))) else 0
def varKind (l : Bs) : Int := match markOf l with
  | none => 0
  | some (kind, _) => kind

theorem pre_len {l p : Bs} (h : Lib.hasPrefix l p = true) : p.length ≤ l.length := (List.isPrefixOf_iff_prefix.1 h).length_le
theorem pre_from {T : ByteArray} {k : Nat} {p : Bs} (h : Lib.hasPrefix (from' T k) p = true) (hk : k ≤ T.size) : k + p.length ≤ T.size := by
  have := pre_len h
  rw [from_len] at this
  omega

set_option maxRecDepth 100000 in
set_option maxHeartbeats 4000000 in
theorem var_5z (b : Nat) (T : ByteArray) (k : Nat) (w : World) (hS : ScT b T w) (hk : k ≤ T.size) (hT : T.size ≤ 100000000) (h1 : Lib.hasPrefix (from' T k) [63, 39] = true) (hi : idLen (from' T (k + 2)) = 0) :
    CandC 44 b k w (candTok T k 5 (0)).1 (candTok T k 5 (0)).2 (k + (0)) := by
  unfold CandC
  obtain ⟨W, hW, hb, hz, ht⟩ := res_laid w
  have hS2 := hS.later hb hS.lt
  have c1 := hS2.cell
  have c1' := c1
  rw [← hW] at c1'
  have hro : (T.extract k T.size).data.toList = from' T k := from_ext T k
  have P1 := Lib.hid fun (w : World) => Tryz.strings_HasPrefix (T.extract k T.size) ⟨#[63, 39]⟩ w
  have x1 : Lib.hasPrefix (from' T k) (⟨#[63, 39]⟩ : ByteArray).data.toList = true := h1
  simp only [hro, x1] at P1
  have hst : k + 2 ≤ T.size := pre_from h1 hk
  have HI := Lib.hid (identifier_any b T (k + 2) W hS2 hst hT)
  have hle1 := idLen_from_le T (k + 2) hst
  obtain ⟨e1, he1⟩ : ∃ e1, k + 2 + idLen (from' T (k + 2)) = e1 := ⟨_, rfl⟩
  rw [show (((k + 2 : Nat)) : Int) = (k : Int) + 2 by omega, he1] at HI
  rw [he1] at hle1
  have hcm : ((e1 : Int) == (k : Int) + 2) = true := by simp; omega
  have hle0 : (k : Int) ≤ T.size := by omega
  have hle2 : (e1 : Int) ≤ T.size := by omega
  have HS2 := Lib.hid hS2
  have HW := Lib.hid hW
  have HB := Lib.hid hb
  have HZ := Lib.hid hz
  have HT := Lib.hid ht
  obtain ⟨q0, q1, q2, f0, f1, f2⟩ := ht.cells
  clear hW hb hz ht hS2 hS hro he1 hi h1 x1
  go_enter Tryz.func44, Tryz.ntmps44
  go_wp2_with fail
  rw [HW.out]
  clear c1'
  (with_reducible refine (P1.out _).mono ?_)
  rintro e w' ⟨rfl, rfl⟩
  go_wp2_with fail
  (with_reducible refine HI.out.mono ?_)
  rintro e w' ⟨rfl, rfl⟩
  go_wp2_with fail
  exact bodyPost_ret (results_ct rfl _ _ ⟨w.heap.size, 0, none⟩ _ rfl (HT.out.put _ _ _).load) rfl ⟨rfl, below_put HB.out (Nat.le_refl _) _ _ _⟩

set_option maxRecDepth 100000 in
set_option maxHeartbeats 4000000 in
theorem var_5a (b : Nat) (T : ByteArray) (k : Nat) (w : World) (hS : ScT b T w) (hk : k ≤ T.size) (hT : T.size ≤ 100000000) (h1 : Lib.hasPrefix (from' T k) [63, 39] = true) (hi : 0 < idLen (from' T (k + 2))) (hd : Lib.hasPrefix (from' T (k + 2 + idLen (from' T (k + 2)))) [46] = false) :
    CandC 44 b k w (candTok T k 5 (2 + idLen (from' T (k + 2)))).1 (candTok T k 5 (2 + idLen (from' T (k + 2)))).2 (k + (2 + idLen (from' T (k + 2)))) := by
  unfold CandC
  obtain ⟨W, hW, hb, hz, ht⟩ := res_laid w
  have hS2 := hS.later hb hS.lt
  have c1 := hS2.cell
  have c1' := c1
  rw [← hW] at c1'
  have hro : (T.extract k T.size).data.toList = from' T k := from_ext T k
  have P1 := Lib.hid fun (w : World) => Tryz.strings_HasPrefix (T.extract k T.size) ⟨#[63, 39]⟩ w
  have x1 : Lib.hasPrefix (from' T k) (⟨#[63, 39]⟩ : ByteArray).data.toList = true := h1
  simp only [hro, x1] at P1
  have hst : k + 2 ≤ T.size := pre_from h1 hk
  have HI := Lib.hid (identifier_any b T (k + 2) W hS2 hst hT)
  have hle1 := idLen_from_le T (k + 2) hst
  have e46 : ∀ V, ScT b T V → Calls Tryz.prog 54 #[.pointer (some ⟨b, 0, none⟩), .int .i64 5, .int .i64 (k : Int), .int .i64 ((k + (2 + idLen (from' T (k + 2))) : Nat) : Int)] V fun x w' => x = .returned (.tuple #[tokV (candTok T k 5 (2 + idLen (from' T (k + 2)))).1 (candTok T k 5 (2 + idLen (from' T (k + 2)))).2 0, .int .i64 ((k + (2 + idLen (from' T (k + 2))) : Nat) : Int)]) ∧ Below V.heap.size V w' := fun V hV => token_any b T 5 k (2 + idLen (from' T (k + 2))) V hV (by omega) hT
  have hro2 : (T.extract (k + 2 + idLen (from' T (k + 2))) T.size).data.toList = from' T (k + 2 + idLen (from' T (k + 2))) := from_ext T (k + 2 + idLen (from' T (k + 2)))
  have PD := Lib.hid fun (w : World) => Tryz.strings_HasPrefix (T.extract (k + 2 + idLen (from' T (k + 2))) T.size) ⟨#[46]⟩ w
  have xd : Lib.hasPrefix (from' T (k + 2 + idLen (from' T (k + 2)))) (⟨#[46]⟩ : ByteArray).data.toList = false := hd
  simp only [hro2, xd] at PD
  obtain ⟨e1, he1⟩ : ∃ e1, k + 2 + idLen (from' T (k + 2)) = e1 := ⟨_, rfl⟩
  rw [show (((k + 2 : Nat)) : Int) = (k : Int) + 2 by omega, he1] at HI
  rw [he1] at hle1
  rw [he1] at PD
  obtain ⟨q, hq⟩ : ∃ q, candTok T k 5 (2 + idLen (from' T (k + 2))) = q := ⟨_, rfl⟩
  obtain ⟨e, he⟩ : ∃ e, k + (2 + idLen (from' T (k + 2))) = e := ⟨_, rfl⟩
  simp only [hq, he] at e46
  rw [hq, he]
  have HTk := Lib.hid e46
  have hcm : ((e1 : Int) == (k : Int) + 2) = false := by simp; omega
  obtain rfl : e1 = e := by omega
  have hle0 : (k : Int) ≤ T.size := by omega
  have hle2 : (e1 : Int) ≤ T.size := by omega
  have HS2 := Lib.hid hS2
  have HW := Lib.hid hW
  have HB := Lib.hid hb
  have HZ := Lib.hid hz
  have HT := Lib.hid ht
  obtain ⟨q0, q1, q2, f0, f1, f2⟩ := ht.cells
  clear hW hb hz ht hS2 hS hro he1 hi h1 x1 hro2 xd hd hq he e46
  go_enter Tryz.func44, Tryz.ntmps44
  go_wp2_with fail
  rw [HW.out]
  clear c1'
  (with_reducible refine (P1.out _).mono ?_)
  rintro e w' ⟨rfl, rfl⟩
  go_wp2_with fail
  (with_reducible refine HI.out.mono ?_)
  rintro e w' ⟨rfl, rfl⟩
  go_wp2_with fail
  (with_reducible refine (PD.out _).mono ?_)
  rintro e w' ⟨rfl, rfl⟩
  go_wp2_with fail
  (with_reducible refine (HTk.out _ HS2.out).mono ?_)
  rintro e w2 ⟨rfl, hb2⟩
  have HB2 := Lib.hid hb2
  clear hb2
  have ht2 := HT.out.later HB2.out (by have := HZ.out; omega)
  clear q0 q1 q2 f0 f1 f2
  obtain ⟨q0, q1, q2, f0, f1, f2⟩ := ht2.cells
  have HT2 := Lib.hid ht2
  clear ht2
  go_wp2_with fail
  exact bodyPost_ret (results_ct rfl _ _ ⟨w.heap.size, 0, none⟩ _ rfl (HT2.out.put _ _ _).load) rfl ⟨rfl, below_put (HB.out.trans (HB2.out.mono (by have := HZ.out; omega))) (Nat.le_refl _) _ _ _⟩

set_option maxRecDepth 100000 in
set_option maxHeartbeats 4000000 in
theorem var_5b (b : Nat) (T : ByteArray) (k : Nat) (w : World) (hS : ScT b T w) (hk : k ≤ T.size) (hT : T.size ≤ 100000000) (h1 : Lib.hasPrefix (from' T k) [63, 39] = true) (hi : 0 < idLen (from' T (k + 2))) (hd : Lib.hasPrefix (from' T (k + 2 + idLen (from' T (k + 2)))) [46] = true) (hg : 0 < runLen digB (from' T (k + 2 + idLen (from' T (k + 2)) + 1))) :
    CandC 44 b k w (candTok T k 5 (2 + idLen (from' T (k + 2)) + (1 + runLen digB (from' T (k + 2 + idLen (from' T (k + 2)) + 1))))).1 (candTok T k 5 (2 + idLen (from' T (k + 2)) + (1 + runLen digB (from' T (k + 2 + idLen (from' T (k + 2)) + 1))))).2 (k + (2 + idLen (from' T (k + 2)) + (1 + runLen digB (from' T (k + 2 + idLen (from' T (k + 2)) + 1))))) := by
  unfold CandC
  obtain ⟨W, hW, hb, hz, ht⟩ := res_laid w
  have hS2 := hS.later hb hS.lt
  have c1 := hS2.cell
  have c1' := c1
  rw [← hW] at c1'
  have hro : (T.extract k T.size).data.toList = from' T k := from_ext T k
  have P1 := Lib.hid fun (w : World) => Tryz.strings_HasPrefix (T.extract k T.size) ⟨#[63, 39]⟩ w
  have x1 : Lib.hasPrefix (from' T k) (⟨#[63, 39]⟩ : ByteArray).data.toList = true := h1
  simp only [hro, x1] at P1
  have hst : k + 2 ≤ T.size := pre_from h1 hk
  have HI := Lib.hid (identifier_any b T (k + 2) W hS2 hst hT)
  have hle1 := idLen_from_le T (k + 2) hst
  have e46 : ∀ V, ScT b T V → Calls Tryz.prog 54 #[.pointer (some ⟨b, 0, none⟩), .int .i64 5, .int .i64 (k : Int), .int .i64 ((k + (2 + idLen (from' T (k + 2)) + (1 + runLen digB (from' T (k + 2 + idLen (from' T (k + 2)) + 1)))) : Nat) : Int)] V fun x w' => x = .returned (.tuple #[tokV (candTok T k 5 (2 + idLen (from' T (k + 2)) + (1 + runLen digB (from' T (k + 2 + idLen (from' T (k + 2)) + 1))))).1 (candTok T k 5 (2 + idLen (from' T (k + 2)) + (1 + runLen digB (from' T (k + 2 + idLen (from' T (k + 2)) + 1))))).2 0, .int .i64 ((k + (2 + idLen (from' T (k + 2)) + (1 + runLen digB (from' T (k + 2 + idLen (from' T (k + 2)) + 1)))) : Nat) : Int)]) ∧ Below V.heap.size V w' := fun V hV => token_any b T 5 k (2 + idLen (from' T (k + 2)) + (1 + runLen digB (from' T (k + 2 + idLen (from' T (k + 2)) + 1)))) V hV (by have := runLen_le digB (from' T (k + 2 + idLen (from' T (k + 2)) + 1)); rw [from_len] at this; omega) hT
  have hro2 : (T.extract (k + 2 + idLen (from' T (k + 2))) T.size).data.toList = from' T (k + 2 + idLen (from' T (k + 2))) := from_ext T (k + 2 + idLen (from' T (k + 2)))
  have PD := Lib.hid fun (w : World) => Tryz.strings_HasPrefix (T.extract (k + 2 + idLen (from' T (k + 2))) T.size) ⟨#[46]⟩ w
  have xd : Lib.hasPrefix (from' T (k + 2 + idLen (from' T (k + 2)))) (⟨#[46]⟩ : ByteArray).data.toList = true := hd
  simp only [hro2, xd] at PD
  have hdt : k + 2 + idLen (from' T (k + 2)) + 1 ≤ T.size := pre_from hd hle1
  have HG := Lib.hid (while_dig b T (k + 2 + idLen (from' T (k + 2)) + 1) W hS2 hdt hT)
  obtain ⟨g, hgn⟩ : ∃ g, k + 2 + idLen (from' T (k + 2)) + 1 + runLen digB (from' T (k + 2 + idLen (from' T (k + 2)) + 1)) = g := ⟨_, rfl⟩
  rw [hgn] at HG
  rw [show (((k + 2 + idLen (from' T (k + 2)) + 1 : Nat)) : Int) = ((k + 2 + idLen (from' T (k + 2)) : Nat) : Int) + 1 by omega] at HG
  obtain ⟨e1, he1⟩ : ∃ e1, k + 2 + idLen (from' T (k + 2)) = e1 := ⟨_, rfl⟩
  rw [show (((k + 2 : Nat)) : Int) = (k : Int) + 2 by omega, he1] at HI
  rw [he1] at hle1
  rw [he1] at PD
  simp only [he1] at HG hdt
  obtain ⟨q, hq⟩ : ∃ q, candTok T k 5 (2 + idLen (from' T (k + 2)) + (1 + runLen digB (from' T (k + 2 + idLen (from' T (k + 2)) + 1)))) = q := ⟨_, rfl⟩
  obtain ⟨e, he⟩ : ∃ e, k + (2 + idLen (from' T (k + 2)) + (1 + runLen digB (from' T (k + 2 + idLen (from' T (k + 2)) + 1)))) = e := ⟨_, rfl⟩
  simp only [hq, he] at e46
  rw [hq, he]
  have HTk := Lib.hid e46
  have hcm : ((e1 : Int) == (k : Int) + 2) = false := by simp; omega
  have hgt : decide ((e1 : Int) + 1 < (g : Int)) = true := by simp; omega
  obtain rfl : g = e := by omega
  have hle0 : (k : Int) ≤ T.size := by omega
  have hle2 : (e1 : Int) ≤ T.size := by omega
  have HS2 := Lib.hid hS2
  have HW := Lib.hid hW
  have HB := Lib.hid hb
  have HZ := Lib.hid hz
  have HT := Lib.hid ht
  obtain ⟨q0, q1, q2, f0, f1, f2⟩ := ht.cells
  clear hW hb hz ht hS2 hS hro he1 hi h1 x1 hro2 xd hd hgn hg hq he e46
  go_enter Tryz.func44, Tryz.ntmps44
  go_wp2_with fail
  rw [HW.out]
  clear c1'
  (with_reducible refine (P1.out _).mono ?_)
  rintro e w' ⟨rfl, rfl⟩
  go_wp2_with fail
  (with_reducible refine HI.out.mono ?_)
  rintro e w' ⟨rfl, rfl⟩
  go_wp2_with fail
  (with_reducible refine (PD.out _).mono ?_)
  rintro e w' ⟨rfl, rfl⟩
  go_wp2_with fail
  (with_reducible refine HG.out.mono ?_)
  rintro e w' ⟨rfl, rfl⟩
  go_wp2_with fail
  (with_reducible refine (HTk.out _ HS2.out).mono ?_)
  rintro e w2 ⟨rfl, hb2⟩
  have HB2 := Lib.hid hb2
  clear hb2
  have ht2 := HT.out.later HB2.out (by have := HZ.out; omega)
  clear q0 q1 q2 f0 f1 f2
  obtain ⟨q0, q1, q2, f0, f1, f2⟩ := ht2.cells
  have HT2 := Lib.hid ht2
  clear ht2
  go_wp2_with fail
  exact bodyPost_ret (results_ct rfl _ _ ⟨w.heap.size, 0, none⟩ _ rfl (HT2.out.put _ _ _).load) rfl ⟨rfl, below_put (HB.out.trans (HB2.out.mono (by have := HZ.out; omega))) (Nat.le_refl _) _ _ _⟩

set_option maxRecDepth 100000 in
set_option maxHeartbeats 4000000 in
theorem var_5c (b : Nat) (T : ByteArray) (k : Nat) (w : World) (hS : ScT b T w) (hk : k ≤ T.size) (hT : T.size ≤ 100000000) (h1 : Lib.hasPrefix (from' T k) [63, 39] = true) (hi : 0 < idLen (from' T (k + 2))) (hd : Lib.hasPrefix (from' T (k + 2 + idLen (from' T (k + 2)))) [46] = true) (hg : runLen digB (from' T (k + 2 + idLen (from' T (k + 2)) + 1)) = 0) :
    CandC 44 b k w (candTok T k 5 (2 + idLen (from' T (k + 2)))).1 (candTok T k 5 (2 + idLen (from' T (k + 2)))).2 (k + (2 + idLen (from' T (k + 2)))) := by
  unfold CandC
  obtain ⟨W, hW, hb, hz, ht⟩ := res_laid w
  have hS2 := hS.later hb hS.lt
  have c1 := hS2.cell
  have c1' := c1
  rw [← hW] at c1'
  have hro : (T.extract k T.size).data.toList = from' T k := from_ext T k
  have P1 := Lib.hid fun (w : World) => Tryz.strings_HasPrefix (T.extract k T.size) ⟨#[63, 39]⟩ w
  have x1 : Lib.hasPrefix (from' T k) (⟨#[63, 39]⟩ : ByteArray).data.toList = true := h1
  simp only [hro, x1] at P1
  have hst : k + 2 ≤ T.size := pre_from h1 hk
  have HI := Lib.hid (identifier_any b T (k + 2) W hS2 hst hT)
  have hle1 := idLen_from_le T (k + 2) hst
  have e46 : ∀ V, ScT b T V → Calls Tryz.prog 54 #[.pointer (some ⟨b, 0, none⟩), .int .i64 5, .int .i64 (k : Int), .int .i64 ((k + (2 + idLen (from' T (k + 2))) : Nat) : Int)] V fun x w' => x = .returned (.tuple #[tokV (candTok T k 5 (2 + idLen (from' T (k + 2)))).1 (candTok T k 5 (2 + idLen (from' T (k + 2)))).2 0, .int .i64 ((k + (2 + idLen (from' T (k + 2))) : Nat) : Int)]) ∧ Below V.heap.size V w' := fun V hV => token_any b T 5 k (2 + idLen (from' T (k + 2))) V hV (by omega) hT
  have hro2 : (T.extract (k + 2 + idLen (from' T (k + 2))) T.size).data.toList = from' T (k + 2 + idLen (from' T (k + 2))) := from_ext T (k + 2 + idLen (from' T (k + 2)))
  have PD := Lib.hid fun (w : World) => Tryz.strings_HasPrefix (T.extract (k + 2 + idLen (from' T (k + 2))) T.size) ⟨#[46]⟩ w
  have xd : Lib.hasPrefix (from' T (k + 2 + idLen (from' T (k + 2)))) (⟨#[46]⟩ : ByteArray).data.toList = true := hd
  simp only [hro2, xd] at PD
  have hdt : k + 2 + idLen (from' T (k + 2)) + 1 ≤ T.size := pre_from hd hle1
  have HG := Lib.hid (while_dig b T (k + 2 + idLen (from' T (k + 2)) + 1) W hS2 hdt hT)
  obtain ⟨g, hgn⟩ : ∃ g, k + 2 + idLen (from' T (k + 2)) + 1 + runLen digB (from' T (k + 2 + idLen (from' T (k + 2)) + 1)) = g := ⟨_, rfl⟩
  rw [hgn] at HG
  rw [show (((k + 2 + idLen (from' T (k + 2)) + 1 : Nat)) : Int) = ((k + 2 + idLen (from' T (k + 2)) : Nat) : Int) + 1 by omega] at HG
  obtain ⟨e1, he1⟩ : ∃ e1, k + 2 + idLen (from' T (k + 2)) = e1 := ⟨_, rfl⟩
  rw [show (((k + 2 : Nat)) : Int) = (k : Int) + 2 by omega, he1] at HI
  rw [he1] at hle1
  rw [he1] at PD
  simp only [he1] at HG hdt
  obtain ⟨q, hq⟩ : ∃ q, candTok T k 5 (2 + idLen (from' T (k + 2))) = q := ⟨_, rfl⟩
  obtain ⟨e, he⟩ : ∃ e, k + (2 + idLen (from' T (k + 2))) = e := ⟨_, rfl⟩
  simp only [hq, he] at e46
  rw [hq, he]
  have HTk := Lib.hid e46
  have hcm : ((e1 : Int) == (k : Int) + 2) = false := by simp; omega
  have hgt : decide ((e1 : Int) + 1 < (g : Int)) = false := by simp; omega
  obtain rfl : e1 = e := by omega
  have hle0 : (k : Int) ≤ T.size := by omega
  have hle2 : (e1 : Int) ≤ T.size := by omega
  have HS2 := Lib.hid hS2
  have HW := Lib.hid hW
  have HB := Lib.hid hb
  have HZ := Lib.hid hz
  have HT := Lib.hid ht
  obtain ⟨q0, q1, q2, f0, f1, f2⟩ := ht.cells
  clear hW hb hz ht hS2 hS hro he1 hi h1 x1 hro2 xd hd hgn hg hq he e46
  go_enter Tryz.func44, Tryz.ntmps44
  go_wp2_with fail
  rw [HW.out]
  clear c1'
  (with_reducible refine (P1.out _).mono ?_)
  rintro e w' ⟨rfl, rfl⟩
  go_wp2_with fail
  (with_reducible refine HI.out.mono ?_)
  rintro e w' ⟨rfl, rfl⟩
  go_wp2_with fail
  (with_reducible refine (PD.out _).mono ?_)
  rintro e w' ⟨rfl, rfl⟩
  go_wp2_with fail
  (with_reducible refine HG.out.mono ?_)
  rintro e w' ⟨rfl, rfl⟩
  go_wp2_with fail
  (with_reducible refine (HTk.out _ HS2.out).mono ?_)
  rintro e w2 ⟨rfl, hb2⟩
  have HB2 := Lib.hid hb2
  clear hb2
  have ht2 := HT.out.later HB2.out (by have := HZ.out; omega)
  clear q0 q1 q2 f0 f1 f2
  obtain ⟨q0, q1, q2, f0, f1, f2⟩ := ht2.cells
  have HT2 := Lib.hid ht2
  clear ht2
  go_wp2_with fail
  exact bodyPost_ret (results_ct rfl _ _ ⟨w.heap.size, 0, none⟩ _ rfl (HT2.out.put _ _ _).load) rfl ⟨rfl, below_put (HB.out.trans (HB2.out.mono (by have := HZ.out; omega))) (Nat.le_refl _) _ _ _⟩

set_option maxRecDepth 100000 in
set_option maxHeartbeats 4000000 in
theorem var_4z (b : Nat) (T : ByteArray) (k : Nat) (w : World) (hS : ScT b T w) (hk : k ≤ T.size) (hT : T.size ≤ 100000000) (h1 : Lib.hasPrefix (from' T k) [63, 39] = false) (h2 : Lib.hasPrefix (from' T k) [63] = true) (hi : idLen (from' T (k + 1)) = 0) :
    CandC 44 b k w (candTok T k 4 (0)).1 (candTok T k 4 (0)).2 (k + (0)) := by
  unfold CandC
  obtain ⟨W, hW, hb, hz, ht⟩ := res_laid w
  have hS2 := hS.later hb hS.lt
  have c1 := hS2.cell
  have c1' := c1
  rw [← hW] at c1'
  have hro : (T.extract k T.size).data.toList = from' T k := from_ext T k
  have P1 := Lib.hid fun (w : World) => Tryz.strings_HasPrefix (T.extract k T.size) ⟨#[63, 39]⟩ w
  have x1 : Lib.hasPrefix (from' T k) (⟨#[63, 39]⟩ : ByteArray).data.toList = false := h1
  simp only [hro, x1] at P1
  have P2 := Lib.hid fun (w : World) => Tryz.strings_HasPrefix (T.extract k T.size) ⟨#[63]⟩ w
  have x2 : Lib.hasPrefix (from' T k) (⟨#[63]⟩ : ByteArray).data.toList = true := h2
  simp only [hro, x2] at P2
  have hst : k + 1 ≤ T.size := pre_from h2 hk
  have HI := Lib.hid (identifier_any b T (k + 1) W hS2 hst hT)
  have hle1 := idLen_from_le T (k + 1) hst
  obtain ⟨e1, he1⟩ : ∃ e1, k + 1 + idLen (from' T (k + 1)) = e1 := ⟨_, rfl⟩
  rw [show (((k + 1 : Nat)) : Int) = (k : Int) + 1 by omega, he1] at HI
  rw [he1] at hle1
  have hcm : ((e1 : Int) == (k : Int) + 1) = true := by simp; omega
  have hle0 : (k : Int) ≤ T.size := by omega
  have hle2 : (e1 : Int) ≤ T.size := by omega
  have HS2 := Lib.hid hS2
  have HW := Lib.hid hW
  have HB := Lib.hid hb
  have HZ := Lib.hid hz
  have HT := Lib.hid ht
  obtain ⟨q0, q1, q2, f0, f1, f2⟩ := ht.cells
  clear hW hb hz ht hS2 hS hro he1 hi h1 x1 h2 x2
  go_enter Tryz.func44, Tryz.ntmps44
  go_wp2_with fail
  rw [HW.out]
  clear c1'
  (with_reducible refine (P1.out _).mono ?_)
  rintro e w' ⟨rfl, rfl⟩
  go_wp2_with fail
  (with_reducible refine (P2.out _).mono ?_)
  rintro e w' ⟨rfl, rfl⟩
  go_wp2_with fail
  (with_reducible refine HI.out.mono ?_)
  rintro e w' ⟨rfl, rfl⟩
  go_wp2_with fail
  exact bodyPost_ret (results_ct rfl _ _ ⟨w.heap.size, 0, none⟩ _ rfl (HT.out.put _ _ _).load) rfl ⟨rfl, below_put HB.out (Nat.le_refl _) _ _ _⟩

set_option maxRecDepth 100000 in
set_option maxHeartbeats 4000000 in
theorem var_4a (b : Nat) (T : ByteArray) (k : Nat) (w : World) (hS : ScT b T w) (hk : k ≤ T.size) (hT : T.size ≤ 100000000) (h1 : Lib.hasPrefix (from' T k) [63, 39] = false) (h2 : Lib.hasPrefix (from' T k) [63] = true) (hi : 0 < idLen (from' T (k + 1))) (hd : Lib.hasPrefix (from' T (k + 1 + idLen (from' T (k + 1)))) [46] = false) :
    CandC 44 b k w (candTok T k 4 (1 + idLen (from' T (k + 1)))).1 (candTok T k 4 (1 + idLen (from' T (k + 1)))).2 (k + (1 + idLen (from' T (k + 1)))) := by
  unfold CandC
  obtain ⟨W, hW, hb, hz, ht⟩ := res_laid w
  have hS2 := hS.later hb hS.lt
  have c1 := hS2.cell
  have c1' := c1
  rw [← hW] at c1'
  have hro : (T.extract k T.size).data.toList = from' T k := from_ext T k
  have P1 := Lib.hid fun (w : World) => Tryz.strings_HasPrefix (T.extract k T.size) ⟨#[63, 39]⟩ w
  have x1 : Lib.hasPrefix (from' T k) (⟨#[63, 39]⟩ : ByteArray).data.toList = false := h1
  simp only [hro, x1] at P1
  have P2 := Lib.hid fun (w : World) => Tryz.strings_HasPrefix (T.extract k T.size) ⟨#[63]⟩ w
  have x2 : Lib.hasPrefix (from' T k) (⟨#[63]⟩ : ByteArray).data.toList = true := h2
  simp only [hro, x2] at P2
  have hst : k + 1 ≤ T.size := pre_from h2 hk
  have HI := Lib.hid (identifier_any b T (k + 1) W hS2 hst hT)
  have hle1 := idLen_from_le T (k + 1) hst
  have e46 : ∀ V, ScT b T V → Calls Tryz.prog 54 #[.pointer (some ⟨b, 0, none⟩), .int .i64 4, .int .i64 (k : Int), .int .i64 ((k + (1 + idLen (from' T (k + 1))) : Nat) : Int)] V fun x w' => x = .returned (.tuple #[tokV (candTok T k 4 (1 + idLen (from' T (k + 1)))).1 (candTok T k 4 (1 + idLen (from' T (k + 1)))).2 0, .int .i64 ((k + (1 + idLen (from' T (k + 1))) : Nat) : Int)]) ∧ Below V.heap.size V w' := fun V hV => token_any b T 4 k (1 + idLen (from' T (k + 1))) V hV (by omega) hT
  have hro2 : (T.extract (k + 1 + idLen (from' T (k + 1))) T.size).data.toList = from' T (k + 1 + idLen (from' T (k + 1))) := from_ext T (k + 1 + idLen (from' T (k + 1)))
  have PD := Lib.hid fun (w : World) => Tryz.strings_HasPrefix (T.extract (k + 1 + idLen (from' T (k + 1))) T.size) ⟨#[46]⟩ w
  have xd : Lib.hasPrefix (from' T (k + 1 + idLen (from' T (k + 1)))) (⟨#[46]⟩ : ByteArray).data.toList = false := hd
  simp only [hro2, xd] at PD
  obtain ⟨e1, he1⟩ : ∃ e1, k + 1 + idLen (from' T (k + 1)) = e1 := ⟨_, rfl⟩
  rw [show (((k + 1 : Nat)) : Int) = (k : Int) + 1 by omega, he1] at HI
  rw [he1] at hle1
  rw [he1] at PD
  obtain ⟨q, hq⟩ : ∃ q, candTok T k 4 (1 + idLen (from' T (k + 1))) = q := ⟨_, rfl⟩
  obtain ⟨e, he⟩ : ∃ e, k + (1 + idLen (from' T (k + 1))) = e := ⟨_, rfl⟩
  simp only [hq, he] at e46
  rw [hq, he]
  have HTk := Lib.hid e46
  have hcm : ((e1 : Int) == (k : Int) + 1) = false := by simp; omega
  obtain rfl : e1 = e := by omega
  have hle0 : (k : Int) ≤ T.size := by omega
  have hle2 : (e1 : Int) ≤ T.size := by omega
  have HS2 := Lib.hid hS2
  have HW := Lib.hid hW
  have HB := Lib.hid hb
  have HZ := Lib.hid hz
  have HT := Lib.hid ht
  obtain ⟨q0, q1, q2, f0, f1, f2⟩ := ht.cells
  clear hW hb hz ht hS2 hS hro he1 hi h1 x1 h2 x2 hro2 xd hd hq he e46
  go_enter Tryz.func44, Tryz.ntmps44
  go_wp2_with fail
  rw [HW.out]
  clear c1'
  (with_reducible refine (P1.out _).mono ?_)
  rintro e w' ⟨rfl, rfl⟩
  go_wp2_with fail
  (with_reducible refine (P2.out _).mono ?_)
  rintro e w' ⟨rfl, rfl⟩
  go_wp2_with fail
  (with_reducible refine HI.out.mono ?_)
  rintro e w' ⟨rfl, rfl⟩
  go_wp2_with fail
  (with_reducible refine (PD.out _).mono ?_)
  rintro e w' ⟨rfl, rfl⟩
  go_wp2_with fail
  (with_reducible refine (HTk.out _ HS2.out).mono ?_)
  rintro e w2 ⟨rfl, hb2⟩
  have HB2 := Lib.hid hb2
  clear hb2
  have ht2 := HT.out.later HB2.out (by have := HZ.out; omega)
  clear q0 q1 q2 f0 f1 f2
  obtain ⟨q0, q1, q2, f0, f1, f2⟩ := ht2.cells
  have HT2 := Lib.hid ht2
  clear ht2
  go_wp2_with fail
  exact bodyPost_ret (results_ct rfl _ _ ⟨w.heap.size, 0, none⟩ _ rfl (HT2.out.put _ _ _).load) rfl ⟨rfl, below_put (HB.out.trans (HB2.out.mono (by have := HZ.out; omega))) (Nat.le_refl _) _ _ _⟩

set_option maxRecDepth 100000 in
set_option maxHeartbeats 4000000 in
theorem var_4b (b : Nat) (T : ByteArray) (k : Nat) (w : World) (hS : ScT b T w) (hk : k ≤ T.size) (hT : T.size ≤ 100000000) (h1 : Lib.hasPrefix (from' T k) [63, 39] = false) (h2 : Lib.hasPrefix (from' T k) [63] = true) (hi : 0 < idLen (from' T (k + 1))) (hd : Lib.hasPrefix (from' T (k + 1 + idLen (from' T (k + 1)))) [46] = true) (hg : 0 < runLen digB (from' T (k + 1 + idLen (from' T (k + 1)) + 1))) :
    CandC 44 b k w (candTok T k 4 (1 + idLen (from' T (k + 1)) + (1 + runLen digB (from' T (k + 1 + idLen (from' T (k + 1)) + 1))))).1 (candTok T k 4 (1 + idLen (from' T (k + 1)) + (1 + runLen digB (from' T (k + 1 + idLen (from' T (k + 1)) + 1))))).2 (k + (1 + idLen (from' T (k + 1)) + (1 + runLen digB (from' T (k + 1 + idLen (from' T (k + 1)) + 1))))) := by
  unfold CandC
  obtain ⟨W, hW, hb, hz, ht⟩ := res_laid w
  have hS2 := hS.later hb hS.lt
  have c1 := hS2.cell
  have c1' := c1
  rw [← hW] at c1'
  have hro : (T.extract k T.size).data.toList = from' T k := from_ext T k
  have P1 := Lib.hid fun (w : World) => Tryz.strings_HasPrefix (T.extract k T.size) ⟨#[63, 39]⟩ w
  have x1 : Lib.hasPrefix (from' T k) (⟨#[63, 39]⟩ : ByteArray).data.toList = false := h1
  simp only [hro, x1] at P1
  have P2 := Lib.hid fun (w : World) => Tryz.strings_HasPrefix (T.extract k T.size) ⟨#[63]⟩ w
  have x2 : Lib.hasPrefix (from' T k) (⟨#[63]⟩ : ByteArray).data.toList = true := h2
  simp only [hro, x2] at P2
  have hst : k + 1 ≤ T.size := pre_from h2 hk
  have HI := Lib.hid (identifier_any b T (k + 1) W hS2 hst hT)
  have hle1 := idLen_from_le T (k + 1) hst
  have e46 : ∀ V, ScT b T V → Calls Tryz.prog 54 #[.pointer (some ⟨b, 0, none⟩), .int .i64 4, .int .i64 (k : Int), .int .i64 ((k + (1 + idLen (from' T (k + 1)) + (1 + runLen digB (from' T (k + 1 + idLen (from' T (k + 1)) + 1)))) : Nat) : Int)] V fun x w' => x = .returned (.tuple #[tokV (candTok T k 4 (1 + idLen (from' T (k + 1)) + (1 + runLen digB (from' T (k + 1 + idLen (from' T (k + 1)) + 1))))).1 (candTok T k 4 (1 + idLen (from' T (k + 1)) + (1 + runLen digB (from' T (k + 1 + idLen (from' T (k + 1)) + 1))))).2 0, .int .i64 ((k + (1 + idLen (from' T (k + 1)) + (1 + runLen digB (from' T (k + 1 + idLen (from' T (k + 1)) + 1)))) : Nat) : Int)]) ∧ Below V.heap.size V w' := fun V hV => token_any b T 4 k (1 + idLen (from' T (k + 1)) + (1 + runLen digB (from' T (k + 1 + idLen (from' T (k + 1)) + 1)))) V hV (by have := runLen_le digB (from' T (k + 1 + idLen (from' T (k + 1)) + 1)); rw [from_len] at this; omega) hT
  have hro2 : (T.extract (k + 1 + idLen (from' T (k + 1))) T.size).data.toList = from' T (k + 1 + idLen (from' T (k + 1))) := from_ext T (k + 1 + idLen (from' T (k + 1)))
  have PD := Lib.hid fun (w : World) => Tryz.strings_HasPrefix (T.extract (k + 1 + idLen (from' T (k + 1))) T.size) ⟨#[46]⟩ w
  have xd : Lib.hasPrefix (from' T (k + 1 + idLen (from' T (k + 1)))) (⟨#[46]⟩ : ByteArray).data.toList = true := hd
  simp only [hro2, xd] at PD
  have hdt : k + 1 + idLen (from' T (k + 1)) + 1 ≤ T.size := pre_from hd hle1
  have HG := Lib.hid (while_dig b T (k + 1 + idLen (from' T (k + 1)) + 1) W hS2 hdt hT)
  obtain ⟨g, hgn⟩ : ∃ g, k + 1 + idLen (from' T (k + 1)) + 1 + runLen digB (from' T (k + 1 + idLen (from' T (k + 1)) + 1)) = g := ⟨_, rfl⟩
  rw [hgn] at HG
  rw [show (((k + 1 + idLen (from' T (k + 1)) + 1 : Nat)) : Int) = ((k + 1 + idLen (from' T (k + 1)) : Nat) : Int) + 1 by omega] at HG
  obtain ⟨e1, he1⟩ : ∃ e1, k + 1 + idLen (from' T (k + 1)) = e1 := ⟨_, rfl⟩
  rw [show (((k + 1 : Nat)) : Int) = (k : Int) + 1 by omega, he1] at HI
  rw [he1] at hle1
  rw [he1] at PD
  simp only [he1] at HG hdt
  obtain ⟨q, hq⟩ : ∃ q, candTok T k 4 (1 + idLen (from' T (k + 1)) + (1 + runLen digB (from' T (k + 1 + idLen (from' T (k + 1)) + 1)))) = q := ⟨_, rfl⟩
  obtain ⟨e, he⟩ : ∃ e, k + (1 + idLen (from' T (k + 1)) + (1 + runLen digB (from' T (k + 1 + idLen (from' T (k + 1)) + 1)))) = e := ⟨_, rfl⟩
  simp only [hq, he] at e46
  rw [hq, he]
  have HTk := Lib.hid e46
  have hcm : ((e1 : Int) == (k : Int) + 1) = false := by simp; omega
  have hgt : decide ((e1 : Int) + 1 < (g : Int)) = true := by simp; omega
  obtain rfl : g = e := by omega
  have hle0 : (k : Int) ≤ T.size := by omega
  have hle2 : (e1 : Int) ≤ T.size := by omega
  have HS2 := Lib.hid hS2
  have HW := Lib.hid hW
  have HB := Lib.hid hb
  have HZ := Lib.hid hz
  have HT := Lib.hid ht
  obtain ⟨q0, q1, q2, f0, f1, f2⟩ := ht.cells
  clear hW hb hz ht hS2 hS hro he1 hi h1 x1 h2 x2 hro2 xd hd hgn hg hq he e46
  go_enter Tryz.func44, Tryz.ntmps44
  go_wp2_with fail
  rw [HW.out]
  clear c1'
  (with_reducible refine (P1.out _).mono ?_)
  rintro e w' ⟨rfl, rfl⟩
  go_wp2_with fail
  (with_reducible refine (P2.out _).mono ?_)
  rintro e w' ⟨rfl, rfl⟩
  go_wp2_with fail
  (with_reducible refine HI.out.mono ?_)
  rintro e w' ⟨rfl, rfl⟩
  go_wp2_with fail
  (with_reducible refine (PD.out _).mono ?_)
  rintro e w' ⟨rfl, rfl⟩
  go_wp2_with fail
  (with_reducible refine HG.out.mono ?_)
  rintro e w' ⟨rfl, rfl⟩
  go_wp2_with fail
  (with_reducible refine (HTk.out _ HS2.out).mono ?_)
  rintro e w2 ⟨rfl, hb2⟩
  have HB2 := Lib.hid hb2
  clear hb2
  have ht2 := HT.out.later HB2.out (by have := HZ.out; omega)
  clear q0 q1 q2 f0 f1 f2
  obtain ⟨q0, q1, q2, f0, f1, f2⟩ := ht2.cells
  have HT2 := Lib.hid ht2
  clear ht2
  go_wp2_with fail
  exact bodyPost_ret (results_ct rfl _ _ ⟨w.heap.size, 0, none⟩ _ rfl (HT2.out.put _ _ _).load) rfl ⟨rfl, below_put (HB.out.trans (HB2.out.mono (by have := HZ.out; omega))) (Nat.le_refl _) _ _ _⟩

set_option maxRecDepth 100000 in
set_option maxHeartbeats 4000000 in
theorem var_4c (b : Nat) (T : ByteArray) (k : Nat) (w : World) (hS : ScT b T w) (hk : k ≤ T.size) (hT : T.size ≤ 100000000) (h1 : Lib.hasPrefix (from' T k) [63, 39] = false) (h2 : Lib.hasPrefix (from' T k) [63] = true) (hi : 0 < idLen (from' T (k + 1))) (hd : Lib.hasPrefix (from' T (k + 1 + idLen (from' T (k + 1)))) [46] = true) (hg : runLen digB (from' T (k + 1 + idLen (from' T (k + 1)) + 1)) = 0) :
    CandC 44 b k w (candTok T k 4 (1 + idLen (from' T (k + 1)))).1 (candTok T k 4 (1 + idLen (from' T (k + 1)))).2 (k + (1 + idLen (from' T (k + 1)))) := by
  unfold CandC
  obtain ⟨W, hW, hb, hz, ht⟩ := res_laid w
  have hS2 := hS.later hb hS.lt
  have c1 := hS2.cell
  have c1' := c1
  rw [← hW] at c1'
  have hro : (T.extract k T.size).data.toList = from' T k := from_ext T k
  have P1 := Lib.hid fun (w : World) => Tryz.strings_HasPrefix (T.extract k T.size) ⟨#[63, 39]⟩ w
  have x1 : Lib.hasPrefix (from' T k) (⟨#[63, 39]⟩ : ByteArray).data.toList = false := h1
  simp only [hro, x1] at P1
  have P2 := Lib.hid fun (w : World) => Tryz.strings_HasPrefix (T.extract k T.size) ⟨#[63]⟩ w
  have x2 : Lib.hasPrefix (from' T k) (⟨#[63]⟩ : ByteArray).data.toList = true := h2
  simp only [hro, x2] at P2
  have hst : k + 1 ≤ T.size := pre_from h2 hk
  have HI := Lib.hid (identifier_any b T (k + 1) W hS2 hst hT)
  have hle1 := idLen_from_le T (k + 1) hst
  have e46 : ∀ V, ScT b T V → Calls Tryz.prog 54 #[.pointer (some ⟨b, 0, none⟩), .int .i64 4, .int .i64 (k : Int), .int .i64 ((k + (1 + idLen (from' T (k + 1))) : Nat) : Int)] V fun x w' => x = .returned (.tuple #[tokV (candTok T k 4 (1 + idLen (from' T (k + 1)))).1 (candTok T k 4 (1 + idLen (from' T (k + 1)))).2 0, .int .i64 ((k + (1 + idLen (from' T (k + 1))) : Nat) : Int)]) ∧ Below V.heap.size V w' := fun V hV => token_any b T 4 k (1 + idLen (from' T (k + 1))) V hV (by omega) hT
  have hro2 : (T.extract (k + 1 + idLen (from' T (k + 1))) T.size).data.toList = from' T (k + 1 + idLen (from' T (k + 1))) := from_ext T (k + 1 + idLen (from' T (k + 1)))
  have PD := Lib.hid fun (w : World) => Tryz.strings_HasPrefix (T.extract (k + 1 + idLen (from' T (k + 1))) T.size) ⟨#[46]⟩ w
  have xd : Lib.hasPrefix (from' T (k + 1 + idLen (from' T (k + 1)))) (⟨#[46]⟩ : ByteArray).data.toList = true := hd
  simp only [hro2, xd] at PD
  have hdt : k + 1 + idLen (from' T (k + 1)) + 1 ≤ T.size := pre_from hd hle1
  have HG := Lib.hid (while_dig b T (k + 1 + idLen (from' T (k + 1)) + 1) W hS2 hdt hT)
  obtain ⟨g, hgn⟩ : ∃ g, k + 1 + idLen (from' T (k + 1)) + 1 + runLen digB (from' T (k + 1 + idLen (from' T (k + 1)) + 1)) = g := ⟨_, rfl⟩
  rw [hgn] at HG
  rw [show (((k + 1 + idLen (from' T (k + 1)) + 1 : Nat)) : Int) = ((k + 1 + idLen (from' T (k + 1)) : Nat) : Int) + 1 by omega] at HG
  obtain ⟨e1, he1⟩ : ∃ e1, k + 1 + idLen (from' T (k + 1)) = e1 := ⟨_, rfl⟩
  rw [show (((k + 1 : Nat)) : Int) = (k : Int) + 1 by omega, he1] at HI
  rw [he1] at hle1
  rw [he1] at PD
  simp only [he1] at HG hdt
  obtain ⟨q, hq⟩ : ∃ q, candTok T k 4 (1 + idLen (from' T (k + 1))) = q := ⟨_, rfl⟩
  obtain ⟨e, he⟩ : ∃ e, k + (1 + idLen (from' T (k + 1))) = e := ⟨_, rfl⟩
  simp only [hq, he] at e46
  rw [hq, he]
  have HTk := Lib.hid e46
  have hcm : ((e1 : Int) == (k : Int) + 1) = false := by simp; omega
  have hgt : decide ((e1 : Int) + 1 < (g : Int)) = false := by simp; omega
  obtain rfl : e1 = e := by omega
  have hle0 : (k : Int) ≤ T.size := by omega
  have hle2 : (e1 : Int) ≤ T.size := by omega
  have HS2 := Lib.hid hS2
  have HW := Lib.hid hW
  have HB := Lib.hid hb
  have HZ := Lib.hid hz
  have HT := Lib.hid ht
  obtain ⟨q0, q1, q2, f0, f1, f2⟩ := ht.cells
  clear hW hb hz ht hS2 hS hro he1 hi h1 x1 h2 x2 hro2 xd hd hgn hg hq he e46
  go_enter Tryz.func44, Tryz.ntmps44
  go_wp2_with fail
  rw [HW.out]
  clear c1'
  (with_reducible refine (P1.out _).mono ?_)
  rintro e w' ⟨rfl, rfl⟩
  go_wp2_with fail
  (with_reducible refine (P2.out _).mono ?_)
  rintro e w' ⟨rfl, rfl⟩
  go_wp2_with fail
  (with_reducible refine HI.out.mono ?_)
  rintro e w' ⟨rfl, rfl⟩
  go_wp2_with fail
  (with_reducible refine (PD.out _).mono ?_)
  rintro e w' ⟨rfl, rfl⟩
  go_wp2_with fail
  (with_reducible refine HG.out.mono ?_)
  rintro e w' ⟨rfl, rfl⟩
  go_wp2_with fail
  (with_reducible refine (HTk.out _ HS2.out).mono ?_)
  rintro e w2 ⟨rfl, hb2⟩
  have HB2 := Lib.hid hb2
  clear hb2
  have ht2 := HT.out.later HB2.out (by have := HZ.out; omega)
  clear q0 q1 q2 f0 f1 f2
  obtain ⟨q0, q1, q2, f0, f1, f2⟩ := ht2.cells
  have HT2 := Lib.hid ht2
  clear ht2
  go_wp2_with fail
  exact bodyPost_ret (results_ct rfl _ _ ⟨w.heap.size, 0, none⟩ _ rfl (HT2.out.put _ _ _).load) rfl ⟨rfl, below_put (HB.out.trans (HB2.out.mono (by have := HZ.out; omega))) (Nat.le_refl _) _ _ _⟩

set_option maxRecDepth 100000 in
set_option maxHeartbeats 4000000 in
theorem var_3z (b : Nat) (T : ByteArray) (k : Nat) (w : World) (hS : ScT b T w) (hk : k ≤ T.size) (hT : T.size ≤ 100000000) (h1 : Lib.hasPrefix (from' T k) [63, 39] = false) (h2 : Lib.hasPrefix (from' T k) [63] = false) (h3 : Lib.hasPrefix (from' T k) [39] = true) (hi : idLen (from' T (k + 1)) = 0) :
    CandC 44 b k w (candTok T k 3 (0)).1 (candTok T k 3 (0)).2 (k + (0)) := by
  unfold CandC
  obtain ⟨W, hW, hb, hz, ht⟩ := res_laid w
  have hS2 := hS.later hb hS.lt
  have c1 := hS2.cell
  have c1' := c1
  rw [← hW] at c1'
  have hro : (T.extract k T.size).data.toList = from' T k := from_ext T k
  have P1 := Lib.hid fun (w : World) => Tryz.strings_HasPrefix (T.extract k T.size) ⟨#[63, 39]⟩ w
  have x1 : Lib.hasPrefix (from' T k) (⟨#[63, 39]⟩ : ByteArray).data.toList = false := h1
  simp only [hro, x1] at P1
  have P2 := Lib.hid fun (w : World) => Tryz.strings_HasPrefix (T.extract k T.size) ⟨#[63]⟩ w
  have x2 : Lib.hasPrefix (from' T k) (⟨#[63]⟩ : ByteArray).data.toList = false := h2
  simp only [hro, x2] at P2
  have P3 := Lib.hid fun (w : World) => Tryz.strings_HasPrefix (T.extract k T.size) ⟨#[39]⟩ w
  have x3 : Lib.hasPrefix (from' T k) (⟨#[39]⟩ : ByteArray).data.toList = true := h3
  simp only [hro, x3] at P3
  have hst : k + 1 ≤ T.size := pre_from h3 hk
  have HI := Lib.hid (identifier_any b T (k + 1) W hS2 hst hT)
  have hle1 := idLen_from_le T (k + 1) hst
  obtain ⟨e1, he1⟩ : ∃ e1, k + 1 + idLen (from' T (k + 1)) = e1 := ⟨_, rfl⟩
  rw [show (((k + 1 : Nat)) : Int) = (k : Int) + 1 by omega, he1] at HI
  rw [he1] at hle1
  have hcm : ((e1 : Int) == (k : Int) + 1) = true := by simp; omega
  have hle0 : (k : Int) ≤ T.size := by omega
  have hle2 : (e1 : Int) ≤ T.size := by omega
  have HS2 := Lib.hid hS2
  have HW := Lib.hid hW
  have HB := Lib.hid hb
  have HZ := Lib.hid hz
  have HT := Lib.hid ht
  obtain ⟨q0, q1, q2, f0, f1, f2⟩ := ht.cells
  clear hW hb hz ht hS2 hS hro he1 hi h1 x1 h2 x2 h3 x3
  go_enter Tryz.func44, Tryz.ntmps44
  go_wp2_with fail
  rw [HW.out]
  clear c1'
  (with_reducible refine (P1.out _).mono ?_)
  rintro e w' ⟨rfl, rfl⟩
  go_wp2_with fail
  (with_reducible refine (P2.out _).mono ?_)
  rintro e w' ⟨rfl, rfl⟩
  go_wp2_with fail
  (with_reducible refine (P3.out _).mono ?_)
  rintro e w' ⟨rfl, rfl⟩
  go_wp2_with fail
  (with_reducible refine HI.out.mono ?_)
  rintro e w' ⟨rfl, rfl⟩
  go_wp2_with fail
  exact bodyPost_ret (results_ct rfl _ _ ⟨w.heap.size, 0, none⟩ _ rfl (HT.out.put _ _ _).load) rfl ⟨rfl, below_put HB.out (Nat.le_refl _) _ _ _⟩

set_option maxRecDepth 100000 in
set_option maxHeartbeats 4000000 in
theorem var_3a (b : Nat) (T : ByteArray) (k : Nat) (w : World) (hS : ScT b T w) (hk : k ≤ T.size) (hT : T.size ≤ 100000000) (h1 : Lib.hasPrefix (from' T k) [63, 39] = false) (h2 : Lib.hasPrefix (from' T k) [63] = false) (h3 : Lib.hasPrefix (from' T k) [39] = true) (hi : 0 < idLen (from' T (k + 1))) :
    CandC 44 b k w (candTok T k 3 (1 + idLen (from' T (k + 1)))).1 (candTok T k 3 (1 + idLen (from' T (k + 1)))).2 (k + (1 + idLen (from' T (k + 1)))) := by
  unfold CandC
  obtain ⟨W, hW, hb, hz, ht⟩ := res_laid w
  have hS2 := hS.later hb hS.lt
  have c1 := hS2.cell
  have c1' := c1
  rw [← hW] at c1'
  have hro : (T.extract k T.size).data.toList = from' T k := from_ext T k
  have P1 := Lib.hid fun (w : World) => Tryz.strings_HasPrefix (T.extract k T.size) ⟨#[63, 39]⟩ w
  have x1 : Lib.hasPrefix (from' T k) (⟨#[63, 39]⟩ : ByteArray).data.toList = false := h1
  simp only [hro, x1] at P1
  have P2 := Lib.hid fun (w : World) => Tryz.strings_HasPrefix (T.extract k T.size) ⟨#[63]⟩ w
  have x2 : Lib.hasPrefix (from' T k) (⟨#[63]⟩ : ByteArray).data.toList = false := h2
  simp only [hro, x2] at P2
  have P3 := Lib.hid fun (w : World) => Tryz.strings_HasPrefix (T.extract k T.size) ⟨#[39]⟩ w
  have x3 : Lib.hasPrefix (from' T k) (⟨#[39]⟩ : ByteArray).data.toList = true := h3
  simp only [hro, x3] at P3
  have hst : k + 1 ≤ T.size := pre_from h3 hk
  have HI := Lib.hid (identifier_any b T (k + 1) W hS2 hst hT)
  have hle1 := idLen_from_le T (k + 1) hst
  have e46 : ∀ V, ScT b T V → Calls Tryz.prog 54 #[.pointer (some ⟨b, 0, none⟩), .int .i64 3, .int .i64 (k : Int), .int .i64 ((k + (1 + idLen (from' T (k + 1))) : Nat) : Int)] V fun x w' => x = .returned (.tuple #[tokV (candTok T k 3 (1 + idLen (from' T (k + 1)))).1 (candTok T k 3 (1 + idLen (from' T (k + 1)))).2 0, .int .i64 ((k + (1 + idLen (from' T (k + 1))) : Nat) : Int)]) ∧ Below V.heap.size V w' := fun V hV => token_any b T 3 k (1 + idLen (from' T (k + 1))) V hV (by omega) hT
  obtain ⟨e1, he1⟩ : ∃ e1, k + 1 + idLen (from' T (k + 1)) = e1 := ⟨_, rfl⟩
  rw [show (((k + 1 : Nat)) : Int) = (k : Int) + 1 by omega, he1] at HI
  rw [he1] at hle1
  obtain ⟨q, hq⟩ : ∃ q, candTok T k 3 (1 + idLen (from' T (k + 1))) = q := ⟨_, rfl⟩
  obtain ⟨e, he⟩ : ∃ e, k + (1 + idLen (from' T (k + 1))) = e := ⟨_, rfl⟩
  simp only [hq, he] at e46
  rw [hq, he]
  have HTk := Lib.hid e46
  have hcm : ((e1 : Int) == (k : Int) + 1) = false := by simp; omega
  obtain rfl : e1 = e := by omega
  have hle0 : (k : Int) ≤ T.size := by omega
  have hle2 : (e1 : Int) ≤ T.size := by omega
  have HS2 := Lib.hid hS2
  have HW := Lib.hid hW
  have HB := Lib.hid hb
  have HZ := Lib.hid hz
  have HT := Lib.hid ht
  obtain ⟨q0, q1, q2, f0, f1, f2⟩ := ht.cells
  clear hW hb hz ht hS2 hS hro he1 hi h1 x1 h2 x2 h3 x3 hq he e46
  go_enter Tryz.func44, Tryz.ntmps44
  go_wp2_with fail
  rw [HW.out]
  clear c1'
  (with_reducible refine (P1.out _).mono ?_)
  rintro e w' ⟨rfl, rfl⟩
  go_wp2_with fail
  (with_reducible refine (P2.out _).mono ?_)
  rintro e w' ⟨rfl, rfl⟩
  go_wp2_with fail
  (with_reducible refine (P3.out _).mono ?_)
  rintro e w' ⟨rfl, rfl⟩
  go_wp2_with fail
  (with_reducible refine HI.out.mono ?_)
  rintro e w' ⟨rfl, rfl⟩
  go_wp2_with fail
  (with_reducible refine (HTk.out _ HS2.out).mono ?_)
  rintro e w2 ⟨rfl, hb2⟩
  have HB2 := Lib.hid hb2
  clear hb2
  have ht2 := HT.out.later HB2.out (by have := HZ.out; omega)
  clear q0 q1 q2 f0 f1 f2
  obtain ⟨q0, q1, q2, f0, f1, f2⟩ := ht2.cells
  have HT2 := Lib.hid ht2
  clear ht2
  go_wp2_with fail
  exact bodyPost_ret (results_ct rfl _ _ ⟨w.heap.size, 0, none⟩ _ rfl (HT2.out.put _ _ _).load) rfl ⟨rfl, below_put (HB.out.trans (HB2.out.mono (by have := HZ.out; omega))) (Nat.le_refl _) _ _ _⟩

theorem mark5 {l : Bs} (h1 : Lib.hasPrefix l [63, 39] = true) : markOf l = some (5, 2) := if_pos h1
theorem mark4 {l : Bs} (h1 : Lib.hasPrefix l [63, 39] = false) (h2 : Lib.hasPrefix l [63] = true) : markOf l = some (4, 1) := by unfold markOf; rw [h1, h2]; rfl
theorem mark3 {l : Bs} (h1 : Lib.hasPrefix l [63, 39] = false) (h2 : Lib.hasPrefix l [63] = false) (h3 : Lib.hasPrefix l [39] = true) : markOf l = some (3, 1) := by unfold markOf; rw [h1, h2, h3]; rfl
theorem mark0 {l : Bs} (h1 : Lib.hasPrefix l [63, 39] = false) (h2 : Lib.hasPrefix l [63] = false) (h3 : Lib.hasPrefix l [39] = false) : markOf l = none := by unfold markOf; rw [h1, h2, h3]; rfl
theorem varLen_z {l : Bs} {kind : Int} {m : Nat} (hm : markOf l = some (kind, m)) (hi : idLen (l.drop m) = 0) : varLen l = 0 := by unfold varLen; rw [hm]; simp only; rw [hi]; rfl
theorem varLen_p {l : Bs} {kind : Int} {m : Nat} (hm : markOf l = some (kind, m)) (hi : 0 < idLen (l.drop m)) : varLen l = m + idLen (l.drop m) + indexLen kind (l.drop (m + idLen (l.drop m))) := by unfold varLen; rw [hm]; simp only; rw [if_pos hi]
theorem varKind_of {l : Bs} {kind : Int} {m : Nat} (hm : markOf l = some (kind, m)) : varKind l = kind := by unfold varKind; rw [hm]

/-- What a variable's candidate is: the same value at another spelling of its length. -/
theorem cand_len {b : Nat} {T : ByteArray} {k : Nat} {w : World} {kind : Int} {f n n' : Nat} (h : CandC f b k w (candTok T k kind n).1 (candTok T k kind n).2 (k + n)) (e : n' = n) : CandC f b k w (candTok T k kind n').1 (candTok T k kind n').2 (k + n') := by
  rw [e]
  exact h

theorem variable_any (b : Nat) (T : ByteArray) (k : Nat) (w : World) (hS : ScT b T w) (hk : k ≤ T.size) (hT : T.size ≤ 100000000) :
    CandC 44 b k w (candTok T k (varKind (from' T k)) (varLen (from' T k))).1 (candTok T k (varKind (from' T k)) (varLen (from' T k))).2 (k + varLen (from' T k)) := by
  cases h1 : Lib.hasPrefix (from' T k) [63, 39] with
  | true =>
    have hm := mark5 h1
    rw [varKind_of hm]
    by_cases hi : idLen (from' T (k + 2)) = 0
    · exact cand_len (var_5z b T k w hS hk hT h1 hi) (varLen_z hm (by rw [from_add]; exact hi))
    · have hl := varLen_p hm (by rw [from_add]; omega)
      rw [from_add, from_add, ← Nat.add_assoc] at hl
      have hi' : 0 < idLen (from' T (k + 2)) := by omega
      cases hd : Lib.hasPrefix (from' T (k + 2 + idLen (from' T (k + 2)))) [46] with
      | false =>
        refine cand_len (var_5a b T k w hS hk hT h1 hi' hd) ?_
        rw [hl]
        unfold indexLen
        rw [if_neg (fun x => by rw [hd] at x; cases x.2.1)]
        rfl
      | true =>
        by_cases hg : runLen digB (from' T (k + 2 + idLen (from' T (k + 2)) + 1)) = 0
        · refine cand_len (var_5c b T k w hS hk hT h1 hi' hd hg) ?_
          rw [hl]
          unfold indexLen
          rw [from_add, if_neg (fun x => by rw [hg] at x; exact absurd x.2.2 (Nat.lt_irrefl 0))]
          rfl
        · refine cand_len (var_5b b T k w hS hk hT h1 hi' hd (by omega)) ?_
          rw [hl]
          unfold indexLen
          rw [from_add, if_pos ⟨by decide, hd, by omega⟩]
  | false =>
    cases h2 : Lib.hasPrefix (from' T k) [63] with
    | true =>
      have hm := mark4 h1 h2
      rw [varKind_of hm]
      by_cases hi : idLen (from' T (k + 1)) = 0
      · exact cand_len (var_4z b T k w hS hk hT h1 h2 hi) (varLen_z hm (by rw [from_add]; exact hi))
      · have hl := varLen_p hm (by rw [from_add]; omega)
        rw [from_add, from_add, ← Nat.add_assoc] at hl
        have hi' : 0 < idLen (from' T (k + 1)) := by omega
        cases hd : Lib.hasPrefix (from' T (k + 1 + idLen (from' T (k + 1)))) [46] with
        | false =>
          refine cand_len (var_4a b T k w hS hk hT h1 h2 hi' hd) ?_
          rw [hl]
          unfold indexLen
          rw [if_neg (fun x => by rw [hd] at x; cases x.2.1)]
          rfl
        | true =>
          by_cases hg : runLen digB (from' T (k + 1 + idLen (from' T (k + 1)) + 1)) = 0
          · refine cand_len (var_4c b T k w hS hk hT h1 h2 hi' hd hg) ?_
            rw [hl]
            unfold indexLen
            rw [from_add, if_neg (fun x => by rw [hg] at x; exact absurd x.2.2 (Nat.lt_irrefl 0))]
            rfl
          · refine cand_len (var_4b b T k w hS hk hT h1 h2 hi' hd (by omega)) ?_
            rw [hl]
            unfold indexLen
            rw [from_add, if_pos ⟨by decide, hd, by omega⟩]
    | false =>
      cases h3 : Lib.hasPrefix (from' T k) [39] with
      | true =>
        have hm := mark3 h1 h2 h3
        rw [varKind_of hm]
        by_cases hi : idLen (from' T (k + 1)) = 0
        · exact cand_len (var_3z b T k w hS hk hT h1 h2 h3 hi) (varLen_z hm (by rw [from_add]; exact hi))
        · refine cand_len (var_3a b T k w hS hk hT h1 h2 h3 (by omega)) ?_
          rw [varLen_p hm (by rw [from_add]; omega), from_add]
          unfold indexLen
          rw [if_neg (fun x => x.1 rfl)]
          rfl
      | false =>
        have hm := mark0 h1 h2 h3
        have e : varLen (from' T k) = 0 := by unfold varLen; rw [hm]
        rw [e]
        have h := variable_none b T k w hS hk hT h1 h2 h3
        unfold candTok
        rw [if_neg (Nat.lt_irrefl 0)]
        exact h
end Go.Proofs.YtdkagjbedinhjaaGreat
