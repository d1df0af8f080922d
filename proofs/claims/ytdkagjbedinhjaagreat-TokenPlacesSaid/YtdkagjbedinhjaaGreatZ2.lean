/-
  write of a token that stands in a text: its piece of the text.
-/
import Derived.Test.YtdkagjbedinhjaaGreatZ1
import Derived.Test.YtdkagjbedinhjaaGreatY5
namespace Go.Proofs.YtdkagjbedinhjaaGreat
open Go.RowKit Go.Shelf

theorem bytes_eq {a b : ByteArray} (h : a.data.toList = b.data.toList) : a = b := by
  cases a
  cases b
  congr 1
  exact Array.toList_inj.1 h

theorem tok_box (w : World) (kd : Int) (t : ByteArray) (p : Int) : ∃ W, w.alloc (.cells #[.int .i64 kd, .string t, .int .i64 p] 35) = W ∧ Below w.heap.size w W ∧ TokAt w.heap.size kd t p W ∧ W.heap.size = w.heap.size + 1 :=
  ⟨_, rfl, (Below.refl _ _).alloc (Nat.le_refl _) _, tok_new w kd t p, by simp⟩
theorem tok_slice (w : World) (x : Tk) : ∃ W, w.alloc (.cells #[.int .i64 x.1, .string x.2.1, .int .i64 (x.2.2 : Int)] 35) = W ∧ Below w.heap.size w W ∧ OneTok W (.slice (some ⟨w.heap.size, 0, none⟩) 1 1) x := by
  obtain ⟨W, hW, hb, ht, hl⟩ := tok_box w x.1 x.2.1 (x.2.2 : Int)
  obtain ⟨c0, c1, c2, _⟩ := ht.cells
  exact ⟨W, hW, hb, _, 1, rfl, by omega, c0, c1, c2⟩

set_option maxRecDepth 100000 in
set_option maxHeartbeats 4000000 in
theorem write_plain (mb : Nat) (K : ByteArray → Bool) (T : ByteArray) (x : Tk) (n : Nat) (w : World) (hM : MapK mb K w) (hT : T.size ≤ 40000) (hst : Stands K T x n) (h8 : (x.1 == 8) = false) (h9 : (x.1 == 9) = false) :
    Calls Tryz.prog 20 #[.map (some mb), tokV x.1 x.2.1 (x.2.2 : Int)] w fun e w' => e = .returned (.tuple #[.string (T.extract x.2.2 (x.2.2 + n)), .int .i64 0]) ∧ Below w.heap.size w w' := by
  have hsc := scan_piece hst
  have hw := stands_written hst
  have hsz : (T.extract x.2.2 (x.2.2 + n)).size ≤ 40000 := by
    have := (⟨rfl, hst.le⟩ : Piece T (T.extract x.2.2 (x.2.2 + n)) x.2.2 n).size
    have := hst.le
    omega
  unfold writtenT at hw
  rw [if_neg (beq_eq_false_iff_ne.1 h8), if_neg (beq_eq_false_iff_ne.1 h9)] at hw
  have hP := bytes_eq hw
  rw [hP] at hsc hsz ⊢
  obtain ⟨kd, t, p⟩ := x
  simp only at h8 h9 hsc hsz ⊢
  obtain ⟨W, hW, hb, ht, hl⟩ := tok_box w kd t (p : Int)
  obtain ⟨V, hV, hbV, hone⟩ := tok_slice W (kd, t, p)
  obtain ⟨c0, c1, c2, f0, f1, f2⟩ := ht.cells
  have hbb := hb.trans (hbV.mono hb.size)
  rw [hl] at hone
  have HI := Lib.hid (isScan_one mb K t (kd, t, 0) (kd, t, p) (.slice (some ⟨w.heap.size + 1, 0, none⟩) 1 1) V (hM.later hbb hM.lt) hsz hsc hone rfl rfl)
  have HW := Lib.hid hW
  have HV := Lib.hid hV
  have HB := Lib.hid hbb
  clear hM hst hw hP hsc hsz hW hV hb hbV hbb hone ht hl
  go_enter Tryz.func20, Tryz.ntmps20
  go_wp2_with fail
  rw [HW.out]
  go_wp2_with fail
  rw [HV.out]
  (with_reducible refine HI.out.mono ?_)
  rintro e w2 ⟨rfl, hb2⟩
  have HB2 := Lib.hid (HB.out.trans (hb2.mono HB.out.size))
  clear hb2
  go_wp2_with fail
  go_ret2
  exact ⟨rfl, HB2.out⟩

set_option maxRecDepth 100000 in
set_option maxHeartbeats 4000000 in
theorem write_quoted (mb : Nat) (K : ByteArray → Bool) (T : ByteArray) (x : Tk) (n : Nat) (w : World) (hM : MapK mb K w) (hT : T.size ≤ 40000) (hst : Stands K T x n) (h9 : x.1 = 9) :
    Calls Tryz.prog 20 #[.map (some mb), tokV x.1 x.2.1 (x.2.2 : Int)] w fun e w' => e = .returned (.tuple #[.string (T.extract x.2.2 (x.2.2 + n)), .int .i64 0]) ∧ Below w.heap.size w w' := by
  have hsc := scan_piece hst
  have hw := stands_written hst
  have hsz : (T.extract x.2.2 (x.2.2 + n)).size ≤ 40000 := by
    have := (⟨rfl, hst.le⟩ : Piece T (T.extract x.2.2 (x.2.2 + n)) x.2.2 n).size
    have := hst.le
    omega
  unfold writtenT at hw
  rw [h9, if_neg (by decide), if_pos rfl] at hw
  have hP : T.extract x.2.2 (x.2.2 + n) = ⟨#[92, 60, 111, 112, 101, 110, 62]⟩ ++ x.2.1 ++ ⟨#[92, 60, 99, 108, 111, 115, 101, 62]⟩ := bytes_eq (by rw [hw]; simp [openL, closeL])
  rw [hP] at hsc hsz ⊢
  obtain ⟨kd, t, p⟩ := x
  simp only at h9 hsc hsz ⊢
  subst h9
  have htz : t.size ≤ 40000 := by rw [ByteArray.size_append, ByteArray.size_append] at hsz; omega
  obtain ⟨W, hW, hb, ht, hl⟩ := tok_box w 9 t (p : Int)
  obtain ⟨V, hV, hbV, hone⟩ := tok_slice W (9, t, p)
  obtain ⟨c0, c1, c2, f0, f1, f2⟩ := ht.cells
  have hbb := hb.trans (hbV.mono hb.size)
  rw [hl] at hone
  have HI := Lib.hid (isScan_one mb K _ (9, t, 0) (9, t, p) (.slice (some ⟨w.heap.size + 1, 0, none⟩) 1 1) V (hM.later hbb hM.lt) hsz hsc hone rfl rfl)
  have HW := Lib.hid hW
  have HV := Lib.hid hV
  have HB := Lib.hid hbb
  clear hM hst hw hP hsc hsz hW hV hb hbV hbb hone ht hl
  go_enter Tryz.func20, Tryz.ntmps20
  go_wp2_with fail
  rw [HW.out]
  go_wp2_with fail
  rw [HV.out]
  (with_reducible refine HI.out.mono ?_)
  rintro e w2 ⟨rfl, hb2⟩
  have HB2 := Lib.hid (HB.out.trans (hb2.mono HB.out.size))
  clear hb2
  go_wp2_with fail
  go_ret2
  exact ⟨rfl, HB2.out⟩
end Go.Proofs.YtdkagjbedinhjaaGreat
