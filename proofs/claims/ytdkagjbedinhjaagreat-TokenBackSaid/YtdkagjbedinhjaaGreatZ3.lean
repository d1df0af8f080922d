/-
  write of any token that stands in a text, if escape does what it should.
-/
import Derived.Test.YtdkagjbedinhjaaGreatZ2
namespace Go.Proofs.YtdkagjbedinhjaaGreat
open Go.RowKit Go.Shelf

/-- What escape is to do. -/
def Escapes : Prop := ∀ (s : ByteArray) (w : World), s.size ≤ 40000 → Calls Tryz.prog 27 #[.string s] w fun e w' => e = .returned (.string ⟨(escT s.data.toList).toArray⟩) ∧ Below w.heap.size w w'

theorem esc_len (l : Bs) : l.length ≤ (escT l).length := by
  induction l with
  | nil => exact Nat.le_refl _
  | cons c r ih =>
    show r.length + 1 ≤ (escOf c ++ escT r).length
    have : 1 ≤ (escOf c).length := by
      unfold escOf
      split
      · decide
      · split
        · decide
        · split
          · decide
          · simp
    rw [List.length_append]
    omega

set_option maxRecDepth 100000 in
set_option maxHeartbeats 4000000 in
theorem write_string (hE : Escapes) (mb : Nat) (K : ByteArray → Bool) (T : ByteArray) (x : Tk) (n : Nat) (w : World) (hM : MapK mb K w) (hT : T.size ≤ 40000) (hst : Stands K T x n) (h8 : x.1 = 8) :
    Calls Tryz.prog 20 #[.map (some mb), tokV x.1 x.2.1 (x.2.2 : Int)] w fun e w' => e = .returned (.tuple #[.string (T.extract x.2.2 (x.2.2 + n)), .int .i64 0]) ∧ Below w.heap.size w w' := by
  have hsc := scan_piece hst
  have hw := stands_written hst
  have hsz : (T.extract x.2.2 (x.2.2 + n)).size ≤ 40000 := by
    have := (⟨rfl, hst.le⟩ : Piece T (T.extract x.2.2 (x.2.2 + n)) x.2.2 n).size
    have := hst.le
    omega
  unfold writtenT at hw
  rw [h8, if_pos rfl] at hw
  have hP : T.extract x.2.2 (x.2.2 + n) = ⟨#[34]⟩ ++ ⟨(escT x.2.1.data.toList).toArray⟩ ++ ⟨#[34]⟩ := bytes_eq (by rw [hw]; simp)
  rw [hP] at hsc hsz ⊢
  obtain ⟨kd, t, p⟩ := x
  simp only at h8 hsc hsz ⊢
  subst h8
  have hez : (⟨(escT t.data.toList).toArray⟩ : ByteArray).size ≤ 40000 := by rw [ByteArray.size_append, ByteArray.size_append] at hsz; omega
  have htz : t.size ≤ 40000 := by
    have h1 := esc_len t.data.toList
    have h2 : (⟨(escT t.data.toList).toArray⟩ : ByteArray).size = (escT t.data.toList).length := by rw [Lib.size_eq]
    rw [Lib.size_eq]
    omega
  obtain ⟨E, hEq⟩ : ∃ E : ByteArray, (⟨(escT t.data.toList).toArray⟩ : ByteArray) = E := ⟨_, rfl⟩
  obtain ⟨W, hW, hb, ht, hl⟩ := tok_box w 8 t (p : Int)
  have hesc := hE t W htz
  rw [hEq] at hsc hsz hez hesc ⊢
  obtain ⟨c0, c1, c2, f0, f1, f2⟩ := ht.cells
  have HSC := Lib.hid hsc
  have HT := Lib.hid ht
  have HL := Lib.hid hl
  have HM := Lib.hid hM
  have HSZ := Lib.hid hsz
  have HES := Lib.hid hesc
  have HW := Lib.hid hW
  have HB := Lib.hid hb
  clear hM hst hw hP hsc hsz hW hb ht hl hesc hEq
  go_enter Tryz.func20, Tryz.ntmps20
  go_wp2_with fail
  rw [HW.out]
  go_wp2_with fail
  (with_reducible refine HES.out.mono ?_)
  rintro e w1 ⟨rfl, hb1⟩
  have HT1 := Lib.hid (HT.out.later hb1 (by rw [HL.out]; omega))
  have HB1 := Lib.hid (HB.out.trans (hb1.mono HB.out.size))
  obtain ⟨V, hV, hbV, hone⟩ := tok_slice w1 (8, t, p)
  have HV := Lib.hid hV
  have HBV := Lib.hid (HB1.out.trans (hbV.mono HB1.out.size))
  have HI := Lib.hid (isScan_one mb K _ (8, t, 0) (8, t, p) (.slice (some ⟨w1.heap.size, 0, none⟩) 1 1) V (HM.out.later HBV.out HM.out.lt) HSZ.out HSC.out hone rfl rfl)
  clear c0 c1 c2 f0 f1 f2 hb1 hV hbV hone
  obtain ⟨c0, c1, c2, f0, f1, f2⟩ := HT1.out.cells
  go_wp2_with fail
  rw [HV.out]
  (with_reducible refine HI.out.mono ?_)
  rintro e w2 ⟨rfl, hb2⟩
  have HB2 := Lib.hid (HBV.out.trans (hb2.mono HBV.out.size))
  clear hb2
  go_wp2_with fail
  go_ret2
  exact ⟨rfl, HB2.out⟩

/-- write of any token that stands in a text. -/
theorem write_stands (hE : Escapes) (mb : Nat) (K : ByteArray → Bool) (T : ByteArray) (x : Tk) (n : Nat) (w : World) (hM : MapK mb K w) (hT : T.size ≤ 40000) (hst : Stands K T x n) :
    Calls Tryz.prog 20 #[.map (some mb), tokV x.1 x.2.1 (x.2.2 : Int)] w fun e w' => e = .returned (.tuple #[.string (T.extract x.2.2 (x.2.2 + n)), .int .i64 0]) ∧ Below w.heap.size w w' := by
  by_cases h8 : x.1 = 8
  · exact write_string hE mb K T x n w hM hT hst h8
  · by_cases h9 : x.1 = 9
    · exact write_quoted mb K T x n w hM hT hst h9
    · exact write_plain mb K T x n w hM hT hst (beq_eq_false_iff_ne.2 h8) (beq_eq_false_iff_ne.2 h9)
end Go.Proofs.YtdkagjbedinhjaaGreat
