/-
  isScan: a text scanned, held against one token.
-/
import Derived.Test.YtdkagjbedinhjaaGreatW4
import Derived.Test.YtdkagjbedinhjaaGreatTk
import Derived.Test.YtdkagjbedinhjaaGreatY5
section
namespace Go.Proofs.YtdkagjbedinhjaaGreat
open Go.RowKit Go.Shelf

theorem two_toks (w : World) (kd : Int) (t : ByteArray) (p q : Int) : ∃ W, (w.alloc (.cells #[.int .i64 kd, .string t, .int .i64 p] 35)).alloc (.cells #[.int .i64 kd, .string t, .int .i64 q] 35) = W ∧ Below w.heap.size w W ∧
    TokAt w.heap.size kd t p W ∧ TokAt (w.heap.size + 1) kd t q W := by
  refine ⟨_, rfl, ((Below.refl _ _).alloc (Nat.le_refl _) _).alloc (by simp) _, ?_, ?_⟩
  · exact (Below.heap_alloc _ _ _ (by simp)).trans (Go.heap_alloc_new w _)
  · have e : (w.alloc (.cells #[.int .i64 kd, .string t, .int .i64 p] 35)).heap.size = w.heap.size + 1 := by simp
    have := Go.heap_alloc_new (w.alloc (.cells #[.int .i64 kd, .string t, .int .i64 p] 35)) (.cells #[.int .i64 kd, .string t, .int .i64 q] 35)
    rw [e] at this
    exact this

set_option maxRecDepth 100000 in
set_option maxHeartbeats 2000000 in
theorem same_tok (kd : Int) (t : ByteArray) (p q : Int) (w : World) : Calls Tryz.prog 33 #[tokV kd t p, tokV kd t q] w fun e w' => e = .returned (.bool true) ∧ Below w.heap.size w w' := by
  obtain ⟨W, hW, hb, h1, h2⟩ := two_toks w kd t p q
  obtain ⟨c0, c1, c2, f0, f1, f2⟩ := h1.cells
  obtain ⟨d0, d1, d2, g0, g1, g2⟩ := h2.cells
  have HW := Lib.hid hW
  have HB := Lib.hid hb
  clear hW hb h1 h2
  go_enter Tryz.func33, Tryz.ntmps33
  go_wp2_with fail
  rw [HW.out]
  go_wp2_with fail
  go_ret
  exact ⟨rfl, HB.out⟩
/-- A slice of one token. -/
def OneTok (w : World) (v : Value) (x : Tk) : Prop := ∃ (g c : Nat), v = .slice (some ⟨g, 0, none⟩) 1 c ∧ g < w.heap.size ∧ w.cell? ⟨g, 0, none⟩ = some (.int .i64 x.1) ∧ w.cell? ⟨g, 1, none⟩ = some (.string x.2.1) ∧ w.cell? ⟨g, 2, none⟩ = some (.int .i64 (x.2.2 : Int))
theorem OneTok.later {w w' : World} {v : Value} {x : Tk} (h : OneTok w v x) (hb : Below w.heap.size w w') : OneTok w' v x := by
  obtain ⟨g, c, h1, h2, h3, h4, h5⟩ := h
  exact ⟨g, c, h1, Nat.lt_of_lt_of_le h2 hb.size, (hb.cell (p := ⟨g, 0, none⟩) h2).trans h3, (hb.cell (p := ⟨g, 1, none⟩) h2).trans h4, (hb.cell (p := ⟨g, 2, none⟩) h2).trans h5⟩
theorem oneTok_row {w : World} {B : Nat} {v : Value} {x : Tk} (h : TkRow w B v [x]) : OneTok w v x := by
  obtain ⟨g, c, rfl, _, hg⟩ := h.form.resolve_left fun h => by cases h.2
  exact ⟨g, c, rfl, hg, h.cellAt 0 (by simp), h.cellAt 1 (by simp), h.cellAt 2 (by simp)⟩

set_option maxRecDepth 100000 in
set_option maxHeartbeats 4000000 in
theorem equal_one (x y : Tk) (u v : Value) (w : World) (h1 : OneTok w u x) (h2 : OneTok w v y) (hk : x.1 = y.1) (ht : x.2.1 = y.2.1) :
    Calls Tryz.prog 18 #[u, v, .func (.func 33) #[] #[]] w fun e w' => e = .returned (.bool true) ∧ Below w.heap.size w w' := by
  obtain ⟨kd, t, p⟩ := x
  obtain ⟨kd', t', q⟩ := y
  obtain rfl : kd = kd' := hk
  obtain rfl : t = t' := ht
  obtain ⟨g, c, rfl, _, c0, c1, c2⟩ := h1
  obtain ⟨g', c', rfl, _, d0, d1, d2⟩ := h2
  obtain ⟨W, hW, hb, _, _⟩ := two_toks w kd t (p : Int) (q : Int)
  have HW := Lib.hid hW
  have HB := Lib.hid hb
  have HS := Lib.hid (same_tok kd t (p : Int) (q : Int) W)
  clear hW hb
  go_enter Tryz.func18, Tryz.ntmps18
  go_wp2_with fail
  refine wp_loop_rounds 2 ?_
  rw [rounds_succ]
  go_wp2_with fail
  rw [HW.out]
  (with_reducible refine HS.out.mono ?_)
  rintro e w1 ⟨rfl, hb1⟩
  have HB1 := Lib.hid (HB.out.trans (hb1.mono HB.out.size))
  clear hb1
  go_wp2_with fail
  rw [rounds_succ]
  go_wp2_with fail
  go_ret
  exact ⟨rfl, HB1.out⟩

set_option maxRecDepth 100000 in
set_option maxHeartbeats 4000000 in
/-- A text that is scanned to one token, held against that token. -/
theorem isScan_one (mb : Nat) (K : ByteArray → Bool) (T : ByteArray) (x y : Tk) (v : Value) (w : World) (hM : MapK mb K w) (hT : T.size ≤ 40000) (hs : scanR K T = ([x], none)) (hv : OneTok w v y) (hk : x.1 = y.1) (ht : x.2.1 = y.2.1) :
    Calls Tryz.prog 26 #[.map (some mb), .string T, v] w fun e w' => e = .returned (.bool true) ∧ Below w.heap.size w w' := by
  have HC := Lib.hid (callsIn_wide.1 (scan_any_in 3 mb K T w (Nat.le_refl _) hM hT))
  have HV := Lib.hid hv
  have HR := Lib.hid hs
  have HK := Lib.hid hk
  have HT := Lib.hid ht
  clear hM hs hv hk ht
  go_enter Tryz.func26, Tryz.ntmps26
  go_wp2_with fail
  (with_reducible refine HC.out.mono ?_)
  rintro e w1 ⟨h, hb⟩
  have HB := Lib.hid hb
  rw [HR.out] at h
  obtain ⟨u, rfl, hrow⟩ := h
  have HE := Lib.hid (equal_one x y u v w1 (oneTok_row hrow) (HV.out.later hb) HK.out HT.out)
  clear hrow hb
  go_wp2_with fail
  (with_reducible refine HE.out.mono ?_)
  rintro e w2 ⟨rfl, hb2⟩
  have HB2 := Lib.hid (HB.out.trans (hb2.mono HB.out.size))
  clear hb2
  go_wp2_with fail
  go_ret
  exact ⟨rfl, HB2.out⟩
end Go.Proofs.YtdkagjbedinhjaaGreat
end

section
namespace Go.Proofs.YtdkagjbedinhjaaGreat
open Go.RowKit Go.Shelf

theorem bytes_eq {a b : ByteArray} (h : a.data.toList = b.data.toList) : a = b := by
  cases a
  cases b
  congr 1
  exact Array.toList_inj.1 h

theorem tok_box (w : World) (kd : Int) (t : ByteArray) (p : Int) : ∃ W, w.alloc (.cells #[.int .i64 kd, .string t, .int .i64 p] 35) = W ∧ Below w.heap.size w W ∧ TokAt w.heap.size kd t p W ∧ W.heap.size = w.heap.size + 1 :=
  ⟨_, rfl, (Below.refl _ _).alloc (Nat.le_refl _) _, tok_new w kd t p, by simp⟩
theorem tok_slice (w : World) (x : Tk) : ∃ W, w.alloc (.cells #[.int .i64 x.1, .string x.2.1, .int .i64 (x.2.2 : Int)] 35) = W ∧ Below w.heap.size w W ∧ OneTok W (.slice (some ⟨w.heap.size, 0, none⟩) 1 1) x := by
  obtain ⟨W, hW, hb, ht, hl⟩ := tok_box w x.1 x.2.1 (x.2.2 : Int)
  obtain ⟨c0, c1, c2, _⟩ := ht.cells
  exact ⟨W, hW, hb, _, 1, rfl, by omega, c0, c1, c2⟩

set_option maxRecDepth 100000 in
set_option maxHeartbeats 4000000 in
theorem write_plain (mb : Nat) (K : ByteArray → Bool) (T : ByteArray) (x : Tk) (n : Nat) (w : World) (hM : MapK mb K w) (hT : T.size ≤ 40000) (hst : Stands K T x n) (h8 : (x.1 == 8) = false) (h9 : (x.1 == 9) = false) :
    Calls Tryz.prog 20 #[.map (some mb), tokV x.1 x.2.1 (x.2.2 : Int)] w fun e w' => e = .returned (.tuple #[.string (T.extract x.2.2 (x.2.2 + n)), .int .i64 0]) ∧ Below w.heap.size w w' := by
  have hsc := scan_piece hst
  have hw := stands_written hst
  have hsz : (T.extract x.2.2 (x.2.2 + n)).size ≤ 40000 := by
    have := (⟨rfl, hst.le⟩ : Piece T (T.extract x.2.2 (x.2.2 + n)) x.2.2 n).size
    have := hst.le
    omega
  unfold writtenT at hw
  rw [if_neg (beq_eq_false_iff_ne.1 h8), if_neg (beq_eq_false_iff_ne.1 h9)] at hw
  have hP := bytes_eq hw
  rw [hP] at hsc hsz ⊢
  obtain ⟨kd, t, p⟩ := x
  simp only at h8 h9 hsc hsz ⊢
  obtain ⟨W, hW, hb, ht, hl⟩ := tok_box w kd t (p : Int)
  obtain ⟨V, hV, hbV, hone⟩ := tok_slice W (kd, t, p)
  obtain ⟨c0, c1, c2, f0, f1, f2⟩ := ht.cells
  have hbb := hb.trans (hbV.mono hb.size)
  rw [hl] at hone
  have HI := Lib.hid (isScan_one mb K t (kd, t, 0) (kd, t, p) (.slice (some ⟨w.heap.size + 1, 0, none⟩) 1 1) V (hM.later hbb hM.lt) hsz hsc hone rfl rfl)
  have HW := Lib.hid hW
  have HV := Lib.hid hV
  have HB := Lib.hid hbb
  clear hM hst hw hP hsc hsz hW hV hb hbV hbb hone ht hl
  go_enter Tryz.func20, Tryz.ntmps20
  go_wp2_with fail
  rw [HW.out]
  go_wp2_with fail
  rw [HV.out]
  (with_reducible refine HI.out.mono ?_)
  rintro e w2 ⟨rfl, hb2⟩
  have HB2 := Lib.hid (HB.out.trans (hb2.mono HB.out.size))
  clear hb2
  go_wp2_with fail
  go_ret2
  exact ⟨rfl, HB2.out⟩

set_option maxRecDepth 100000 in
set_option maxHeartbeats 4000000 in
theorem write_quoted (mb : Nat) (K : ByteArray → Bool) (T : ByteArray) (x : Tk) (n : Nat) (w : World) (hM : MapK mb K w) (hT : T.size ≤ 40000) (hst : Stands K T x n) (h9 : x.1 = 9) :
    Calls Tryz.prog 20 #[.map (some mb), tokV x.1 x.2.1 (x.2.2 : Int)] w fun e w' => e = .returned (.tuple #[.string (T.extract x.2.2 (x.2.2 + n)), .int .i64 0]) ∧ Below w.heap.size w w' := by
  have hsc := scan_piece hst
  have hw := stands_written hst
  have hsz : (T.extract x.2.2 (x.2.2 + n)).size ≤ 40000 := by
    have := (⟨rfl, hst.le⟩ : Piece T (T.extract x.2.2 (x.2.2 + n)) x.2.2 n).size
    have := hst.le
    omega
  unfold writtenT at hw
  rw [h9, if_neg (by decide), if_pos rfl] at hw
  have hP : T.extract x.2.2 (x.2.2 + n) = ⟨#[92, 60, 111, 112, 101, 110, 62]⟩ ++ x.2.1 ++ ⟨#[92, 60, 99, 108, 111, 115, 101, 62]⟩ := bytes_eq (by rw [hw]; simp [openL, closeL])
  rw [hP] at hsc hsz ⊢
  obtain ⟨kd, t, p⟩ := x
  simp only at h9 hsc hsz ⊢
  subst h9
  have htz : t.size ≤ 40000 := by rw [ByteArray.size_append, ByteArray.size_append] at hsz; omega
  obtain ⟨W, hW, hb, ht, hl⟩ := tok_box w 9 t (p : Int)
  obtain ⟨V, hV, hbV, hone⟩ := tok_slice W (9, t, p)
  obtain ⟨c0, c1, c2, f0, f1, f2⟩ := ht.cells
  have hbb := hb.trans (hbV.mono hb.size)
  rw [hl] at hone
  have HI := Lib.hid (isScan_one mb K _ (9, t, 0) (9, t, p) (.slice (some ⟨w.heap.size + 1, 0, none⟩) 1 1) V (hM.later hbb hM.lt) hsz hsc hone rfl rfl)
  have HW := Lib.hid hW
  have HV := Lib.hid hV
  have HB := Lib.hid hbb
  clear hM hst hw hP hsc hsz hW hV hb hbV hbb hone ht hl
  go_enter Tryz.func20, Tryz.ntmps20
  go_wp2_with fail
  rw [HW.out]
  go_wp2_with fail
  rw [HV.out]
  (with_reducible refine HI.out.mono ?_)
  rintro e w2 ⟨rfl, hb2⟩
  have HB2 := Lib.hid (HB.out.trans (hb2.mono HB.out.size))
  clear hb2
  go_wp2_with fail
  go_ret2
  exact ⟨rfl, HB2.out⟩
end Go.Proofs.YtdkagjbedinhjaaGreat
end

