/-
  TokenPlaces: the statement's walk, if escape does what it should.
-/
import Derived.Test.YtdkagjbedinhjaaGreatZ4
import Derived.Test.YtdkagjbedinhjaaGreatW8
namespace Go.Proofs.YtdkagjbedinhjaaGreat
open Go.RowKit Go.Shelf

theorem scan_bad2 (l : List ByteArray) (v : Value) (T : ByteArray) (w : World) (hv : HasStrs w v l) (h500 : l.length ≤ 500) (hT : T.size ≤ 40000) (h : kwCode [] l ≠ 0 ∨ ∃ xs p code, tokR l T = (xs, some (p, code))) :
    Calls Tryz.prog 7 #[v, .string T] w fun e w' => (∃ (p : Nat) (code : Int), (code == 0) = false ∧ p ≤ T.size ∧ e = .returned (.tuple #[.slice none 0 0, .int .i64 (p : Int), .int .i64 code])) ∧ Below w.heap.size w w' := by
  refine (scan_all l v T w hv h500 hT).mono ?_
  rintro e w' ⟨hs, hb⟩
  refine ⟨?_, hb⟩
  unfold ScannedAs at hs
  by_cases hc : kwCode [] l = 0
  · rw [if_pos hc] at hs
    obtain ⟨xs, p, code, hr⟩ := h.resolve_left fun h => h hc
    rw [hr] at hs
    have := scan_code _ _ _ _ _ _ _ (Nat.zero_le _) hr
    exact ⟨p, code, beq_eq_false_iff_ne.2 this.1, this.2, hs⟩
  · rw [if_neg hc] at hs
    exact ⟨0, _, beq_eq_false_iff_ne.2 hc, Nat.zero_le _, hs⟩

set_option maxRecDepth 100000 in
set_option maxHeartbeats 8000000 in
theorem places_bad (l : List ByteArray) (v : Value) (T : ByteArray) (w : World) (hv : HasStrs w v l) (hbad : kwCode [] l ≠ 0 ∨ ∃ xs p code, tokR l T = (xs, some (p, code))) :
    Calls Tryz.prog 4 #[v, .string T] w fun e w' => e = .returned (.bool true) ∧ Below w.heap.size w w' := by
  have HF := Lib.hid (show Calls Tryz.prog 5 #[.int .i64 800, v, .string T] w _ from few_any l v T 800 (by decide) w hv)
  have HV := Lib.hid hv
  have HBD := Lib.hid hbad
  have HW := Lib.hid awake_any
  clear hv hbad
  go_enter Tryz.func4, Tryz.ntmps4
  go_wp2_with fail
  (with_reducible refine HF.out.mono ?_)
  rintro e w' ⟨⟨x, rfl, hx⟩, rfl⟩
  have HX := Lib.hid hx
  clear hx
  cases x with
  | false =>
    go_wp2_with fail
    (with_reducible refine (HW.out _).mono ?_)
    rintro e w1 ⟨rfl, hb⟩
    have HB := Lib.hid hb
    clear hb
    go_wp2_with fail
    go_ret
    exact ⟨rfl, HB.out⟩
  | true =>
    obtain ⟨n1, n2⟩ := HX.out rfl
    have HS := Lib.hid (scan_bad2 l v T w HV.out (by omega) (by omega) HBD.out)
    go_wp2_with fail
    (with_reducible refine HS.out.mono ?_)
    rintro e w1 ⟨⟨p, code, hcode, hp, rfl⟩, hb⟩
    have HB := Lib.hid hb
    have d1 : decide ((0 : Int) ≤ (p : Int)) = true := by simp
    have d2 : decide ((p : Int) ≤ (T.size : Int)) = true := by simp; omega
    clear hb
    go_wp2_with fail
    (with_reducible refine (HW.out _).mono ?_)
    rintro e w2 ⟨rfl, hb2⟩
    have HB2 := Lib.hid (HB.out.trans (hb2.mono HB.out.size))
    clear hb2
    go_wp2_with fail
    go_ret
    exact ⟨rfl, HB2.out⟩

set_option maxRecDepth 100000 in
set_option maxHeartbeats 16000000 in
theorem places_ok (hE : Escapes) (l : List ByteArray) (v : Value) (T : ByteArray) (w : World) (hv : HasStrs w v l) (hk : kwCode [] l = 0) {xs : List Tk} (ha : tokR l T = (xs, none)) :
    Calls Tryz.prog 4 #[v, .string T] w fun e w' => e = .returned (.bool true) ∧ Below w.heap.size w w' := by
  have HF := Lib.hid (show Calls Tryz.prog 5 #[.int .i64 800, v, .string T] w _ from few_any l v T 800 (by decide) w hv)
  have HV := Lib.hid hv
  have HK := Lib.hid hk
  have HA := Lib.hid ha
  have HE := Lib.hid hE
  have HXL := Lib.hid (show xs.length ≤ T.size + 1 by have := scan_len (inK l) T (T.size + 1) 0; rwa [show scanF (inK l) T (T.size + 1) 0 = (xs, none) from ha] at this)
  have HAS := Lib.hid (show Ascend (inK l) T 0 xs by have := scan_ascend (inK l) T (T.size + 1) 0 (Nat.zero_le _); rwa [show scanF (inK l) T (T.size + 1) 0 = (xs, none) from ha] at this)
  have HW := Lib.hid awake_any
  clear hv hk ha hE
  go_enter Tryz.func4, Tryz.ntmps4
  go_wp2_with fail
  (with_reducible refine HF.out.mono ?_)
  rintro e w' ⟨⟨x, rfl, hx⟩, rfl⟩
  have HX := Lib.hid hx
  clear hx
  cases x with
  | false =>
    go_wp2_with fail
    (with_reducible refine (HW.out _).mono ?_)
    rintro e w1 ⟨rfl, hb⟩
    have HB := Lib.hid hb
    clear hb
    go_wp2_with fail
    go_ret
    exact ⟨rfl, HB.out⟩
  | true =>
    obtain ⟨n1, n2⟩ := HX.out rfl
    have hxl := HXL.out
    have HS := Lib.hid (scan_good l v T w HV.out (by omega) (by omega) HK.out HA.out)
    go_wp2_with fail
    (with_reducible refine HS.out.mono ?_)
    rintro e w1 ⟨⟨u, rfl, hr⟩, hb⟩
    have HB := Lib.hid hb
    have HR := Lib.hid hr
    have HV1 := Lib.hid (HV.out.later hb)
    obtain ⟨a2, c2, rfl, hform⟩ : ∃ a2 c2, u = .slice a2 xs.length c2 ∧ (xs ≠ [] → ∃ g, a2 = some ⟨g, 0, none⟩ ∧ g < w1.heap.size) := by
      rcases TkRow.form hr with ⟨rfl, rfl⟩ | ⟨g, cap, rfl, _, hg⟩
      · exact ⟨none, 0, rfl, fun h => absurd rfl h⟩
      · exact ⟨_, _, rfl, fun _ => ⟨g, rfl, hg⟩⟩
    have HFM := Lib.hid hform
    clear hb hr hform HS HF HX HA
    go_wp2_with fail
    go_loopw [8, 40] (fun s t wr => ∃ (i k : Nat), t = .int .i64 i ∧ s = .int .i64 k ∧ i ≤ xs.length ∧ k ≤ T.size ∧ Ascend (inK l) T k (xs.drop i) ∧ Below w1.heap.size w1 wr) (fun _ t _ => xs.length - (intOf t).toNat)
    case atStart => exact ⟨0, 0, rfl, rfl, Nat.zero_le _, Nat.zero_le _, HAS.out, Below.refl _ _⟩
    case round =>
      obtain ⟨i, k, rfl, rfl, hi, hk, has, hb⟩ := hrel
      have HB2 := Lib.hid hb
      have HAS2 := Lib.hid has
      clear has hb HAS
      by_cases hlt : i < xs.length
      · obtain ⟨g, rfl, hg⟩ := HFM.out (by intro e; rw [e] at hlt; simp at hlt)
        obtain ⟨d0, d1, d2⟩ := tk_cell xs i hlt
        have x0 := (HB2.out.cell (p := ⟨g, i * 3, none⟩) hg).trans ((HR.out.cellAt (i * 3) (by omega)).trans d0)
        have x1 := (HB2.out.cell (p := ⟨g, i * 3 + 1, none⟩) hg).trans ((HR.out.cellAt (i * 3 + 1) (by omega)).trans d1)
        have x2 := (HB2.out.cell (p := ⟨g, i * 3 + 2, none⟩) hg).trans ((HR.out.cellAt (i * 3 + 2) (by omega)).trans d2)
        have hAs := HAS2.out
        rw [List.drop_eq_getElem_cons hlt] at hAs
        obtain ⟨x, hx⟩ : ∃ x, xs[i] = x := ⟨_, rfl⟩
        rw [hx] at x0 x1 x2 hAs
        obtain ⟨hkx, n, hst, hrest⟩ := hAs
        have HST := Lib.hid hst
        have HRE := Lib.hid hrest
        obtain ⟨W, hW, hbW, htW, hlW⟩ := tok_box wr x.1 x.2.1 (x.2.2 : Int)
        have hbw := HB2.out.trans (hbW.mono HB2.out.size)
        have HWR := Lib.hid (Write_stands HE.out l v T x n W (HV1.out.later hbw) (by omega) HK.out (by omega) hst)
        have hPz : (T.extract x.2.2 (x.2.2 + n)).size = n := (⟨rfl, hst.le⟩ : Piece T (T.extract x.2.2 (x.2.2 + n)) x.2.2 n).size
        have hpre : Lib.hasPrefix (T.extract x.2.2 T.size).data.toList (T.extract x.2.2 (x.2.2 + n)).data.toList = true := by
          rw [from_ext, ext_list, Nat.add_sub_cancel_left]
          exact List.isPrefixOf_iff_prefix.2 (List.take_prefix _ _)
        have hle := hst.le
        have hpl := hst.lt
        obtain ⟨P, hP⟩ : ∃ P, T.extract x.2.2 (x.2.2 + n) = P := ⟨_, rfl⟩
        rw [hP] at HWR hPz hpre
        have HWB := Lib.hid hbw
        have HW0 := Lib.hid hW
        have HTW := Lib.hid htW
        have HLW := Lib.hid hlW
        obtain ⟨kd, t, p⟩ := x
        simp only at x0 x1 x2 HWR hPz hpre hle hpl hkx hW HW0 HTW HRE
        have HPx := Lib.hid fun (w : World) => Tryz.strings_HasPrefix (T.extract p T.size) P w
        simp only [hpre] at HPx
        have q1 : decide ((p : Int) < (k : Int)) = false := by simp; omega
        have q2 : decide ((T.size : Int) < (p : Int) + (P.size : Int)) = false := by rw [hPz]; simp; omega
        have q3 : (p : Int) ≤ T.size := by omega
        clear d0 d1 d2 hx hst hrest hbW htW hlW hbw hP hW hpre
        go_wp2_with fail
        rw [HW0.out]
        (with_reducible refine HWR.out.mono ?_)
        rintro e w3 ⟨rfl, hb3⟩
        have HT3 := Lib.hid (HTW.out.later hb3 (by rw [HLW.out]; omega))
        have HB3 := Lib.hid (HWB.out.trans (hb3.mono HWB.out.size))
        obtain ⟨c0, c1, c2', f0, f1, f2⟩ := HT3.out.cells
        clear hb3 x0 x1 x2
        go_wp2_with fail
        (with_reducible refine (HPx.out _).mono ?_)
        rintro e w4 ⟨rfl, rfl⟩
        go_wp2_with fail
        go_round
        case rel => exact ⟨i + 1, p + n, by go_num, by simp, by omega, hle, HRE.out, HB3.out⟩
        case measure => simp [intOf]; omega
      · go_wp2_with fail
        (with_reducible refine (HW.out _).mono ?_)
        rintro e w4 ⟨rfl, hb4⟩
        have HB4 := Lib.hid (HB.out.trans ((HB2.out.trans (hb4.mono HB2.out.size)).mono HB.out.size))
        clear hb4
        go_wp2_with fail
        go_ret
        exact ⟨rfl, HB4.out⟩

/-- Whatever the keywords and the text. -/
theorem tokenPlaces_walk (hE : Escapes) (l : List ByteArray) (v : Value) (T : ByteArray) (w : World) (hv : HasStrs w v l) :
    Calls Tryz.prog 4 #[v, .string T] w fun e w' => e = .returned (.bool true) ∧ Below w.heap.size w w' := by
  by_cases hk : kwCode [] l = 0
  · cases ha : tokR l T with
    | mk xs o =>
      cases o with
      | some x => exact places_bad l v T w hv (.inr ⟨xs, x.1, x.2, ha⟩)
      | none => exact places_ok hE l v T w hv hk ha
  · exact places_bad l v T w hv (.inl hk)
end Go.Proofs.YtdkagjbedinhjaaGreat
