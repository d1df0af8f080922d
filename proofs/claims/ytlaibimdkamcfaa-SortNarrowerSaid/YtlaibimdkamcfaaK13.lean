import Derived.Test.YtlaibimdkamcfaaK12
/-
  The reference's Ground.
-/
namespace Go.Proofs.Ytlaibimdkamcfaa
open Go.RowKit Go.Maps Go.WideMaps

set_option maxRecDepth 100000 in
set_option maxHeartbeats 4000000 in
theorem rfirst_zero {nm : ByteArray} {ca ta ra oa ya qa : Option Addr} {cc tc rc on oc yn yc qn qc cb co tb to rb ro : Nat} {cs : List Cls} {ts : List TD} {l : List Ari} {g : Nat} {W0 : World} (h : ThyF nm ca ta ra oa ya qa cc tc rc on oc yn yc qn qc cb co tb to rb ro cs ts l g W0) :
    RFirstOK nm ca ta ra oa ya qa cc tc rc on oc yn yc qn qc cs ts l W0 0 := by
  intro sa s sc w hb hs hl25 hk
  obtain ⟨D, hD⟩ : ∃ D : Int, ((0 : Nat) : Int) = D := ⟨_, rfl⟩
  have hD0 : ¬ 0 < D := by rw [← hD]; decide
  have hb1 : Below w.heap.size w ((w.alloc (.cells #[.string nm, .slice ca cs.length cc, .slice ta ts.length tc, .slice ra l.length rc, .slice oa on oc, .slice ya yn yc, .slice qa qn qc] 29)).alloc (.cells #[.int .i64 0, .string ⟨#[]⟩, .int .i64 0, .slice none 0 0, .slice none 0 0] 50)) := ((Below.refl _ w).alloc (Nat.le_refl _) _).alloc (by simp) _
  have n0 : ((w.alloc (.cells #[.string nm, .slice ca cs.length cc, .slice ta ts.length tc, .slice ra l.length rc, .slice oa on oc, .slice ya yn yc, .slice qa qn qc] 29)).alloc (.cells #[.int .i64 0, .string ⟨#[]⟩, .int .i64 0, .slice none 0 0, .slice none 0 0] 50)).heap[w.heap.size]? = some (.cells #[.string nm, .slice ca cs.length cc, .slice ta ts.length tc, .slice ra l.length rc, .slice oa on oc, .slice ya yn yc, .slice qa qn qc] 29 (0, 0)) := by rw [Below.heap_alloc _ _ _ (by simp)]; exact heap_alloc_new w _
  have n1 : ((w.alloc (.cells #[.string nm, .slice ca cs.length cc, .slice ta ts.length tc, .slice ra l.length rc, .slice oa on oc, .slice ya yn yc, .slice qa qn qc] 29)).alloc (.cells #[.int .i64 0, .string ⟨#[]⟩, .int .i64 0, .slice none 0 0, .slice none 0 0] 50)).heap[w.heap.size + 1]? = some (.cells #[.int .i64 0, .string ⟨#[]⟩, .int .i64 0, .slice none 0 0, .slice none 0 0] 50 (0, 0)) := Go.heap_alloc2_new w _ _
  have HTH := Lib.hid ((h.later hb).boxed hb1 n0)
  have HB1 := Lib.hid hb1
  have HN1 := Lib.hid n1
  have htl := h.tyl
  obtain ⟨g0, g1, g2, g3, g4, g5, g6⟩ := HTH.out.at_.cells
  obtain ⟨e0, e1, e2, e3, e4, ef⟩ := cells5 n1
  have ef0 := ef 0
  have ef1 := ef 1
  have ef2 := ef 2
  have ef3 := ef 3
  have ef4 := ef 4
  rw [hD]
  clear hb1 n0 n1 h hb hs hD ef
  go_enter Try.func59, Try.ntmps59
  go_wp2_with fail
  generalize ((w.alloc (.cells #[.string nm, .slice ca cs.length cc, .slice ta ts.length tc, .slice ra l.length rc, .slice oa on oc, .slice ya yn yc, .slice qa qn qc] 29)).alloc (.cells #[.int .i64 0, .string ⟨#[]⟩, .int .i64 0, .slice none 0 0, .slice none 0 0] 50)) = w1 at *
  go_loopw [8] (fun t wr => t = .int .i64 0 ∧ wr = w1) (fun t _ => 0)
  case atStart => exact ⟨rfl, rfl⟩
  case round =>
    obtain ⟨rfl, rfl⟩ := hrel
    by_cases hlt : 0 < ts.length
    · go_wp2_with fail
      have hfin := store5_below HB1.out (w.heap.size + 1) (by omega) (.int .i64 0) (.string ⟨#[]⟩) (.int .i64 0) (.slice none 0 0) (.slice none 0 0)
      exact ret_ct rfl rfl rfl (store5_block HN1.out _ _ _ _ _) ⟨hfin, _, _, _, _, _, _, _, _, _, false, rfl, .inr ⟨rfl, fun h => h, rfl⟩⟩
    · go_wp2_with fail
      have hfin := store5_below HB1.out (w.heap.size + 1) (by omega) (.int .i64 0) (.string ⟨#[]⟩) (.int .i64 0) (.slice none 0 0) (.slice none 0 0)
      exact ret_ct rfl rfl rfl (store5_block HN1.out _ _ _ _ _) ⟨hfin, _, _, _, _, _, _, _, _, _, false, rfl, .inr ⟨rfl, fun h => h, rfl⟩⟩

theorem rfirst_all {nm : ByteArray} {ca ta ra oa ya qa : Option Addr} {cc tc rc on oc yn yc qn qc cb co tb to rb ro : Nat} {cs : List Cls} {ts : List TD} {l : List Ari} {g : Nat} {W0 : World} (h : ThyF nm ca ta ra oa ya qa cc tc rc on oc yn yc qn qc cb co tb to rb ro cs ts l g W0) (hO : openErr cs = 0) (hT : typesErr ts = 0) (hA : arisErr cs ts l = 0) (hfew : cs.length ≤ 20) : ∀ d, d ≤ 5 → RFirstOK nm ca ta ra oa ya qa cc tc rc on oc yn yc qn qc cs ts l W0 d
  | 0, _ => rfirst_zero h
  | d + 1, hd => rfirst_any h hO hT hA hfew (by omega) (rfirst_all h hO hT hA hfew d (by omega))

set_option maxRecDepth 100000 in
set_option maxHeartbeats 4000000 in
theorem refGround_any {nm : ByteArray} {ca ta ra oa ya qa : Option Addr} {cc tc rc on oc yn yc qn qc cb co tb to rb ro : Nat} {cs : List Cls} {ts : List TD} {l : List Ari} {g : Nat} {W0 : World} (h : ThyF nm ca ta ra oa ya qa cc tc rc on oc yn yc qn qc cb co tb to rb ro cs ts l g W0) (hfew : cs.length ≤ 20) (sa : Option Addr) (s : List ByteArray) (sc : Nat) (D : Int) (w : World) (hb : Below W0.heap.size W0 w) (hs : SortAt w sa s) :
    Calls Try.prog 30 #[.agg #[.string nm, .slice ca cs.length cc, .slice ta ts.length tc, .slice ra l.length rc, .slice oa on oc, .slice ya yn yc, .slice qa qn qc], .slice sa s.length sc, .int .i64 D] w fun e w' => Below w.heap.size w w' ∧ GroundOut cs ts l s D (fun b => w.heap.size ≤ b) e w' := by
  have hb1 : Below w.heap.size w ((w.alloc (.cells #[.string nm, .slice ca cs.length cc, .slice ta ts.length tc, .slice ra l.length rc, .slice oa on oc, .slice ya yn yc, .slice qa qn qc] 29)).alloc (.cells #[.int .i64 0, .string ⟨#[]⟩, .int .i64 0, .slice none 0 0, .slice none 0 0] 50)) := ((Below.refl _ w).alloc (Nat.le_refl _) _).alloc (by simp) _
  have n0 : ((w.alloc (.cells #[.string nm, .slice ca cs.length cc, .slice ta ts.length tc, .slice ra l.length rc, .slice oa on oc, .slice ya yn yc, .slice qa qn qc] 29)).alloc (.cells #[.int .i64 0, .string ⟨#[]⟩, .int .i64 0, .slice none 0 0, .slice none 0 0] 50)).heap[w.heap.size]? = some (.cells #[.string nm, .slice ca cs.length cc, .slice ta ts.length tc, .slice ra l.length rc, .slice oa on oc, .slice ya yn yc, .slice qa qn qc] 29 (0, 0)) := by rw [Below.heap_alloc _ _ _ (by simp)]; exact heap_alloc_new w _
  have n1 : ((w.alloc (.cells #[.string nm, .slice ca cs.length cc, .slice ta ts.length tc, .slice ra l.length rc, .slice oa on oc, .slice ya yn yc, .slice qa qn qc] 29)).alloc (.cells #[.int .i64 0, .string ⟨#[]⟩, .int .i64 0, .slice none 0 0, .slice none 0 0] 50)).heap[w.heap.size + 1]? = some (.cells #[.int .i64 0, .string ⟨#[]⟩, .int .i64 0, .slice none 0 0, .slice none 0 0] 50 (0, 0)) := Go.heap_alloc2_new w _ _
  have HS1 := Lib.hid (show ((w.alloc (.cells #[.string nm, .slice ca cs.length cc, .slice ta ts.length tc, .slice ra l.length rc, .slice oa on oc, .slice ya yn yc, .slice qa qn qc] 29)).alloc (.cells #[.int .i64 0, .string ⟨#[]⟩, .int .i64 0, .slice none 0 0, .slice none 0 0] 50)).heap.size = w.heap.size + 2 by simp)
  have HTH := Lib.hid ((h.later hb).boxed hb1 n0)
  have HB1 := Lib.hid hb1
  have HN1 := Lib.hid n1
  have HX := Lib.hid (hs.later hb1)
  obtain ⟨g0, g1, g2, g3, g4, g5, g6⟩ := HTH.out.at_.cells
  clear hb1 n0 n1 h hb hs
  go_enter Try.func30, Try.ntmps30
  go_wp2_with fail
  generalize ((w.alloc (.cells #[.string nm, .slice ca cs.length cc, .slice ta ts.length tc, .slice ra l.length rc, .slice oa on oc, .slice ya yn yc, .slice qa qn qc] 29)).alloc (.cells #[.int .i64 0, .string ⟨#[]⟩, .int .i64 0, .slice none 0 0, .slice none 0 0] 50)) = w1 at *
  clear g0 g1 g2 g3 g4 g5 g6
  refine (refCheck_any HTH.out w1 (Below.refl _ _)).mono ?_
  rintro e w2 ⟨rfl, hb2⟩
  have HT2 := Lib.hid (HTH.out.later hb2)
  have HX2 := Lib.hid (HX.out.later hb2)
  have hs2 := hb2.size
  rw [HS1.out] at hs2
  have HS2 := Lib.hid hs2
  have HB2 := Lib.hid (HB1.out.trans (hb2.mono HB1.out.size))
  have HN2 := Lib.hid ((hb2.block (w.heap.size + 1) (by rw [HS1.out]; omega)).trans HN1.out)
  obtain ⟨g0, g1, g2, g3, g4, g5, g6⟩ := HT2.out.at_.cells
  clear hb2 HTH HX hs2 HN1
  obtain ⟨R, hR⟩ : ∃ R, checkErr cs ts l = R := ⟨_, rfl⟩
  rw [hR]
  have HR := Lib.hid hR
  clear hR
  by_cases hR0 : R = 0
  · subst hR0
    obtain ⟨hO, hT, hA, hRg⟩ := check_zero HR.out
    have HO := Lib.hid hO
    have HTE := Lib.hid hT
    have HAE := Lib.hid hA
    clear hO hT hA hRg
    have b4 : Below w2.heap.size w2 (w2.alloc (.cells #[.slice sa s.length sc] 27)) := (Below.refl _ _).alloc (Nat.le_refl _) _
    have HX4 := Lib.hid (HX2.out.later b4)
    have HT4 := Lib.hid (HT2.out.later b4)
    have HB4 := Lib.hid (HB2.out.trans (b4.mono HB2.out.size))
    have HL4 := Lib.hid (sortsAt_one (heap_alloc_new w2 (.cells #[.slice sa s.length sc] 27)) HX4.out)
    have HN4 := Lib.hid ((b4.block (w.heap.size + 1) (by have := HS2.out; omega)).trans HN2.out)
    have HS4 := Lib.hid (show w.heap.size + 2 ≤ (w2.alloc (.cells #[.slice sa s.length sc] 27)).heap.size by have := b4.size; have := HS2.out; omega)
    clear b4
    go_wp2_with fail
    generalize (w2.alloc (.cells #[.slice sa s.length sc] 27)) = w4 at *
    refine (refSorts_any w4 HT4.out.at_.cla HT4.out.at_.thy.cls HT4.out.at_.len HL4.out (show (1 : Nat) ≤ 9223372036854775807 by decide)).mono ?_
    rintro e w5 ⟨rfl, hb5⟩
    rw [sortsErr_one]
    have HT5 := Lib.hid (HT4.out.later hb5)
    have HX5 := Lib.hid (HX4.out.later hb5)
    have HB5 := Lib.hid (HB4.out.trans (hb5.mono HB4.out.size))
    have HN5 := Lib.hid ((hb5.block (w.heap.size + 1) (by have := HS4.out; omega)).trans HN4.out)
    have HS5 := Lib.hid (Nat.le_trans HS4.out hb5.size)
    clear hb5 g0 g1 g2 g3 g4 g5 g6
    obtain ⟨g0, g1, g2, g3, g4, g5, g6⟩ := HT5.out.at_.cells
    obtain ⟨e0, e1, e2, e3, e4, ef⟩ := cells5 HN5.out
    have ef0 := ef 0
    have ef1 := ef 1
    have ef2 := ef 2
    have ef3 := ef 3
    have ef4 := ef 4
    clear ef
    have hne : normErr cs s = sortErr (knownB cs) s := by unfold normErr; rw [if_pos HO.out]
    rw [hne]
    obtain ⟨E, hE⟩ : ∃ E, sortErr (knownB cs) s = E := ⟨_, rfl⟩
    rw [hE]
    have HEE := Lib.hid hE
    clear hE hne
    by_cases hE0 : E = 0
    · subst hE0
      obtain ⟨hs20, hkn⟩ := sortErr_zero HEE.out
      have HKN := Lib.hid hkn
      clear hkn
      by_cases hD1 : D < 0
      · have HD := Lib.hid hD1
        go_wp2_with fail
        have hfin := store5_below HB5.out (w.heap.size + 1) (by omega) (.int .i64 0) (.string ⟨#[]⟩) (.int .i64 0) (.slice none 0 0) (.slice none 0 0)
        exact ret_ctt rfl rfl rfl rfl (store5_block HN5.out _ _ _ _ _) ⟨hfin, .inr (.inr (.inl ⟨HR.out, HEE.out, .inl HD.out, rfl⟩))⟩
      by_cases hD2 : 5 < D
      · have HD := Lib.hid hD2
        go_wp2_with fail
        have hfin := store5_below HB5.out (w.heap.size + 1) (by omega) (.int .i64 0) (.string ⟨#[]⟩) (.int .i64 0) (.slice none 0 0) (.slice none 0 0)
        exact ret_ctt rfl rfl rfl rfl (store5_block HN5.out _ _ _ _ _) ⟨hfin, .inr (.inr (.inl ⟨HR.out, HEE.out, .inr HD.out, rfl⟩))⟩
      obtain ⟨d, hd⟩ : ∃ d : Nat, D = (d : Int) := ⟨D.toNat, by omega⟩
      have HFI := Lib.hid (rfirst_all HT5.out HO.out HTE.out HAE.out hfew d (by omega) sa s sc w5 (Below.refl _ _) HX5.out (by omega) HKN.out)
      rw [← hd] at HFI
      have HDD := Lib.hid hd
      clear hd e0 e1 e2 e3 e4 ef0 ef1 ef2 ef3 ef4
      go_wp2_with fail
      clear g0 g1 g2 g3 g4 g5 g6
      refine HFI.out.mono ?_
      rintro e w6 ⟨hb6, p, n, q, xa, ya', xn, xc, yn', yc', ok, rfl, hres⟩
      have b7 : Below w6.heap.size w6 (w6.alloc (.cells #[.int .i64 p, .string n, .int .i64 q, .slice xa xn xc, .slice ya' yn' yc'] 50)) := (Below.refl _ _).alloc (Nat.le_refl _) _
      have hs6 := hb6.size
      have hn17 := (b7.block (w.heap.size + 1) (by have := HS5.out; omega)).trans ((hb6.block (w.heap.size + 1) (by have := HS5.out; omega)).trans HN5.out)
      obtain ⟨e0, e1, e2, e3, e4, ef⟩ := cells5 hn17
      have ef0 := ef 0
      have ef1 := ef 1
      have ef2 := ef 2
      have ef3 := ef 3
      have ef4 := ef 4
      have HN7 := Lib.hid hn17
      have hB6 := HB5.out.trans (hb6.mono HB5.out.size)
      have HB7 := Lib.hid (hB6.trans (b7.mono hB6.size))
      have HB67 := Lib.hid b7
      have HRES := Lib.hid hres
      clear ef hn17 b7 hb6 hB6 hres
      go_wp2_with fail
      generalize (w6.alloc (.cells #[.int .i64 p, .string n, .int .i64 q, .slice xa xn xc, .slice ya' yn' yc'] 50)) = w7 at *
      have hfin := store5_below HB7.out (w.heap.size + 1) (by omega) (.int .i64 p) (.string n) (.int .i64 q) (.slice xa xn xc) (.slice ya' yn' yc')
      refine ret_ctt rfl rfl rfl rfl (store5_block HN7.out _ _ _ _ _) ⟨hfin, .inr (.inr (.inr ⟨HR.out, HEE.out, d, HDD.out, by have := HDD.out; omega, ?_⟩))⟩
      rcases HRES.out with ⟨rfl, hr⟩ | ⟨rfl, hno, hz⟩
      · exact .inl ⟨_, rfl, (hr.keep (SameIn.below HB67.out) fun b hb _ => hb).keep (fun b hb _ _ => store5_other _ _ _ (by have := HS5.out; omega) _ _ _ _ _) fun b hb _ => by have := HS5.out; omega⟩
      · rw [hz]
        exact .inr ⟨hno, rfl⟩
    · have q1 : (E == 0) = false := by simpa using hE0
      have q2 : (E != 0) = true := by simpa using hE0
      have HNE := Lib.hid hE0
      clear hE0
      go_wp2_with fail
      have hfin := store5_below HB5.out (w.heap.size + 1) (by omega) (.int .i64 0) (.string ⟨#[]⟩) (.int .i64 0) (.slice none 0 0) (.slice none 0 0)
      exact ret_ctt rfl rfl rfl rfl (store5_block HN5.out _ _ _ _ _) ⟨hfin, .inr (.inl ⟨HR.out, by rw [HEE.out]; exact HNE.out, by rw [HEE.out]; rfl⟩)⟩
  · have q1 : (R == 0) = false := by simpa using hR0
    have q2 : (R != 0) = true := by simpa using hR0
    have HNE := Lib.hid hR0
    obtain ⟨e0, e1, e2, e3, e4, ef⟩ := cells5 HN2.out
    have ef0 := ef 0
    have ef1 := ef 1
    have ef2 := ef 2
    have ef3 := ef 3
    have ef4 := ef 4
    clear ef hR0
    go_wp2_with fail
    have hfin := store5_below HB2.out (w.heap.size + 1) (by omega) (.int .i64 0) (.string ⟨#[]⟩) (.int .i64 0) (.slice none 0 0) (.slice none 0 0)
    exact ret_ctt rfl rfl rfl rfl (store5_block HN2.out _ _ _ _ _) ⟨hfin, .inl ⟨by rw [HR.out]; exact HNE.out, by rw [HR.out]; rfl⟩⟩
end Go.Proofs.Ytlaibimdkamcfaa
