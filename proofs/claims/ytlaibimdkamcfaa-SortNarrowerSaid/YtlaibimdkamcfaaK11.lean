import Derived.Test.YtlaibimdkamcfaaK9
section
/-
  sort.Ground.
-/
namespace Go.Proofs.Ytlaibimdkamcfaa
open Go.RowKit Go.Maps Go.WideMaps

set_option maxRecDepth 100000 in
set_option maxHeartbeats 8000000 in
theorem sortGround_any {nm : ByteArray} {ca ta ra oa ya qa : Option Addr} {cc tc rc on oc yn yc qn qc cb co tb to rb ro : Nat} {cs : List Cls} {ts : List TD} {l : List Ari} {g : Nat} {W0 : World} (h : ThyF nm ca ta ra oa ya qa cc tc rc on oc yn yc qn qc cb co tb to rb ro cs ts l g W0) (hfew : cs.length ≤ 20) (sa : Option Addr) (s : List ByteArray) (sc : Nat) (D : Int) (w : World) (hb : Below W0.heap.size W0 w) (hs : SortAt w sa s) :
    Calls Try.prog 29 #[.agg #[.string nm, .slice ca cs.length cc, .slice ta ts.length tc, .slice ra l.length rc, .slice oa on oc, .slice ya yn yc, .slice qa qn qc], .slice sa s.length sc, .int .i64 D] w fun e w' => Below w.heap.size w w' ∧ GroundOut cs ts l s D (fun b => w.heap.size ≤ b) e w' := by
  have hb1 : Below w.heap.size w ((w.alloc (.cells #[.string nm, .slice ca cs.length cc, .slice ta ts.length tc, .slice ra l.length rc, .slice oa on oc, .slice ya yn yc, .slice qa qn qc] 29)).alloc (.cells #[.int .i64 0, .string ⟨#[]⟩, .int .i64 0, .slice none 0 0, .slice none 0 0] 50)) := ((Below.refl _ w).alloc (Nat.le_refl _) _).alloc (by simp) _
  have n0 : ((w.alloc (.cells #[.string nm, .slice ca cs.length cc, .slice ta ts.length tc, .slice ra l.length rc, .slice oa on oc, .slice ya yn yc, .slice qa qn qc] 29)).alloc (.cells #[.int .i64 0, .string ⟨#[]⟩, .int .i64 0, .slice none 0 0, .slice none 0 0] 50)).heap[w.heap.size]? = some (.cells #[.string nm, .slice ca cs.length cc, .slice ta ts.length tc, .slice ra l.length rc, .slice oa on oc, .slice ya yn yc, .slice qa qn qc] 29 (0, 0)) := by rw [Below.heap_alloc _ _ _ (by simp)]; exact heap_alloc_new w _
  have n1 : ((w.alloc (.cells #[.string nm, .slice ca cs.length cc, .slice ta ts.length tc, .slice ra l.length rc, .slice oa on oc, .slice ya yn yc, .slice qa qn qc] 29)).alloc (.cells #[.int .i64 0, .string ⟨#[]⟩, .int .i64 0, .slice none 0 0, .slice none 0 0] 50)).heap[w.heap.size + 1]? = some (.cells #[.int .i64 0, .string ⟨#[]⟩, .int .i64 0, .slice none 0 0, .slice none 0 0] 50 (0, 0)) := Go.heap_alloc2_new w _ _
  have HS1 := Lib.hid (show ((w.alloc (.cells #[.string nm, .slice ca cs.length cc, .slice ta ts.length tc, .slice ra l.length rc, .slice oa on oc, .slice ya yn yc, .slice qa qn qc] 29)).alloc (.cells #[.int .i64 0, .string ⟨#[]⟩, .int .i64 0, .slice none 0 0, .slice none 0 0] 50)).heap.size = w.heap.size + 2 by simp)
  have HOP := Lib.hid (openFull_any h ((w.alloc (.cells #[.string nm, .slice ca cs.length cc, .slice ta ts.length tc, .slice ra l.length rc, .slice oa on oc, .slice ya yn yc, .slice qa qn qc] 29)).alloc (.cells #[.int .i64 0, .string ⟨#[]⟩, .int .i64 0, .slice none 0 0, .slice none 0 0] 50)) (hb.trans (hb1.mono hb.size)))
  have HTZ := Lib.hid (show ∀ i (hi : i < ts.length), ts[i].name.size ≤ maxLen from fun i hi => (h.tys i hi).2.2.2.1)
  have HB1 := Lib.hid hb1
  have HN1 := Lib.hid n1
  have HX := Lib.hid hs
  obtain ⟨g0, g1, g2, g3, g4, g5, g6⟩ := ((h.later hb).boxed hb1 n0).at_.cells
  clear hb1 n0 n1 h hb hs
  obtain ⟨R, hR⟩ : ∃ R, checkErr cs ts l = R := ⟨_, rfl⟩
  have HR := Lib.hid hR
  rw [hR] at HOP
  clear hR
  go_enter Try.func29, Try.ntmps29
  obtain ⟨w1, hw1⟩ : ∃ q, ((w.alloc (.cells #[.string nm, .slice ca cs.length cc, .slice ta ts.length tc, .slice ra l.length rc, .slice oa on oc, .slice ya yn yc, .slice qa qn qc] 29)).alloc (.cells #[.int .i64 0, .string ⟨#[]⟩, .int .i64 0, .slice none 0 0, .slice none 0 0] 50)) = q := ⟨_, rfl⟩
  rw [hw1] at HOP HB1 HN1 HS1
  have HW1 := Lib.hid hw1
  clear hw1
  go_wp2_with fail
  rw [HW1.out]
  clear HW1 g0 g1 g2 g3 g4 g5 g6
  refine HOP.out.mono ?_
  rintro e w2 ⟨(⟨hE, rfl⟩ | ⟨rfl, v, rfl, hF⟩), hb2⟩
  · have q1 : (R == 0) = false := by simpa using hE
    have q2 : (R != 0) = true := by simpa using hE
    have HNE := Lib.hid hE
    have b3 : Below w2.heap.size w2 (w2.alloc (.cells #[.slice none 0 0, .map none, .slice none 0 0, .slice none 0 0, .slice none 0 0, .map none, .map none] 70)) := (Below.refl _ _).alloc (Nat.le_refl _) _
    have hs2 := hb2.size
    rw [HS1.out] at hs2
    have hB2 : Below w.heap.size w w2 := HB1.out.trans (hb2.mono (by rw [HS1.out]; omega))
    have hn3 := (b3.block (w.heap.size + 1) (by omega)).trans ((hb2.block (w.heap.size + 1) (by rw [HS1.out]; omega)).trans HN1.out)
    have HB3 := Lib.hid (hB2.trans (b3.mono hB2.size))
    obtain ⟨e0, e1, e2, e3, e4, ef⟩ := cells5 hn3
    have ef0 := ef 0
    have ef1 := ef 1
    have ef2 := ef 2
    have ef3 := ef 3
    have ef4 := ef 4
    have HN3 := Lib.hid hn3
    clear ef b3 hs2 hB2 hn3 hb2 hE
    go_wp2_with fail
    have hfin := store5_below HB3.out (w.heap.size + 1) (by omega) (.int .i64 0) (.string ⟨#[]⟩) (.int .i64 0) (.slice none 0 0) (.slice none 0 0)
    exact ret_ctt rfl rfl rfl rfl (store5_block HN3.out _ _ _ _ _) ⟨hfin, .inl ⟨by rw [HR.out]; exact HNE.out, by rw [HR.out]; rfl⟩⟩
  · have HO := Lib.hid hF.open_
    have HTE := Lib.hid hF.types
    have HAE := Lib.hid hF.aris
    have HRG := Lib.hid hF.regular
    obtain ⟨na, ua, aa, t4, nc, uc, bc, t4c, mb, mt, ms, rfl, hAF, hNO⟩ := af_of_full hF HTZ.out hfew
    have b3 : Below w2.heap.size w2 (w2.alloc (.cells #[.slice na cs.length nc, .map (some mb), .slice ua cs.length uc, .slice aa cs.length bc, .slice t4 ts.length t4c, .map (some mt), .map (some ms)] 70)) := (Below.refl _ _).alloc (Nat.le_refl _) _
    have n3 := heap_alloc_new w2 (.cells #[.slice na cs.length nc, .map (some mb), .slice ua cs.length uc, .slice aa cs.length bc, .slice t4 ts.length t4c, .map (some mt), .map (some ms)] 70)
    have hs2 := hb2.size
    rw [HS1.out] at hs2
    have hB2 : Below w.heap.size w w2 := HB1.out.trans (hb2.mono (by rw [HS1.out]; omega))
    have hn13 := (b3.block (w.heap.size + 1) (by omega)).trans ((hb2.block (w.heap.size + 1) (by rw [HS1.out]; omega)).trans HN1.out)
    have hB3 := hB2.trans (b3.mono hB2.size)
    have HNO := Lib.hid (hNO _ sa s sc b3 (HX.out.later hB3))
    have HB3 := Lib.hid hB3
    have HN13 := Lib.hid hn13
    have HN3 := Lib.hid n3
    have HAF := Lib.hid hAF
    have HBA := Lib.hid b3
    have HZ2 := Lib.hid hs2
    have HZ3 := Lib.hid (show (w2.alloc (.cells #[.slice na cs.length nc, .map (some mb), .slice ua cs.length uc, .slice aa cs.length bc, .slice t4 ts.length t4c, .map (some mt), .map (some ms)] 70)).heap.size = w2.heap.size + 1 by simp)
    obtain ⟨c0, c1, c2, c3, c4, c5, c6, _⟩ := box7 n3
    clear hF hAF hNO b3 n3 hs2 hB2 hn13 hB3 hb2
    go_wp2_with fail
    generalize (w2.alloc (.cells #[.slice na cs.length nc, .map (some mb), .slice ua cs.length uc, .slice aa cs.length bc, .slice t4 ts.length t4c, .map (some mt), .map (some ms)] 70)) = w3 at *
    refine HNO.out.mono ?_
    obtain ⟨E, hE⟩ : ∃ E, sortErr (knownB cs) s = E := ⟨_, rfl⟩
    rw [hE]
    have HEE := Lib.hid hE
    clear hE
    rintro e w4 ⟨(⟨hE, rfl⟩ | ⟨rfl, v, p, rfl, hN, ho⟩), hb4⟩
    · have q1 : (E == 0) = false := by simpa using hE
      have q2 : (E != 0) = true := by simpa using hE
      have HNE := Lib.hid hE
      have hs4 := hb4.size
      have hn4 := (hb4.block (w.heap.size + 1) (by rw [HZ3.out]; have := HZ2.out; omega)).trans HN13.out
      have HB4 := Lib.hid (HB3.out.trans (hb4.mono HB3.out.size))
      obtain ⟨e0, e1, e2, e3, e4, ef⟩ := cells5 hn4
      have ef0 := ef 0
      have ef1 := ef 1
      have ef2 := ef 2
      have ef3 := ef 3
      have ef4 := ef 4
      have HN4 := Lib.hid hn4
      clear ef hs4 hn4 hb4 hE c0 c1 c2 c3 c4 c5 c6
      go_wp2_with fail
      have hfin := store5_below HB4.out (w.heap.size + 1) (by omega) (.int .i64 0) (.string ⟨#[]⟩) (.int .i64 0) (.slice none 0 0) (.slice none 0 0)
      exact ret_ctt rfl rfl rfl rfl (store5_block HN4.out _ _ _ _ _) ⟨hfin, .inr (.inl ⟨HR.out, by rw [HEE.out]; exact HNE.out, by rw [HEE.out]; rfl⟩)⟩
    · obtain ⟨hs20, hkn⟩ := sortErr_zero HEE.out
      have hs4 := hb4.size
      rw [HZ3.out] at hs4
      have hn4 := (hb4.block (w.heap.size + 1) (by rw [HZ3.out]; have := HZ2.out; omega)).trans HN13.out
      have hn24 := (hb4.block w2.heap.size (by rw [HZ3.out]; omega)).trans HN3.out
      have HB4 := Lib.hid (HB3.out.trans (hb4.mono HB3.out.size))
      have HBA4 := Lib.hid (HBA.out.trans (hb4.mono HBA.out.size))
      obtain ⟨pa, pc, rfl⟩ := own_slice ho
      have HCAP := Lib.hid (own_cap ho)
      have HPL := Lib.hid (Nat.le_trans hN.len hs20)
      have HPK := Lib.hid (show ∀ c, c ∈ p → knownB cs c = true from fun c hc => hkn c ((hN.mem c).1 hc).1)
      obtain ⟨pa', pc', e5, hSp⟩ := sortAt_own ho (fun z hz => by
        have := known_40 HO.out (HPK.out z hz)
        unfold maxLen; omega) (by have := HPL.out; omega)
      cases e5
      have HSP := Lib.hid hSp
      have HAL := Lib.hid (alike_normal HO.out HTE.out HAE.out HRG.out hN hkn)
      obtain ⟨e0, e1, e2, e3, e4, ef⟩ := cells5 hn4
      have ef0 := ef 0
      have ef1 := ef 1
      have ef2 := ef 2
      have ef3 := ef 3
      have ef4 := ef 4
      have HN4 := Lib.hid hn4
      have HN24 := Lib.hid hn24
      have HS4 := Lib.hid (show w.heap.size + 2 < w4.heap.size ∧ w2.heap.size < w4.heap.size by have := HZ2.out; omega)
      clear c0 c1 c2 c3 c4 c5 c6
      obtain ⟨c0, c1, c2, c3, c4, c5, c6, _⟩ := box7 hn24
      clear ef hs4 hn4 hn24 hb4 ho hN hSp hs20 hkn
      by_cases hD1 : D < 0
      · have HD := Lib.hid hD1
        go_wp2_with fail
        have hfin := store5_below HB4.out (w.heap.size + 1) (by omega) (.int .i64 0) (.string ⟨#[]⟩) (.int .i64 0) (.slice none 0 0) (.slice none 0 0)
        exact ret_ctt rfl rfl rfl rfl (store5_block HN4.out _ _ _ _ _) ⟨hfin, .inr (.inr (.inl ⟨HR.out, HEE.out, .inl HD.out, rfl⟩))⟩
      by_cases hD2 : 5 < D
      · have HD := Lib.hid hD2
        go_wp2_with fail
        have hfin := store5_below HB4.out (w.heap.size + 1) (by omega) (.int .i64 0) (.string ⟨#[]⟩) (.int .i64 0) (.slice none 0 0) (.slice none 0 0)
        exact ret_ctt rfl rfl rfl rfl (store5_block HN4.out _ _ _ _ _) ⟨hfin, .inr (.inr (.inl ⟨HR.out, HEE.out, .inr HD.out, rfl⟩))⟩
      obtain ⟨d, hd⟩ : ∃ d : Nat, D = (d : Int) := ⟨D.toNat, by omega⟩
      have hd5 : d ≤ 5 := by omega
      have hmk91 : ∀ w : World, (Instr.makeMap 91 none).run Try.prog w = .ok (.map (some w.heap.size)) (w.alloc (.map #[] 0)) := fun w => by simp [Instr.makeMap, run_underlying Try.underlying91, Result.andThen]
      have hmk92 : ∀ w : World, (Instr.makeMap 92 none).run Try.prog w = .ok (.map (some w.heap.size)) (w.alloc (.map #[] 0)) := fun w => by simp [Instr.makeMap, run_underlying Try.underlying92, Result.andThen]
      have hbm : Below w4.heap.size w4 ((w4.alloc (.map #[] 0)).alloc (.map #[] 0)) := ((Below.refl _ w4).alloc (Nat.le_refl _) _).alloc (by simp) _
      have hzm : ((w4.alloc (.map #[] 0)).alloc (.map #[] 0)).heap.size = w4.heap.size + 2 := by simp
      have hb5 : Below ((w4.alloc (.map #[] 0)).alloc (.map #[] 0)).heap.size ((w4.alloc (.map #[] 0)).alloc (.map #[] 0)) (((w4.alloc (.map #[] 0)).alloc (.map #[] 0)).alloc (.cells #[.slice na cs.length nc, .map (some mb), .slice ua cs.length uc, .slice aa cs.length bc, .slice t4 ts.length t4c, .map (some mt), .map (some ms), .map (some w4.heap.size), .map (some (w4.heap.size + 1))] 94)) := (Below.refl _ _).alloc (Nat.le_refl _) _
      have hb45 : Below w4.heap.size w4 (((w4.alloc (.map #[] 0)).alloc (.map #[] 0)).alloc (.cells #[.slice na cs.length nc, .map (some mb), .slice ua cs.length uc, .slice aa cs.length bc, .slice t4 ts.length t4c, .map (some mt), .map (some ms), .map (some w4.heap.size), .map (some (w4.heap.size + 1))] 94)) := hbm.trans (hb5.mono hbm.size)
      have n5 := heap_alloc_new ((w4.alloc (.map #[] 0)).alloc (.map #[] 0)) (.cells #[.slice na cs.length nc, .map (some mb), .slice ua cs.length uc, .slice aa cs.length bc, .slice t4 ts.length t4c, .map (some mt), .map (some ms), .map (some w4.heap.size), .map (some (w4.heap.size + 1))] 94)
      rw [hzm] at n5
      have hme := (memo_empty cs ts l (fun _ => False) w4).below hb5
      have hbnd : bnd 5 ≤ 4611686018427387904 := by decide
      have hbd : bnd d ≤ bnd 5 := by
        have : d = 0 ∨ d = 1 ∨ d = 2 ∨ d = 3 ∨ d = 4 ∨ d = 5 := by omega
        rcases this with rfl | rfl | rfl | rfl | rfl | rfl <;> decide
      have HFI := Lib.hid (first_all (f := w4.heap.size) (m := w4.heap.size + 1) HAF.out (by have := HS4.out.2; omega) (by have := HS4.out.2; omega) d hd5 (fun _ => False) 0 0 pa p pc (((w4.alloc (.map #[] 0)).alloc (.map #[] 0)).alloc (.cells #[.slice na cs.length nc, .map (some mb), .slice ua cs.length uc, .slice aa cs.length bc, .slice t4 ts.length t4c, .map (some mt), .map (some ms), .map (some w4.heap.size), .map (some (w4.heap.size + 1))] 94)) (HBA4.out.trans (hb45.mono (by have := HS4.out.2; omega))) hme (by omega) (by omega) (HSP.out.later hb45) HCAP.out HPL.out HPK.out)
      have HME := Lib.hid hme.isMaps
      have hn15 := (hb45.block (w.heap.size + 1) (by have := HS4.out.1; omega)).trans HN4.out
      have HN15 := Lib.hid hn15
      have HB5 := Lib.hid (HB4.out.trans (hb45.mono HB4.out.size))
      have hz5 : (((w4.alloc (.map #[] 0)).alloc (.map #[] 0)).alloc (.cells #[.slice na cs.length nc, .map (some mb), .slice ua cs.length uc, .slice aa cs.length bc, .slice t4 ts.length t4c, .map (some mt), .map (some ms), .map (some w4.heap.size), .map (some (w4.heap.size + 1))] 94)).heap.size = w4.heap.size + 3 := by simp
      have HZ5 := Lib.hid hz5
      obtain ⟨k0, k1, k2, k3, k4, k5, k6, k7, k8⟩ := box9 n5
      have HDD := Lib.hid hd
      rw [← hd] at HFI
      clear hbm hzm hb5 hb45 n5 hme hbnd hbd hn15 hz5 hd
      go_wp2_with fail
      clear k0 k1 k2 k3 k4 k5 k6 k7 k8 hmk91 hmk92 c0 c1 c2 c3 c4 c5 c6 e0 e1 e2 e3 e4 ef0 ef1 ef2 ef3 ef4
      generalize (((w4.alloc (.map #[] 0)).alloc (.map #[] 0)).alloc (.cells #[.slice na cs.length nc, .map (some mb), .slice ua cs.length uc, .slice aa cs.length bc, .slice t4 ts.length t4c, .map (some mt), .map (some ms), .map (some w4.heap.size), .map (some (w4.heap.size + 1))] 94)) = w5 at *
      refine HFI.out.mono ?_
      rintro e w6 ⟨hB6, _, p', n', q', xa', ya', xn', xc', yn', yc', ok, rfl, hres⟩
      have hb6 : Below w4.heap.size w5 w6 := hB6.toBelow (Nat.le_refl _) (by omega) (by have := HZ5.out; omega)
      have b7 : Below w6.heap.size w6 (w6.alloc (.cells #[.int .i64 p', .string n', .int .i64 q', .slice xa' xn' xc', .slice ya' yn' yc'] 50)) := (Below.refl _ _).alloc (Nat.le_refl _) _
      have hs6 := hb6.size
      rw [HZ5.out] at hs6
      have hB56 : Below w.heap.size w w6 := HB5.out.trans (hb6.mono (by have := HS4.out.1; omega))
      have HB7 := Lib.hid (hB56.trans (b7.mono (by have := HS4.out.1; omega)))
      have hn17 := (b7.block (w.heap.size + 1) (by have := HS4.out.1; omega)).trans ((hb6.block (w.heap.size + 1) (by have := HS4.out.1; omega)).trans HN15.out)
      have HN17 := Lib.hid hn17
      have HS6 := Lib.hid (show w4.heap.size ≤ w6.heap.size by omega)
      obtain ⟨e0, e1, e2, e3, e4, ef⟩ := cells5 hn17
      have ef0 := ef 0
      have ef1 := ef 1
      have ef2 := ef 2
      have ef3 := ef 3
      have ef4 := ef 4
      rcases hres with ⟨rfl, hrep⟩ | ⟨rfl, hno⟩
      · obtain ⟨n1, aa1, sc1, m1, ac1, hform⟩ := hrep.form
        simp only [Value.agg.injEq, Array.mk.injEq, List.cons.injEq, and_true] at hform
        obtain ⟨h1, h2, h3, h4, h5⟩ := hform
        cases h1; cases h2; cases h3; cases h4; cases h5
        have HCP := Lib.hid (copied_all (cs := cs) (l := l) HTE.out d _ p _ _ (hrep.keep (SameIn.below b7) fun _ h _ => h))
        have HW7 := Lib.hid b7.size
        clear ef b7 hs6 hB56 hn17 hrep hb6 hB6 e0 e1 e2 e3 e4 ef0 ef1 ef2 ef3 ef4
        go_wp2_with fail
        generalize (w6.alloc (.cells #[.int .i64 1, .string n', .int .i64 0, .slice none 0 xc', .slice ya' yn' yc'] 50)) = w7 at *
        refine HCP.out.mono ?_
        rintro e w8 ⟨hb8, v', rfl, hr8⟩
        obtain ⟨n2, aa2, sc2, m2, ac2, rfl⟩ := hr8.form
        have hs7 : w4.heap.size ≤ w7.heap.size := by have := HS6.out; have := HW7.out; omega
        have hn18 := (hb8.block (w.heap.size + 1) (by have := HS4.out.1; omega)).trans HN17.out
        obtain ⟨e0, e1, e2, e3, e4, ef⟩ := cells5 hn18
        have ef0 := ef 0
        have ef1 := ef 1
        have ef2 := ef 2
        have ef3 := ef 3
        have ef4 := ef 4
        have HN18 := Lib.hid hn18
        have HB8 := Lib.hid (HB7.out.trans (hb8.mono (by have := HS4.out.1; omega)))
        have HR8 := Lib.hid (HAL.out.rep' hr8)
        have HS7 := Lib.hid hs7
        clear ef hb8 hr8 hs7 hn18
        go_wp2_with fail
        have hfin := store5_below HB8.out (w.heap.size + 1) (by omega) (.int .i64 1) (.string n2) (.int .i64 0) (.slice none 0 sc2) (.slice aa2 m2 ac2)
        refine ret_ctt rfl rfl rfl rfl (store5_block HN18.out _ _ _ _ _) ⟨hfin, .inr (.inr (.inr ⟨HR.out, HEE.out, d, HDD.out, by omega, .inl ⟨_, rfl, HR8.out.keep (fun b hb _ _ => store5_other _ _ _ (by have := HS7.out; have := HS4.out.1; omega) _ _ _ _ _) fun b hb _ => by have := HS7.out; have := HS4.out.1; omega⟩⟩))⟩
      · have HNG := Lib.hid (show ¬ Gr cs ts l d s from fun hg => hno (HAL.out.gr.1 hg))
        clear ef b7 hs6 hB56 hn17 hno hb6 hB6
        go_wp2_with fail
        have hfin := store5_below HB7.out (w.heap.size + 1) (by omega) (.int .i64 0) (.string ⟨#[]⟩) (.int .i64 0) (.slice none 0 0) (.slice none 0 0)
        exact ret_ctt rfl rfl rfl rfl (store5_block HN17.out _ _ _ _ _) ⟨hfin, .inr (.inr (.inr ⟨HR.out, HEE.out, d, HDD.out, by omega, .inr ⟨HNG.out, rfl⟩⟩))⟩
end Go.Proofs.Ytlaibimdkamcfaa
end

section
/-
  The reference's Args.
-/
namespace Go.Proofs.Ytlaibimdkamcfaa
open Go.RowKit Go.Maps Go.WideMaps

theorem check_zero {cs : List Cls} {ts : List TD} {l : List Ari} (h : checkErr cs ts l = 0) : openErr cs = 0 ∧ typesErr ts = 0 ∧ arisErr cs ts l = 0 ∧ regularB cs l = true := by
  unfold checkErr at h
  by_cases h1 : openErr cs = 0
  · rw [if_neg (by simpa using h1)] at h
    by_cases h2 : typesErr ts = 0
    · rw [if_neg (by simpa using h2)] at h
      by_cases h3 : arisErr cs ts l = 0
      · rw [if_neg (by simpa using h3)] at h
        by_cases h4 : regularB cs l = true
        · exact ⟨h1, h2, h3, h4⟩
        · rw [if_neg h4] at h; cases h
      · rw [if_pos h3] at h; exact absurd h h3
    · rw [if_pos h2] at h; exact absurd h h2
  · rw [if_pos h1] at h; exact absurd h h1

/-- What the reference's Args answers. -/
def RArgsOut (cs : List Cls) (ts : List TD) (l : List Ari) (name : ByteArray) (s : List ByteArray) (e : Ending) (w' : World) : Prop :=
  (checkErr cs ts l ≠ 0 ∧ e = .returned (.tuple #[.slice none 0 0, .int .i64 (checkErr cs ts l)])) ∨
  (checkErr cs ts l = 0 ∧ name ∉ tnames ts ∧ e = .returned (.tuple #[.slice none 0 0, .int .i64 9])) ∨
  (checkErr cs ts l = 0 ∧ name ∈ tnames ts ∧ sortErr (knownB cs) s ≠ 0 ∧ e = .returned (.tuple #[.slice none 0 0, .int .i64 (sortErr (knownB cs) s)])) ∨
  (checkErr cs ts l = 0 ∧ name ∈ tnames ts ∧ sortErr (knownB cs) s = 0 ∧ ¬ CanU ts l name s ∧ e = .returned (.tuple #[.slice none 0 0, .int .i64 14])) ∨
  (checkErr cs ts l = 0 ∧ sortErr (knownB cs) s = 0 ∧ CanU ts l name s ∧
    (((∃ u, u ∈ argsU cs ts l name s ∧ 20 < u.length) ∧ e = .returned (.tuple #[.slice none 0 0, .int .i64 5])) ∨
     ((∀ u, u ∈ argsU cs ts l name s → u.length ≤ 20) ∧ ∃ v, e = .returned (.tuple #[v, .int .i64 0]) ∧ SortsV w' (argsU cs ts l name s) v)))

set_option maxRecDepth 100000 in
set_option maxHeartbeats 8000000 in
theorem refArgs_any {nm : ByteArray} {ca ta ra oa ya qa : Option Addr} {cc tc rc on oc yn yc qn qc cb co tb to rb ro : Nat} {cs : List Cls} {ts : List TD} {l : List Ari} {g : Nat} {W0 : World} (h : ThyF nm ca ta ra oa ya qa cc tc rc on oc yn yc qn qc cb co tb to rb ro cs ts l g W0) (name : ByteArray) (sa : Option Addr) (s : List ByteArray) (sc : Nat) (w : World) (hb : Below W0.heap.size W0 w) (hz : name.size ≤ maxLen) (hs : SortAt w sa s) (hl25 : s.length ≤ 25) :
    Calls Try.prog 27 #[.agg #[.string nm, .slice ca cs.length cc, .slice ta ts.length tc, .slice ra l.length rc, .slice oa on oc, .slice ya yn yc, .slice qa qn qc], .string name, .slice sa s.length sc] w fun e w' => Below w.heap.size w w' ∧ RArgsOut cs ts l name s e w' := by
  have hb0 : Below w.heap.size w (w.alloc (.cells #[.string nm, .slice ca cs.length cc, .slice ta ts.length tc, .slice ra l.length rc, .slice oa on oc, .slice ya yn yc, .slice qa qn qc] 29)) := (Below.refl _ w).alloc (Nat.le_refl _) _
  have HTH := Lib.hid ((h.later hb).boxed hb0 (heap_alloc_new w _))
  have HB0 := Lib.hid hb0
  have HX := Lib.hid (hs.later hb0)
  have HZ := Lib.hid hz
  obtain ⟨g0, g1, g2, g3, g4, g5, g6⟩ := HTH.out.at_.cells
  clear hb0 hb h hs hz
  go_enter Try.func27, Try.ntmps27
  go_wp2_with fail
  generalize (w.alloc (.cells #[.string nm, .slice ca cs.length cc, .slice ta ts.length tc, .slice ra l.length rc, .slice oa on oc, .slice ya yn yc, .slice qa qn qc] 29)) = w1 at *
  obtain ⟨ga, hga⟩ : ∃ q, w.heap.size = q := ⟨_, rfl⟩
  rw [hga] at HTH
  try rw [hga]
  clear g0 g1 g2 g3 g4 g5 g6
  refine (refCheck_any HTH.out w1 (Below.refl _ _)).mono ?_
  rintro e w2 ⟨rfl, hb2⟩
  have HT2 := Lib.hid (HTH.out.later hb2)
  have HX2 := Lib.hid (HX.out.later hb2)
  have HB2 : Hid (Below w.heap.size w w2) := Lib.hid (HB0.out.trans (hb2.mono HB0.out.size))
  obtain ⟨g0, g1, g2, g3, g4, g5, g6⟩ := HT2.out.at_.cells
  clear hb2 HTH HX hga
  obtain ⟨R, hR⟩ : ∃ R, checkErr cs ts l = R := ⟨_, rfl⟩
  rw [hR]
  have HR := Lib.hid hR
  clear hR
  by_cases hR0 : R = 0
  · subst hR0
    obtain ⟨hO, hT, hA, hRg⟩ := check_zero HR.out
    have HO := Lib.hid hO
    have HTE := Lib.hid hT
    have HAE := Lib.hid hA
    clear hO hT hA hRg
    go_wp2_with fail
    clear g0 g1 g2 g3 g4 g5 g6
    refine (refType_uni HT2.out w2 HZ (Lib.hid (Below.refl _ _))).mono ?_
    rintro e w3 ⟨rfl, hb3, g0, g1, g2, g3, g4, g5, g6⟩
    have HT3 := Lib.hid (HT2.out.later hb3.out)
    have HX3 := Lib.hid (HX2.out.later hb3.out)
    have HB3 := Lib.hid (HB2.out.trans (hb3.out.mono HB2.out.size))
    clear hb3
    by_cases hty : ¬ (name ∈ tnames ts)
    · have hk := refT_neg.2 hty
      have HNO := Lib.hid hty
      obtain ⟨K, hK⟩ : ∃ K, refT ts name = K := ⟨_, rfl⟩
      rw [hK] at hk ⊢
      clear hK hty
      go_wp2_with fail
      go_ret2
      exact ⟨HB3.out, .inr (.inl ⟨HR.out, HNO.out, rfl⟩)⟩
    replace hty := Classical.not_not.1 hty
    have HTY := Lib.hid hty
    rw [refT_pos hty]
    obtain ⟨kk, hkk⟩ : ∃ q, tIdx ts name = q := ⟨_, rfl⟩
    rw [hkk]
    have b4 : Below w3.heap.size w3 (w3.alloc (.cells #[.slice sa s.length sc] 27)) := (Below.refl _ _).alloc (Nat.le_refl _) _
    have HX4 := Lib.hid (HX3.out.later b4)
    have HT4 := Lib.hid (HT3.out.later b4)
    have HB4 := Lib.hid (HB3.out.trans (b4.mono HB3.out.size))
    have HL4 := Lib.hid (sortsAt_one (heap_alloc_new w3 (.cells #[.slice sa s.length sc] 27)) HX4.out)
    clear b4 hkk hty
    go_wp2_with fail
    generalize (w3.alloc (.cells #[.slice sa s.length sc] 27)) = w4 at *
    refine (refSorts_any w4 HT4.out.at_.cla HT4.out.at_.thy.cls HT4.out.at_.len HL4.out (show (1 : Nat) ≤ 9223372036854775807 by decide)).mono ?_
    rintro e w5 ⟨rfl, hb5⟩
    rw [sortsErr_one]
    have HT5 := Lib.hid (HT4.out.later hb5)
    have HX5 := Lib.hid (HX4.out.later hb5)
    have HB5 := Lib.hid (HB4.out.trans (hb5.mono HB4.out.size))
    clear hb5 g0 g1 g2 g3 g4 g5 g6
    obtain ⟨g0, g1, g2, g3, g4, g5, g6⟩ := HT5.out.at_.cells
    have hne : normErr cs s = sortErr (knownB cs) s := by unfold normErr; rw [if_pos HO.out]
    rw [hne]
    obtain ⟨E, hE⟩ : ∃ E, sortErr (knownB cs) s = E := ⟨_, rfl⟩
    rw [hE]
    have HEE := Lib.hid hE
    clear hE hne
    by_cases hE0 : E = 0
    · subst hE0
      obtain ⟨hs20, hkn⟩ := sortErr_zero HEE.out
      have HND := Lib.hid (refNeeded_any (sc := sc) HT5.out HO.out HTE.out HAE.out name sa s w5 (Below.refl _ _) HZ.out HX5.out hkn hl25)
      clear hkn
      go_wp2_with fail
      clear g0 g1 g2 g3 g4 g5 g6
      refine HND.out.mono ?_
      rintro e w6 ⟨hb6, (⟨hno, rfl⟩ | ⟨hn1, hn2, U, v, rfl, hSV, hUL, hUN⟩)⟩
      · have HNO := Lib.hid (show ¬ CanU ts l name s from hno)
        have HB6 := Lib.hid (HB5.out.trans (hb6.mono HB5.out.size))
        clear hno hb6
        go_wp2_with fail
        go_ret2
        exact ⟨HB6.out, .inr (.inr (.inr (.inl ⟨HR.out, HTY.out, HEE.out, HNO.out, rfl⟩)))⟩
      · have HCAN := Lib.hid (show CanU ts l name s from ⟨hn1, hn2⟩)
        have HU := Lib.hid (argsU_eq hUL hUN)
        have hten := argsU_ten (cs := cs) HTE.out HCAN.out
        rw [← HU.out] at hten
        obtain ⟨va, vb, vo, vc, rfl, hva, hvs⟩ := hSV
        have HB6 := Lib.hid (HB5.out.trans (hb6.mono HB5.out.size))
        have HVA := Lib.hid hva
        have HVS := Lib.hid hvs
        clear hn1 hn2 hUL hUN hva hvs hb6
        go_wp2_with fail
        go_loopw [12] (fun t wr => ∃ i : Nat, t = .int .i64 i ∧ i ≤ U.length ∧ (∀ q (h : q < U.length), q < i → U[q].length ≤ 20) ∧ wr = w6) (fun t _ => U.length - (intOf t).toNat)
        case atStart => exact ⟨0, rfl, Nat.zero_le _, fun q h hq => by omega, rfl⟩
        case round =>
          obtain ⟨i, rfl, hi, hp, rfl⟩ := hrel
          have HP := Lib.hid hp
          clear hp
          by_cases hlt : i < U.length
          · obtain ⟨hlb, xa, xc, hcell, hxs⟩ := HVS.out i hlt
            have e := HVA.out (by intro e; rw [e] at hlt; simp at hlt)
            subst e
            obtain ⟨L, hL⟩ : ∃ L, U[i].length = L := ⟨_, rfl⟩
            rw [hL] at hcell
            have HL := Lib.hid hL
            clear hL hxs
            by_cases h20 : 20 < L
            · go_wp2_with fail
              go_ret2
              exact ⟨HB6.out, .inr (.inr (.inr (.inr ⟨HR.out, HEE.out, HCAN.out, .inl ⟨⟨U[i], by rw [← HU.out]; exact List.getElem_mem hlt, by rw [HL.out]; exact h20⟩, rfl⟩⟩)))⟩
            · go_wp2_with fail
              refine ⟨⟨i + 1, by simp only [Int.natCast_add, Int.natCast_one], by omega, fun q hq hqi => ?_, trivial⟩, ?_⟩
              · by_cases e : q = i
                · subst e; rw [HL.out]; omega
                · exact HP.out q hq (by omega)
              · show U.length - ((i : Int) + 1).toNat < U.length - ((i : Nat) : Int).toNat
                omega
          · go_wp2_with fail
            go_ret2
            exact ⟨HB6.out, .inr (.inr (.inr (.inr ⟨HR.out, HEE.out, HCAN.out, .inr ⟨fun u hu => by
              rw [← HU.out] at hu
              obtain ⟨q, hq, rfl⟩ := List.getElem_of_mem hu
              exact HP.out q hq (by omega), .slice va U.length vc, rfl, va, vb, vo, vc, by rw [← HU.out], by rw [← HU.out]; exact HVA.out, by rw [← HU.out]; exact HVS.out⟩⟩)))⟩
    · have q1 : (E == 0) = false := by simpa using hE0
      have q2 : (E != 0) = true := by simpa using hE0
      have HNE := Lib.hid hE0
      clear hE0
      go_wp2_with fail
      go_ret2
      exact ⟨HB5.out, .inr (.inr (.inl ⟨HR.out, HTY.out, by rw [HEE.out]; exact HNE.out, by rw [HEE.out]; rfl⟩))⟩
  · have q1 : (R == 0) = false := by simpa using hR0
    have q2 : (R != 0) = true := by simpa using hR0
    have HNE := Lib.hid hR0
    clear hR0
    go_wp2_with fail
    go_ret2
    exact ⟨HB2.out, .inl ⟨by rw [HR.out]; exact HNE.out, by rw [HR.out]; rfl⟩⟩
end Go.Proofs.Ytlaibimdkamcfaa
end

