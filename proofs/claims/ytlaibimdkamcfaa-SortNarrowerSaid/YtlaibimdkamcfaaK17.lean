import Derived.Test.YtlaibimdkamcfaaK16
namespace Go.Proofs.Ytlaibimdkamcfaa
open Go.RowKit Go.Maps Go.WideMaps

theorem shortB_one {n : Nat} : shortB [n] = true ↔ n ≤ 25 := by
  unfold shortB
  simp

set_option maxRecDepth 100000 in
set_option maxHeartbeats 16000000 in
theorem sortArguments_walk (nm : ByteArray) (ca ta ra oa ya qa : Option Addr) (cc tc rc on oc yn yc qn qc cb co tb to rb ro : Nat) (cs : List Cls) (ts : List TD) (l : List Ari) (xc : Nat) (xa : Option Addr) (x : List ByteArray) (a : ByteArray) (D : Int) (w : World)
    (hca : cs ≠ [] → ca = some ⟨cb, co, none⟩) (hcs : ClassesAt w cb co cs) (hcl : cs.length ≤ 9223372036854775807) (hta : ts ≠ [] → ta = some ⟨tb, to, none⟩) (hts : TypesAt w tb to ts) (htl : ts.length ≤ 9223372036854775807) (hra : l ≠ [] → ra = some ⟨rb, ro, none⟩) (has : ArisAt w rb ro l) (hal : l.length ≤ 9223372036854775807)
    (hsa : a.size ≤ maxLen) (hx : SortAt w xa x) :
    Calls Try.prog 5 #[.agg #[.string nm, .slice ca cs.length cc, .slice ta ts.length tc, .slice ra l.length rc, .slice oa on oc, .slice ya yn yc, .slice qa qn qc], .string a, .slice xa x.length xc, .int .i64 D] w fun e w' => e = .returned (.bool true) ∧ Below w.heap.size w w' := by
  have hclm : cs.length ≤ maxLen := by unfold maxLen; omega
  have hb0 : Below w.heap.size w (w.alloc (.cells #[.string nm, .slice ca cs.length cc, .slice ta ts.length tc, .slice ra l.length rc, .slice oa on oc, .slice ya yn yc, .slice qa qn qc] 29)) := (Below.refl _ w).alloc (Nat.le_refl _) _
  have HTH := Lib.hid (show ThyF nm ca ta ra oa ya qa cc tc rc on oc yn yc qn qc cb co tb to rb ro cs ts l w.heap.size (w.alloc (.cells #[.string nm, .slice ca cs.length cc, .slice ta ts.length tc, .slice ra l.length rc, .slice oa on oc, .slice ya yn yc, .slice qa qn qc] 29)) from
    ⟨ThyAt.mk (Thy.mk (heap_alloc_new w (.cells #[.string nm, .slice ca cs.length cc, .slice ta ts.length tc, .slice ra l.length rc, .slice oa on oc, .slice ya yn yc, .slice qa qn qc] 29)) (hcs.later hb0)) hca hclm, hta, hts.later hb0, htl, hra, has.later hb0, hal⟩)
  have hfew0 := few14_any nm ca ta ra oa ya qa cc ts.length tc rc on oc yn yc qn qc cb co rb ro cs (l.map fun a => a.sorts.map List.length) (w.alloc (.cells #[.string nm, .slice ca cs.length cc, .slice ta ts.length tc, .slice ra l.length rc, .slice oa on oc, .slice ya yn yc, .slice qa qn qc] 29)) hca (hcs.later hb0) hcl htl (fun hne => hra (by simpa using hne)) (has.later hb0).lens (by simpa using hal)
  rw [List.length_map] at hfew0
  have HFEW := Lib.hid hfew0
  have HX := Lib.hid (hx.later hb0)
  have hlx : x.length ≤ 9223372036854775807 := hx.choose_spec.choose_spec.2.2
  have HB0 := Lib.hid hb0
  clear hb0 hca hcs hra has hx hta hts hfew0
  obtain ⟨g0, g1, g2, g3, g4, g5, g6⟩ := HTH.out.at_.cells
  go_enter Try.func5, Try.ntmps5
  go_wp2_with fail
  generalize (w.alloc (.cells #[.string nm, .slice ca cs.length cc, .slice ta ts.length tc, .slice ra l.length rc, .slice oa on oc, .slice ya yn yc, .slice qa qn qc] 29)) = w1 at *
  clear g0 g1 g2 g3 g4 g5 g6
  refine HFEW.out.mono ?_
  rintro e w2 ⟨f, rfl, hff, hb2⟩
  have HTH2 := Lib.hid (HTH.out.later hb2)
  have HX2 := Lib.hid (HX.out.later hb2)
  have HB2 := Lib.hid (HB0.out.trans (hb2.mono HB0.out.size))
  clear hb2 HFEW HTH HX
  cases f with
  | false =>
    clear hff
    go_wp2_with (first | (go_at_call 11; refine (awake_any _).mono ?_; rintro e w' ⟨rfl, hb⟩; have HAW := Lib.hid (HB2.out.trans (hb.mono HB2.out.size)); clear hb))
    go_ret
    exact ⟨rfl, HAW.out⟩
  | true =>
    have hfew : cs.length ≤ 20 := by have := hff rfl; omega
    clear hff
    go_wp2_with fail
    have b3 : Below w2.heap.size w2 (w2.alloc (.cells #[.slice xa x.length xc] 27)) := (Below.refl _ _).alloc (Nat.le_refl _) _
    have n3 := heap_alloc_new w2 (.cells #[.slice xa x.length xc] 27)
    have z3 : (w2.alloc (.cells #[.slice xa x.length xc] 27)).heap.size = w2.heap.size + 1 := by simp
    have HTH3 := Lib.hid (HTH2.out.later b3)
    have HX3 := Lib.hid (HX2.out.later b3)
    have HB3 := Lib.hid (HB2.out.trans (b3.mono HB2.out.size))
    generalize (w2.alloc (.cells #[.slice xa x.length xc] 27)) = w3 at *
    refine (fewSorts_any w2.heap.size 0 1 (some ⟨w2.heap.size, 0, none⟩) [x.length] w3 (fun _ => rfl) (fun i hi => ?_) (show (1 : Nat) ≤ 9223372036854775807 by decide)).mono ?_
    · refine ⟨by omega, ?_⟩
      rw [Lib.cell_of_heap n3, Nat.zero_add]
      match i, hi with
      | 0, _ => exact ⟨hlx, xa, xc, rfl⟩
    rintro e w' ⟨rfl, rfl⟩
    cases hsh : shortB [x.length] with
    | false =>
      clear hsh b3 n3 z3
      go_wp2_with (first | (go_at_call 11; refine (awake_any _).mono ?_; rintro e w' ⟨rfl, hb⟩; have HAW := Lib.hid (HB3.out.trans (hb.mono HB3.out.size)); clear hb))
      go_ret
      exact ⟨rfl, HAW.out⟩
    | true =>
      have hl25 := shortB_one.1 hsh
      clear hsh b3 n3 z3 HTH2 HB2 HX2
      obtain ⟨g0, g1, g2, g3, g4, g5, g6⟩ := HTH3.out.at_.cells
      by_cases hD : 3 < D
      · by_cases hD6 : D < 6
        · clear g0 g1 g2 g3 g4 g5 g6
          go_wp2_with (first | (go_at_call 11; refine (awake_any _).mono ?_; rintro e w' ⟨rfl, hb⟩; have HAW := Lib.hid (HB3.out.trans (hb.mono HB3.out.size)); clear hb))
          go_ret
          exact ⟨rfl, HAW.out⟩
        · have hD3 : D ≠ 3 := by omega
          have qD : (D == 3) = false := by simpa using hD3
          go_wp2_with fail
          refine (sortArgs_is HTH3.out a xa x xc _ (Below.refl _ _) hsa HX3.out).mono ?_
          rintro e wa ⟨a1, c1, b1, o1, E1, U1, rfl, hi1, p1, q1, hb⟩
          have HI1 := Lib.hid hi1
          have HS1 := Lib.hid q1
          have HP1 := Lib.hid p1
          have HTa := Lib.hid (HTH3.out.later hb)
          have HXa := Lib.hid (HX3.out.later hb)
          have HBa := Lib.hid (HB3.out.trans (hb.mono HB3.out.size))
          clear hi1 p1 q1 hb g0 g1 g2 g3 g4 g5 g6
          obtain ⟨g0, g1, g2, g3, g4, g5, g6⟩ := HTa.out.at_.cells
          go_wp2_with fail
          refine (refArgs_is HTa.out a xa x xc _ (Below.refl _ _) hsa HXa.out hl25).mono ?_
          rintro e wb ⟨a2, c2, b2, o2, E2, U2, rfl, hi2, p2, q2, hb⟩
          obtain ⟨rfl, rfl⟩ := HI1.out.unique hi2
          have HS1b := Lib.hid (HS1.out.later hb)
          have HS2 := Lib.hid q2
          have HP2 := Lib.hid p2
          have HTb := Lib.hid (HTa.out.later hb)
          have HXb := Lib.hid (HXa.out.later hb)
          have HBb := Lib.hid (HBa.out.trans (hb.mono HBa.out.size))
          have hU := hi2.len
          clear hi2 p2 q2 hb g0 g1 g2 g3 g4 g5 g6 HS1 HTa HXa HBa
          have qE : (E1 == E1) = true := by simp
          have qE' : (E1 != E1) = false := by simp
          have HQ := Lib.hid (equalSorts_any (c := c1) (c' := c2) hU wb HP1.out HS1b.out HP2.out HS2.out)
          go_wp2_with fail
          refine HQ.out.mono ?_
          rintro e wc ⟨rfl, hb⟩
          have HTc := Lib.hid (HTb.out.later hb)
          have HXc := Lib.hid (HXb.out.later hb)
          have HBc := Lib.hid (HBb.out.trans (hb.mono HBb.out.size))
          clear hb HQ HTb HXb HBb HS1b HS2 HP1 HP2 HI1
          obtain ⟨g0, g1, g2, g3, g4, g5, g6⟩ := HTc.out.at_.cells
          go_wp2_with fail
          refine (sortGround_any HTc.out hfew xa x xc D _ (Below.refl _ _) HXc.out).mono ?_
          rintro e wd ⟨hb, hG⟩
          obtain ⟨v1, f1, F1, rfl, hi1, ht1⟩ := hG.is
          obtain ⟨kk1, n1, aa1, sc1, m1, ac1, rfl⟩ := ht1.form
          have bd : Below wd.heap.size wd (wd.alloc (.cells #[.int .i64 kk1, .string n1, .int .i64 0, .slice none 0 sc1, .slice aa1 m1 ac1] 50)) := (Below.refl _ _).alloc (Nat.le_refl _) _
          have HI1 := Lib.hid hi1
          have HV1 := Lib.hid (ht1.later bd)
          have HND := Lib.hid (heap_alloc_new wd (.cells #[.int .i64 kk1, .string n1, .int .i64 0, .slice none 0 sc1, .slice aa1 m1 ac1] 50))
          have HTd := Lib.hid ((HTc.out.later hb).later bd)
          have HXd := Lib.hid ((HXc.out.later hb).later bd)
          have HBd := Lib.hid ((HBc.out.trans (hb.mono HBc.out.size)).trans (bd.mono (HBc.out.trans (hb.mono HBc.out.size)).size))
          clear hi1 ht1 hb bd hG g0 g1 g2 g3 g4 g5 g6 HTc HXc HBc
          obtain ⟨g0, g1, g2, g3, g4, g5, g6⟩ := HTd.out.at_.cells
          go_wp2_with fail
          generalize hwd : (wd.alloc (.cells #[.int .i64 kk1, .string n1, .int .i64 0, .slice none 0 sc1, .slice aa1 m1 ac1] 50)) = wd1 at *
          refine (refGround_any HTd.out hfew xa x xc D _ (Below.refl _ _) HXd.out).mono ?_
          rintro e we ⟨hb, hG⟩
          obtain ⟨v2, f2, F2, rfl, hi2, ht2⟩ := hG.is
          obtain ⟨rfl, rfl⟩ := HI1.out.unique hi2
          obtain ⟨kk2, n2, aa2, sc2, m2, ac2, rfl⟩ := ht2.form
          have be : Below we.heap.size we (we.alloc (.cells #[.int .i64 kk2, .string n2, .int .i64 0, .slice none 0 sc2, .slice aa2 m2 ac2] 50)) := (Below.refl _ _).alloc (Nat.le_refl _) _
          have hbe := hb.trans (be.mono hb.size)
          have HV1e := Lib.hid (HV1.out.later hbe)
          have HV2 := Lib.hid (ht2.later be)
          have hsz : wd.heap.size < wd1.heap.size := (Array.getElem?_eq_some_iff.1 HND.out).1
          obtain ⟨y0, y1, y2, y3, y4, yf⟩ := cells5 ((hbe.block wd.heap.size hsz).trans HND.out)
          obtain ⟨z0, z1, z2, z3, z4, zf⟩ := cells5 (heap_alloc_new we (.cells #[.int .i64 kk2, .string n2, .int .i64 0, .slice none 0 sc2, .slice aa2 m2 ac2] 50))
          have HBe := Lib.hid (HBd.out.trans (hbe.mono HBd.out.size))
          clear hi2 ht2 hb be hbe hG g0 g1 g2 g3 g4 g5 g6 HTd HXd HBd HV1 HND hwd hsz HI1 yf zf
          have qF : (F1 == F1) = true := by simp
          have qf : (f1 == f1) = true := by simp
          have HQ := Lib.hid (HV1e.out.same HV2.out)
          clear HV1e HV2
          go_wp2_with fail
          refine HQ.out.mono ?_
          rintro e wf ⟨rfl, hb⟩
          have HBf := Lib.hid (HBe.out.trans (hb.mono HBe.out.size))
          clear hb HQ HBe y0 y1 y2 y3 y4 z0 z1 z2 z3 z4
          go_wp2_with (first | (go_at_call 11; refine (awake_any _).mono ?_; rintro e w' ⟨rfl, hb⟩; have HAW := Lib.hid (HBf.out.trans (hb.mono HBf.out.size)); clear hb))
          go_ret
          exact ⟨rfl, HAW.out⟩
      · by_cases hD3 : D = 3
        · have qD : (D == 3) = true := by simpa using hD3
          clear hD3
          go_wp2_with fail
          refine (arguments_any HTH3.out w3 (Below.refl _ _)).mono ?_
          rintro e w4 ⟨⟨N, rfl⟩, hb⟩
          have HTH4 := Lib.hid (HTH3.out.later hb)
          have HX4 := Lib.hid (HX3.out.later hb)
          have HB4 := Lib.hid (HB3.out.trans (hb.mono HB3.out.size))
          clear hb g0 g1 g2 g3 g4 g5 g6 HTH3 HX3 HB3
          obtain ⟨g0, g1, g2, g3, g4, g5, g6⟩ := HTH4.out.at_.cells
          by_cases hN : 25 < N
          · clear g0 g1 g2 g3 g4 g5 g6
            go_wp2_with (first | (go_at_call 11; refine (awake_any _).mono ?_; rintro e w' ⟨rfl, hb⟩; have HAW := Lib.hid (HB4.out.trans (hb.mono HB4.out.size)); clear hb))
            go_ret
            exact ⟨rfl, HAW.out⟩
          · skip
            go_wp2_with fail
            refine (sortArgs_is HTH4.out a xa x xc _ (Below.refl _ _) hsa HX4.out).mono ?_
            rintro e wa ⟨a1, c1, b1, o1, E1, U1, rfl, hi1, p1, q1, hb⟩
            have HI1 := Lib.hid hi1
            have HS1 := Lib.hid q1
            have HP1 := Lib.hid p1
            have HTa := Lib.hid (HTH4.out.later hb)
            have HXa := Lib.hid (HX4.out.later hb)
            have HBa := Lib.hid (HB4.out.trans (hb.mono HB4.out.size))
            clear hi1 p1 q1 hb g0 g1 g2 g3 g4 g5 g6
            obtain ⟨g0, g1, g2, g3, g4, g5, g6⟩ := HTa.out.at_.cells
            go_wp2_with fail
            refine (refArgs_is HTa.out a xa x xc _ (Below.refl _ _) hsa HXa.out hl25).mono ?_
            rintro e wb ⟨a2, c2, b2, o2, E2, U2, rfl, hi2, p2, q2, hb⟩
            obtain ⟨rfl, rfl⟩ := HI1.out.unique hi2
            have HS1b := Lib.hid (HS1.out.later hb)
            have HS2 := Lib.hid q2
            have HP2 := Lib.hid p2
            have HTb := Lib.hid (HTa.out.later hb)
            have HXb := Lib.hid (HXa.out.later hb)
            have HBb := Lib.hid (HBa.out.trans (hb.mono HBa.out.size))
            have hU := hi2.len
            clear hi2 p2 q2 hb g0 g1 g2 g3 g4 g5 g6 HS1 HTa HXa HBa
            have qE : (E1 == E1) = true := by simp
            have qE' : (E1 != E1) = false := by simp
            have HQ := Lib.hid (equalSorts_any (c := c1) (c' := c2) hU wb HP1.out HS1b.out HP2.out HS2.out)
            go_wp2_with fail
            refine HQ.out.mono ?_
            rintro e wc ⟨rfl, hb⟩
            have HTc := Lib.hid (HTb.out.later hb)
            have HXc := Lib.hid (HXb.out.later hb)
            have HBc := Lib.hid (HBb.out.trans (hb.mono HBb.out.size))
            clear hb HQ HTb HXb HBb HS1b HS2 HP1 HP2 HI1
            obtain ⟨g0, g1, g2, g3, g4, g5, g6⟩ := HTc.out.at_.cells
            go_wp2_with fail
            refine (sortGround_any HTc.out hfew xa x xc D _ (Below.refl _ _) HXc.out).mono ?_
            rintro e wd ⟨hb, hG⟩
            obtain ⟨v1, f1, F1, rfl, hi1, ht1⟩ := hG.is
            obtain ⟨kk1, n1, aa1, sc1, m1, ac1, rfl⟩ := ht1.form
            have bd : Below wd.heap.size wd (wd.alloc (.cells #[.int .i64 kk1, .string n1, .int .i64 0, .slice none 0 sc1, .slice aa1 m1 ac1] 50)) := (Below.refl _ _).alloc (Nat.le_refl _) _
            have HI1 := Lib.hid hi1
            have HV1 := Lib.hid (ht1.later bd)
            have HND := Lib.hid (heap_alloc_new wd (.cells #[.int .i64 kk1, .string n1, .int .i64 0, .slice none 0 sc1, .slice aa1 m1 ac1] 50))
            have HTd := Lib.hid ((HTc.out.later hb).later bd)
            have HXd := Lib.hid ((HXc.out.later hb).later bd)
            have HBd := Lib.hid ((HBc.out.trans (hb.mono HBc.out.size)).trans (bd.mono (HBc.out.trans (hb.mono HBc.out.size)).size))
            clear hi1 ht1 hb bd hG g0 g1 g2 g3 g4 g5 g6 HTc HXc HBc
            obtain ⟨g0, g1, g2, g3, g4, g5, g6⟩ := HTd.out.at_.cells
            go_wp2_with fail
            generalize hwd : (wd.alloc (.cells #[.int .i64 kk1, .string n1, .int .i64 0, .slice none 0 sc1, .slice aa1 m1 ac1] 50)) = wd1 at *
            refine (refGround_any HTd.out hfew xa x xc D _ (Below.refl _ _) HXd.out).mono ?_
            rintro e we ⟨hb, hG⟩
            obtain ⟨v2, f2, F2, rfl, hi2, ht2⟩ := hG.is
            obtain ⟨rfl, rfl⟩ := HI1.out.unique hi2
            obtain ⟨kk2, n2, aa2, sc2, m2, ac2, rfl⟩ := ht2.form
            have be : Below we.heap.size we (we.alloc (.cells #[.int .i64 kk2, .string n2, .int .i64 0, .slice none 0 sc2, .slice aa2 m2 ac2] 50)) := (Below.refl _ _).alloc (Nat.le_refl _) _
            have hbe := hb.trans (be.mono hb.size)
            have HV1e := Lib.hid (HV1.out.later hbe)
            have HV2 := Lib.hid (ht2.later be)
            have hsz : wd.heap.size < wd1.heap.size := (Array.getElem?_eq_some_iff.1 HND.out).1
            obtain ⟨y0, y1, y2, y3, y4, yf⟩ := cells5 ((hbe.block wd.heap.size hsz).trans HND.out)
            obtain ⟨z0, z1, z2, z3, z4, zf⟩ := cells5 (heap_alloc_new we (.cells #[.int .i64 kk2, .string n2, .int .i64 0, .slice none 0 sc2, .slice aa2 m2 ac2] 50))
            have HBe := Lib.hid (HBd.out.trans (hbe.mono HBd.out.size))
            clear hi2 ht2 hb be hbe hG g0 g1 g2 g3 g4 g5 g6 HTd HXd HBd HV1 HND hwd hsz HI1 yf zf
            have qF : (F1 == F1) = true := by simp
            have qf : (f1 == f1) = true := by simp
            have HQ := Lib.hid (HV1e.out.same HV2.out)
            clear HV1e HV2
            go_wp2_with fail
            refine HQ.out.mono ?_
            rintro e wf ⟨rfl, hb⟩
            have HBf := Lib.hid (HBe.out.trans (hb.mono HBe.out.size))
            clear hb HQ HBe y0 y1 y2 y3 y4 z0 z1 z2 z3 z4
            go_wp2_with (first | (go_at_call 11; refine (awake_any _).mono ?_; rintro e w' ⟨rfl, hb⟩; have HAW := Lib.hid (HBf.out.trans (hb.mono HBf.out.size)); clear hb))
            go_ret
            exact ⟨rfl, HAW.out⟩
        · have qD : (D == 3) = false := by simpa using hD3
          go_wp2_with fail
          refine (sortArgs_is HTH3.out a xa x xc _ (Below.refl _ _) hsa HX3.out).mono ?_
          rintro e wa ⟨a1, c1, b1, o1, E1, U1, rfl, hi1, p1, q1, hb⟩
          have HI1 := Lib.hid hi1
          have HS1 := Lib.hid q1
          have HP1 := Lib.hid p1
          have HTa := Lib.hid (HTH3.out.later hb)
          have HXa := Lib.hid (HX3.out.later hb)
          have HBa := Lib.hid (HB3.out.trans (hb.mono HB3.out.size))
          clear hi1 p1 q1 hb g0 g1 g2 g3 g4 g5 g6
          obtain ⟨g0, g1, g2, g3, g4, g5, g6⟩ := HTa.out.at_.cells
          go_wp2_with fail
          refine (refArgs_is HTa.out a xa x xc _ (Below.refl _ _) hsa HXa.out hl25).mono ?_
          rintro e wb ⟨a2, c2, b2, o2, E2, U2, rfl, hi2, p2, q2, hb⟩
          obtain ⟨rfl, rfl⟩ := HI1.out.unique hi2
          have HS1b := Lib.hid (HS1.out.later hb)
          have HS2 := Lib.hid q2
          have HP2 := Lib.hid p2
          have HTb := Lib.hid (HTa.out.later hb)
          have HXb := Lib.hid (HXa.out.later hb)
          have HBb := Lib.hid (HBa.out.trans (hb.mono HBa.out.size))
          have hU := hi2.len
          clear hi2 p2 q2 hb g0 g1 g2 g3 g4 g5 g6 HS1 HTa HXa HBa
          have qE : (E1 == E1) = true := by simp
          have qE' : (E1 != E1) = false := by simp
          have HQ := Lib.hid (equalSorts_any (c := c1) (c' := c2) hU wb HP1.out HS1b.out HP2.out HS2.out)
          go_wp2_with fail
          refine HQ.out.mono ?_
          rintro e wc ⟨rfl, hb⟩
          have HTc := Lib.hid (HTb.out.later hb)
          have HXc := Lib.hid (HXb.out.later hb)
          have HBc := Lib.hid (HBb.out.trans (hb.mono HBb.out.size))
          clear hb HQ HTb HXb HBb HS1b HS2 HP1 HP2 HI1
          obtain ⟨g0, g1, g2, g3, g4, g5, g6⟩ := HTc.out.at_.cells
          go_wp2_with fail
          refine (sortGround_any HTc.out hfew xa x xc D _ (Below.refl _ _) HXc.out).mono ?_
          rintro e wd ⟨hb, hG⟩
          obtain ⟨v1, f1, F1, rfl, hi1, ht1⟩ := hG.is
          obtain ⟨kk1, n1, aa1, sc1, m1, ac1, rfl⟩ := ht1.form
          have bd : Below wd.heap.size wd (wd.alloc (.cells #[.int .i64 kk1, .string n1, .int .i64 0, .slice none 0 sc1, .slice aa1 m1 ac1] 50)) := (Below.refl _ _).alloc (Nat.le_refl _) _
          have HI1 := Lib.hid hi1
          have HV1 := Lib.hid (ht1.later bd)
          have HND := Lib.hid (heap_alloc_new wd (.cells #[.int .i64 kk1, .string n1, .int .i64 0, .slice none 0 sc1, .slice aa1 m1 ac1] 50))
          have HTd := Lib.hid ((HTc.out.later hb).later bd)
          have HXd := Lib.hid ((HXc.out.later hb).later bd)
          have HBd := Lib.hid ((HBc.out.trans (hb.mono HBc.out.size)).trans (bd.mono (HBc.out.trans (hb.mono HBc.out.size)).size))
          clear hi1 ht1 hb bd hG g0 g1 g2 g3 g4 g5 g6 HTc HXc HBc
          obtain ⟨g0, g1, g2, g3, g4, g5, g6⟩ := HTd.out.at_.cells
          go_wp2_with fail
          generalize hwd : (wd.alloc (.cells #[.int .i64 kk1, .string n1, .int .i64 0, .slice none 0 sc1, .slice aa1 m1 ac1] 50)) = wd1 at *
          refine (refGround_any HTd.out hfew xa x xc D _ (Below.refl _ _) HXd.out).mono ?_
          rintro e we ⟨hb, hG⟩
          obtain ⟨v2, f2, F2, rfl, hi2, ht2⟩ := hG.is
          obtain ⟨rfl, rfl⟩ := HI1.out.unique hi2
          obtain ⟨kk2, n2, aa2, sc2, m2, ac2, rfl⟩ := ht2.form
          have be : Below we.heap.size we (we.alloc (.cells #[.int .i64 kk2, .string n2, .int .i64 0, .slice none 0 sc2, .slice aa2 m2 ac2] 50)) := (Below.refl _ _).alloc (Nat.le_refl _) _
          have hbe := hb.trans (be.mono hb.size)
          have HV1e := Lib.hid (HV1.out.later hbe)
          have HV2 := Lib.hid (ht2.later be)
          have hsz : wd.heap.size < wd1.heap.size := (Array.getElem?_eq_some_iff.1 HND.out).1
          obtain ⟨y0, y1, y2, y3, y4, yf⟩ := cells5 ((hbe.block wd.heap.size hsz).trans HND.out)
          obtain ⟨z0, z1, z2, z3, z4, zf⟩ := cells5 (heap_alloc_new we (.cells #[.int .i64 kk2, .string n2, .int .i64 0, .slice none 0 sc2, .slice aa2 m2 ac2] 50))
          have HBe := Lib.hid (HBd.out.trans (hbe.mono HBd.out.size))
          clear hi2 ht2 hb be hbe hG g0 g1 g2 g3 g4 g5 g6 HTd HXd HBd HV1 HND hwd hsz HI1 yf zf
          have qF : (F1 == F1) = true := by simp
          have qf : (f1 == f1) = true := by simp
          have HQ := Lib.hid (HV1e.out.same HV2.out)
          clear HV1e HV2
          go_wp2_with fail
          refine HQ.out.mono ?_
          rintro e wf ⟨rfl, hb⟩
          have HBf := Lib.hid (HBe.out.trans (hb.mono HBe.out.size))
          clear hb HQ HBe y0 y1 y2 y3 y4 z0 z1 z2 z3 z4
          go_wp2_with (first | (go_at_call 11; refine (awake_any _).mono ?_; rintro e w' ⟨rfl, hb⟩; have HAW := Lib.hid (HBf.out.trans (hb.mono HBf.out.size)); clear hb))
          go_ret
          exact ⟨rfl, HAW.out⟩
end Go.Proofs.Ytlaibimdkamcfaa
