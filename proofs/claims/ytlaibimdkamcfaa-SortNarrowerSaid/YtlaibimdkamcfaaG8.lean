import Derived.Test.YtlaibimdkamcfaaG7
/-
  The reference's Check, Below, Less.
-/
namespace Go.Proofs.Ytlaibimdkamcfaa
open Go.RowKit Go.Maps

theorem types_le {ts : List TD} (h : typesErr ts = 0) : ts.length ≤ 300 := by
  unfold typesErr at h
  split at h
  · cases h
  · omega

theorem arisErr_many {cs : List Cls} {ts : List TD} {l : List Ari} (h : 300 < l.length) : arisErr cs ts l = 5 := by unfold arisErr; rw [if_pos h]
theorem arisErr_at {cs : List Cls} {ts : List TD} {l : List Ari} {i : Nat} (h300 : ¬ 300 < l.length) (hi : i < l.length) (hz : ∀ j, j < i → ariErr cs ts ((l.take j).map pairOf) (ariAt l j) = 0) {E : Int} (he : ariErr cs ts ((l.take i).map pairOf) (ariAt l i) = E) (h0 : E ≠ 0) : arisErr cs ts l = E := by
  unfold arisErr
  rw [if_neg h300, firstErr_at hi hz (by rw [he]; exact h0), he]
theorem arisErr_none {cs : List Cls} {ts : List TD} {l : List Ari} (h300 : ¬ 300 < l.length) (hz : ∀ j, j < l.length → ariErr cs ts ((l.take j).map pairOf) (ariAt l j) = 0) : arisErr cs ts l = 0 := by
  unfold arisErr
  rw [if_neg h300, firstErr_zero.2 hz]

section
variable {cs : List Cls} {ts : List TD} {l : List Ari}
theorem checkErr_open (h : openErr cs ≠ 0) : checkErr cs ts l = openErr cs := by unfold checkErr; rw [if_pos h]
theorem checkErr_types (h : openErr cs = 0) (h2 : typesErr ts ≠ 0) : checkErr cs ts l = typesErr ts := by unfold checkErr; rw [if_neg (by simpa using h), if_pos h2]
theorem checkErr_aris (h : openErr cs = 0) (h2 : typesErr ts = 0) (h3 : arisErr cs ts l ≠ 0) : checkErr cs ts l = arisErr cs ts l := by unfold checkErr; rw [if_neg (by simpa using h), if_neg (by simpa using h2), if_pos h3]
theorem checkErr_irregular (h : openErr cs = 0) (h2 : typesErr ts = 0) (h3 : arisErr cs ts l = 0) {a : Ari} (ha : a ∈ l) (h4 : ¬ RegularAt cs l a) : checkErr cs ts l = 31 := by
  unfold checkErr
  rw [if_neg (by simpa using h), if_neg (by simpa using h2), if_neg (by simpa using h3), if_neg]
  unfold regularB
  simp only [decide_eq_true_eq]
  exact fun hr => h4 (hr a ha)
theorem checkErr_none (h : openErr cs = 0) (h2 : typesErr ts = 0) (h3 : arisErr cs ts l = 0) (h4 : ∀ a, a ∈ l → RegularAt cs l a) : checkErr cs ts l = 0 := by
  unfold checkErr
  rw [if_neg (by simpa using h), if_neg (by simpa using h2), if_neg (by simpa using h3), if_pos]
  unfold regularB
  simp only [decide_eq_true_eq]
  exact h4
end

set_option maxRecDepth 100000 in
set_option maxHeartbeats 8000000 in
theorem refCheck_any {nm : ByteArray} {ca ta ra oa ya qa : Option Addr} {cc tc rc on oc yn yc qn qc cb co tb to rb ro : Nat} {cs : List Cls} {ts : List TD} {l : List Ari} {g : Nat} {W0 : World} (h : ThyF nm ca ta ra oa ya qa cc tc rc on oc yn yc qn qc cb co tb to rb ro cs ts l g W0) (w : World) (hb : Below W0.heap.size W0 w) :
    Calls Try.prog 13 #[.agg #[.string nm, .slice ca cs.length cc, .slice ta ts.length tc, .slice ra l.length rc, .slice oa on oc, .slice ya yn yc, .slice qa qn qc]] w fun e w' => e = .returned (.int .i64 (checkErr cs ts l)) ∧ Below W0.heap.size W0 w' := by
  have hb0 : Below w.heap.size w (w.alloc (.cells #[.string nm, .slice ca cs.length cc, .slice ta ts.length tc, .slice ra l.length rc, .slice oa on oc, .slice ya yn yc, .slice qa qn qc] 29)) := (Below.refl _ w).alloc (Nat.le_refl _) _
  have HTH := Lib.hid ((h.later hb).boxed hb0 (heap_alloc_new w _))
  have HB0 := Lib.hid (hb.trans (hb0.mono hb.size))
  have har := h.arl
  clear hb0 h hb
  obtain ⟨R, hR⟩ : ∃ R, checkErr cs ts l = R := ⟨_, rfl⟩
  rw [hR]
  have HR := Lib.hid hR
  clear hR
  go_enter Try.func13, Try.ntmps13
  go_wp2_with fail
  generalize (w.alloc (.cells #[.string nm, .slice ca cs.length cc, .slice ta ts.length tc, .slice ra l.length rc, .slice oa on oc, .slice ya yn yc, .slice qa qn qc] 29)) = w1 at *
  obtain ⟨ga, hga⟩ : ∃ q, w.heap.size = q := ⟨_, rfl⟩
  rw [hga] at HTH ⊢
  clear hga
  obtain ⟨g0, g1, g2, g3, g4, g5, g6⟩ := HTH.out.at_.cells
  go_wp2_with fail
  refine (refClasses_any w1 HTH.out.at_.cla HTH.out.at_.thy.cls HTH.out.at_.len).mono ?_
  rintro e w2 ⟨rfl, hb2⟩
  have HB12 := Lib.hid hb2
  have HB2 := Lib.hid (HB0.out.trans (hb2.mono HB0.out.size))
  have HT2 := Lib.hid (HTH.out.later hb2)
  clear hb2 g0 g1 g2 g3 g4 g5 g6
  obtain ⟨g0, g1, g2, g3, g4, g5, g6⟩ := HT2.out.at_.cells
  by_cases hO : ¬ (openErr cs = 0)
  · have q1 : (openErr cs == 0) = false := by simpa using hO
    have q2 : (openErr cs != 0) = true := by simpa using hO
    have hR := HR.out
    rw [checkErr_open hO] at hR
    rw [hR] at q1 q2 ⊢
    clear hO hR
    go_wp2_with fail
    go_ret
    exact ⟨rfl, HB2.out⟩
  replace hO := Classical.not_not.1 hO
  have HO := Lib.hid hO
  rw [hO]
  clear hO
  go_wp2_with fail
  refine (refCons_any HTH.out w2 HB12.out).mono ?_
  rintro e w3 ⟨rfl, hb3⟩
  have HB13 := Lib.hid hb3
  have HB3 := Lib.hid (HB0.out.trans (hb3.mono HB0.out.size))
  have HT3 := Lib.hid (HTH.out.later hb3)
  clear hb3 g0 g1 g2 g3 g4 g5 g6
  obtain ⟨g0, g1, g2, g3, g4, g5, g6⟩ := HT3.out.at_.cells
  by_cases hT : ¬ (typesErr ts = 0)
  · have q1 : (typesErr ts == 0) = false := by simpa using hT
    have q2 : (typesErr ts != 0) = true := by simpa using hT
    have hR := HR.out
    rw [checkErr_types HO.out hT] at hR
    rw [hR] at q1 q2 ⊢
    clear hT hR
    go_wp2_with fail
    go_ret
    exact ⟨rfl, HB3.out⟩
  replace hT := Classical.not_not.1 hT
  have HTE := Lib.hid hT
  have htl := types_le hT
  rw [hT]
  clear hT
  by_cases h300 : 300 < l.length
  · have hR := HR.out
    rw [checkErr_aris HO.out HTE.out (by rw [arisErr_many h300]; decide), arisErr_many h300] at hR
    subst hR
    go_wp2_with fail
    go_ret
    exact ⟨rfl, HB3.out⟩
  have H300 := Lib.hid h300
  go_wp2_with fail
  clear g0 g1 g2 g3 g4 g5 g6
  go_loopw [5] (fun t wr => ∃ i : Nat, t = .int .i64 i ∧ i ≤ l.length ∧ (∀ j, j < i → ariErr cs ts ((l.take j).map pairOf) (ariAt l j) = 0) ∧ Below w1.heap.size w1 wr) (fun t _ => l.length - (intOf t).toNat)
  case atStart => exact ⟨0, rfl, Nat.zero_le _, fun j hj => by omega, HB13.out⟩
  case round =>
    obtain ⟨i, rfl, hi, hp, hb⟩ := hrel
    have HB := Lib.hid hb
    have HBW := Lib.hid (HB0.out.trans (hb.mono HB0.out.size))
    have HP := Lib.hid hp
    have HTR := Lib.hid (HTH.out.later hb)
    clear hp hb
    obtain ⟨g0, g1, g2, g3, g4, g5, g6⟩ := HTR.out.at_.cells
    by_cases hlt : i < l.length
    · have HAT := Lib.hid (fun E he h0 => arisErr_at H300.out hlt HP.out (E := E) he h0)
      go_wp2_with fail
      refine (refOne_any HTH.out HO.out htl i hlt wr HB.out).mono ?_
      rintro e w4 ⟨rfl, hb4⟩
      have HB4 := Lib.hid hb4
      have HB4W := Lib.hid (HB0.out.trans (hb4.mono HB0.out.size))
      clear hb4 g0 g1 g2 g3 g4 g5 g6
      obtain ⟨E, hE⟩ : ∃ E, ariErr cs ts ((l.take i).map pairOf) (ariAt l i) = E := ⟨_, rfl⟩
      rw [hE]
      have HE := Lib.hid hE
      clear hE
      by_cases hE0 : E = 0
      · subst hE0
        go_wp2_with fail
        refine ⟨⟨i + 1, by simp only [Int.natCast_add, Int.natCast_one], by omega, fun j hj => ?_, HB4.out⟩, ?_⟩
        · by_cases e : j = i
          · subst e; exact HE.out
          · exact HP.out j (by omega)
        · show l.length - ((i : Int) + 1).toNat < l.length - ((i : Nat) : Int).toNat
          omega
      · have hA := HAT.out E HE.out hE0
        have hR := HR.out
        rw [checkErr_aris HO.out HTE.out (by rw [hA]; exact hE0), hA] at hR
        subst hR
        have q1 : (E == 0) = false := by simpa using hE0
        have q2 : (E != 0) = true := by simpa using hE0
        clear hE0 hA
        go_wp2_with fail
        go_ret
        exact ⟨rfl, HB4W.out⟩
    · have HA := Lib.hid (arisErr_none H300.out fun j hj => HP.out j (by omega))
      go_wp2_with fail
      obtain ⟨wo, rfl⟩ : ∃ wo : World, wo = wr := ⟨_, rfl⟩
      clear g0 g1 g2 g3 g4 g5 g6
      go_loopw [7] (fun t wr => ∃ i : Nat, t = .int .i64 i ∧ i ≤ l.length ∧ (∀ j, j < i → RegularAt cs l (ariAt l j)) ∧ Below w1.heap.size w1 wr) (fun t _ => l.length - (intOf t).toNat)
      case atStart => exact ⟨0, rfl, Nat.zero_le _, fun j hj => by omega, HB.out⟩
      case round =>
        obtain ⟨q, rfl, hq, hp, hb⟩ := hrel
        have HBQ := Lib.hid hb
        have HBQW := Lib.hid (HB0.out.trans (hb.mono HB0.out.size))
        have HPQ := Lib.hid hp
        have HTQ := Lib.hid (HTH.out.later hb)
        clear hp hb
        obtain ⟨g0, g1, g2, g3, g4, g5, g6⟩ := HTQ.out.at_.cells
        by_cases hlq : q < l.length
        · go_wp2_with fail
          refine (refRegular_any HTH.out HO.out HA.out q hlq wr HBQ.out).mono ?_
          rintro e w4 ⟨⟨B, rfl, hB⟩, hb4⟩
          have HB4 := Lib.hid hb4
          have HB4W := Lib.hid (HB0.out.trans (hb4.mono HB0.out.size))
          have HBI := Lib.hid hB
          clear hb4 g0 g1 g2 g3 g4 g5 g6 hB
          cases B with
          | true =>
            go_wp2_with fail
            refine ⟨⟨q + 1, by simp only [Int.natCast_add, Int.natCast_one], by omega, fun j hj => ?_, HB4.out⟩, ?_⟩
            · by_cases e : j = q
              · subst e; exact HBI.out.1 trivial
              · exact HPQ.out j (by omega)
            · show l.length - ((q : Int) + 1).toNat < l.length - ((q : Nat) : Int).toNat
              omega
          | false =>
            have hR := HR.out
            rw [checkErr_irregular HO.out HTE.out HA.out (a := ariAt l q) (by rw [ariAt_eq hlq]; exact List.getElem_mem hlq) (fun hr => by have := HBI.out.2 hr; cases this)] at hR
            subst hR
            go_wp2_with fail
            go_ret
            exact ⟨rfl, HB4W.out⟩
        · have hR := HR.out
          rw [checkErr_none HO.out HTE.out HA.out (fun a ha => by
            obtain ⟨j, hj, e⟩ := List.getElem_of_mem ha
            rw [← e, ← ariAt_eq hj]
            exact HPQ.out j (by omega))] at hR
          subst hR
          go_wp2_with fail
          go_ret
          exact ⟨rfl, HBQW.out⟩

/-- Less and Below of a theory. -/
noncomputable def lessT (cs : List Cls) (x y : List ByteArray) : Bool := (openErr cs == 0) && lessB (knownB cs) (belowB cs) x y
noncomputable def belowT (cs : List Cls) (a b : ByteArray) : Bool := (openErr cs == 0) && belowB cs a b

theorem lessT_iff {cs : List Cls} {x y : List ByteArray} (hO : openErr cs = 0) : lessT cs x y = (x.all (knownB cs) && (y.all (knownB cs) && coversB cs x y)) := by
  unfold lessT lessB
  rw [hO]
  have : (y.all fun c => x.any fun d => belowB cs d c) = (y.all (knownB cs) && coversB cs x y) := by
    unfold coversB
    cases hc : (y.all fun c => x.any fun d => belowB cs d c) with
    | false => simp
    | true =>
      have hk : y.all (knownB cs) = true := List.all_eq_true.2 fun c hc' => by
        obtain ⟨d, _, hd⟩ := List.any_eq_true.1 (List.all_eq_true.1 hc c hc')
        exact (below_known hd).2.1
      rw [hk]; rfl
  rw [this]; simp

set_option maxRecDepth 100000 in
set_option maxHeartbeats 4000000 in
theorem refLess_any {nm : ByteArray} {ca ta ra oa ya qa : Option Addr} {cc tn tc rn rc on oc yn yc qn qc cb co : Nat} {cs : List Cls} {xa za : Option Addr} {x y : List ByteArray} {xc zc : Nat} (w : World)
    (hca : cs ≠ [] → ca = some ⟨cb, co, none⟩) (hcs : ClassesAt w cb co cs) (hcl : cs.length ≤ maxLen) (hx : SortAt w xa x) (hy : SortAt w za y) :
    Calls Try.prog 17 #[.agg #[.string nm, .slice ca cs.length cc, .slice ta tn tc, .slice ra rn rc, .slice oa on oc, .slice ya yn yc, .slice qa qn qc], .slice xa x.length xc, .slice za y.length zc] w fun e w' => e = .returned (.bool (lessT cs x y)) ∧ Below w.heap.size w w' := by
  have hb0 : Below w.heap.size w (w.alloc (.cells #[.string nm, .slice ca cs.length cc, .slice ta tn tc, .slice ra rn rc, .slice oa on oc, .slice ya yn yc, .slice qa qn qc] 29)) := (Below.refl _ w).alloc (Nat.le_refl _) _
  have HTH := Lib.hid (ThyAt.mk (Thy.mk (heap_alloc_new w (.cells #[.string nm, .slice ca cs.length cc, .slice ta tn tc, .slice ra rn rc, .slice oa on oc, .slice ya yn yc, .slice qa qn qc] 29)) (hcs.later hb0)) hca hcl : ThyAt nm ca ta ra oa ya qa cc tn tc rn rc on oc yn yc qn qc cb co cs w.heap.size _)
  have HB0 := Lib.hid hb0
  have HX := Lib.hid (hx.later hb0)
  have HY := Lib.hid (hy.later hb0)
  clear hb0 hca hcs hcl hx hy
  obtain ⟨R, hR⟩ : ∃ R, lessT cs x y = R := ⟨_, rfl⟩
  rw [hR]
  have HR := Lib.hid hR
  clear hR
  go_enter Try.func17, Try.ntmps17
  go_wp2_with fail
  generalize (w.alloc (.cells #[.string nm, .slice ca cs.length cc, .slice ta tn tc, .slice ra rn rc, .slice oa on oc, .slice ya yn yc, .slice qa qn qc] 29)) = w1 at *
  obtain ⟨ga, hga⟩ : ∃ q, w.heap.size = q := ⟨_, rfl⟩
  rw [hga] at HTH ⊢
  clear hga
  obtain ⟨g0, g1, g2, g3, g4, g5, g6⟩ := HTH.out.cells
  go_wp2_with fail
  refine (refClasses_any w1 HTH.out.cla HTH.out.thy.cls HTH.out.len).mono ?_
  rintro e w2 ⟨rfl, hb2⟩
  have HB12 := Lib.hid hb2
  have HB2 := Lib.hid (HB0.out.trans (hb2.mono HB0.out.size))
  have HT2 := Lib.hid (HTH.out.later hb2)
  have HX2 := Lib.hid (HX.out.later hb2)
  have HY2 := Lib.hid (HY.out.later hb2)
  clear hb2 g0 g1 g2 g3 g4 g5 g6
  by_cases hO : ¬ (openErr cs = 0)
  · have q1 : (openErr cs == 0) = false := by simpa using hO
    have q2 : (openErr cs != 0) = true := by simpa using hO
    have hR := HR.out
    unfold lessT at hR
    rw [q1, Bool.false_and] at hR
    subst hR
    obtain ⟨E, hE⟩ : ∃ E, openErr cs = E := ⟨_, rfl⟩
    rw [hE] at q1 q2 ⊢
    clear hO hE
    go_wp2_with fail
    go_ret
    exact ⟨rfl, HB2.out⟩
  replace hO := Classical.not_not.1 hO
  have HO := Lib.hid hO
  have hR := HR.out
  rw [lessT_iff hO] at hR
  rw [hO]
  clear hO
  obtain ⟨g0, g1, g2, g3, g4, g5, g6⟩ := HT2.out.cells
  obtain ⟨K1, hK1⟩ : ∃ K, x.all (knownB cs) = K := ⟨_, rfl⟩
  rw [hK1] at hR
  have HK1 := Lib.hid hK1
  have HRR := Lib.hid hR
  clear hK1 hR
  go_wp2_with fail
  refine (refKnown_any (xc := xc) w2 HT2.out.cla HT2.out.thy.cls HT2.out.len HX2.out).mono ?_
  rw [HK1.out]
  rintro e w3 ⟨rfl, hb3⟩
  have HB3 := Lib.hid (HB2.out.trans (hb3.mono HB2.out.size))
  have HT3 := Lib.hid (HT2.out.later hb3)
  have HX3 := Lib.hid (HX2.out.later hb3)
  have HY3 := Lib.hid (HY2.out.later hb3)
  clear hb3 g0 g1 g2 g3 g4 g5 g6
  cases K1 with
  | false =>
    have hR := HRR.out
    rw [Bool.false_and] at hR
    subst hR
    go_wp2_with fail
    go_ret
    exact ⟨rfl, HB3.out⟩
  | true =>
    have hR := HRR.out
    rw [Bool.true_and] at hR
    obtain ⟨g0, g1, g2, g3, g4, g5, g6⟩ := HT3.out.cells
    obtain ⟨K2, hK2⟩ : ∃ K, y.all (knownB cs) = K := ⟨_, rfl⟩
    rw [hK2] at hR
    have HK2 := Lib.hid hK2
    have HRR2 := Lib.hid hR
    clear hK2 hR
    go_wp2_with fail
    refine (refKnown_any (xc := zc) w3 HT3.out.cla HT3.out.thy.cls HT3.out.len HY3.out).mono ?_
    rw [HK2.out]
    rintro e w4 ⟨rfl, hb4⟩
    have HB4 := Lib.hid (HB3.out.trans (hb4.mono HB3.out.size))
    have HT4 := Lib.hid (HT3.out.later hb4)
    have HX4 := Lib.hid (HX3.out.later hb4)
    have HY4 := Lib.hid (HY3.out.later hb4)
    clear hb4 g0 g1 g2 g3 g4 g5 g6
    cases K2 with
    | false =>
      have hR := HRR2.out
      rw [Bool.false_and] at hR
      subst hR
      go_wp2_with fail
      go_ret
      exact ⟨rfl, HB4.out⟩
    | true =>
      have hR := HRR2.out
      rw [Bool.true_and] at hR
      subst hR
      obtain ⟨g0, g1, g2, g3, g4, g5, g6⟩ := HT4.out.cells
      go_wp2_with fail
      refine (refWithin_any (xc := xc) (zc := zc) w4 HT4.out.cla HT4.out.thy.cls (open_le HO.out) HO.out HX4.out HY4.out (fun c hc => List.all_eq_true.1 HK1.out c hc) (fun c hc => List.all_eq_true.1 HK2.out c hc)).mono ?_
      rintro e w5 ⟨rfl, hb5⟩
      have HB5 := Lib.hid (HB4.out.trans (hb5.mono HB4.out.size))
      clear hb5
      obtain ⟨B, hB⟩ : ∃ B, coversB cs x y = B := ⟨_, rfl⟩
      have HBB := Lib.hid hB
      rw [hB]
      clear hB
      go_wp2_with fail
      go_ret
      exact ⟨by rw [HBB.out]; rfl, HB5.out⟩
end Go.Proofs.Ytlaibimdkamcfaa

/-
  The reference's Below.
-/
namespace Go.Proofs.Ytlaibimdkamcfaa
open Go.RowKit Go.Maps

set_option maxRecDepth 100000 in
set_option maxHeartbeats 4000000 in
theorem refBelow_any {nm : ByteArray} {ca ta ra oa ya qa : Option Addr} {cc tn tc rn rc on oc yn yc qn qc cb co : Nat} {cs : List Cls} (a b : ByteArray) (w : World)
    (hca : cs ≠ [] → ca = some ⟨cb, co, none⟩) (hcs : ClassesAt w cb co cs) (hcl : cs.length ≤ maxLen) (hsa : a.size ≤ maxLen) (hsb : b.size ≤ maxLen) :
    Calls Try.prog 15 #[.agg #[.string nm, .slice ca cs.length cc, .slice ta tn tc, .slice ra rn rc, .slice oa on oc, .slice ya yn yc, .slice qa qn qc], .string a, .string b] w fun e w' => e = .returned (.bool (belowT cs a b)) ∧ Below w.heap.size w w' := by
  have hb0 : Below w.heap.size w (w.alloc (.cells #[.string nm, .slice ca cs.length cc, .slice ta tn tc, .slice ra rn rc, .slice oa on oc, .slice ya yn yc, .slice qa qn qc] 29)) := (Below.refl _ w).alloc (Nat.le_refl _) _
  have HTH := Lib.hid (ThyAt.mk (Thy.mk (heap_alloc_new w (.cells #[.string nm, .slice ca cs.length cc, .slice ta tn tc, .slice ra rn rc, .slice oa on oc, .slice ya yn yc, .slice qa qn qc] 29)) (hcs.later hb0)) hca hcl : ThyAt nm ca ta ra oa ya qa cc tn tc rn rc on oc yn yc qn qc cb co cs w.heap.size _)
  have HB0 := Lib.hid hb0
  have HSA := Lib.hid hsa
  have HSB := Lib.hid hsb
  clear hb0 hca hcs hcl hsa hsb
  obtain ⟨R, hR⟩ : ∃ R, belowT cs a b = R := ⟨_, rfl⟩
  rw [hR]
  have HR := Lib.hid hR
  clear hR
  go_enter Try.func15, Try.ntmps15
  go_wp2_with fail
  generalize (w.alloc (.cells #[.string nm, .slice ca cs.length cc, .slice ta tn tc, .slice ra rn rc, .slice oa on oc, .slice ya yn yc, .slice qa qn qc] 29)) = w1 at *
  obtain ⟨ga, hga⟩ : ∃ q, w.heap.size = q := ⟨_, rfl⟩
  rw [hga] at HTH ⊢
  clear hga
  obtain ⟨g0, g1, g2, g3, g4, g5, g6⟩ := HTH.out.cells
  go_wp2_with fail
  refine (refClass_uni HTH.out w1 HSA (Lib.hid (Below.refl _ _))).mono ?_
  rintro e w2 ⟨rfl, hb2, i0, i1, i2, i3, i4, i5, i6⟩
  have HB2 := Lib.hid (HB0.out.trans (hb2.out.mono HB0.out.size))
  have HB12 := hb2
  clear hb2 g0 g1 g2 g3 g4 g5 g6
  obtain ⟨I, hI⟩ : ∃ I, refIdx cs a = I := ⟨_, rfl⟩
  rw [hI]
  go_wp2_with fail
  refine (refClass_uni HTH.out w2 HSB HB12).mono ?_
  rintro e w3 ⟨rfl, hb3, g0, g1, g2, g3, g4, g5, g6⟩
  have HB3 := Lib.hid (HB0.out.trans (hb3.out.mono HB0.out.size))
  have HT3 := Lib.hid (HTH.out.later hb3.out)
  clear hb3 HB12 i0 i1 i2 i3 i4 i5 i6
  obtain ⟨K, hK⟩ : ∃ K, refIdx cs b = K := ⟨_, rfl⟩
  rw [hK]
  by_cases hI0 : I < 0
  · have hu := refIdx_neg.1 (by rw [hI]; exact hI0)
    have hR : R = false := by rw [← HR.out]; unfold belowT belowB; rw [hu]; simp
    subst hR
    clear hI hK hu
    go_wp2_with fail
    go_ret
    exact ⟨rfl, HB3.out⟩
  by_cases hK0 : K < 0
  · have hu := refIdx_neg.1 (by rw [hK]; exact hK0)
    have hR : R = false := by rw [← HR.out]; unfold belowT belowB; rw [hu]; simp
    subst hR
    clear hI hK hu
    go_wp2_with fail
    go_ret
    exact ⟨rfl, HB3.out⟩
  have hka : knownB cs a = true := by
    cases hk : knownB cs a
    · exact absurd (by rw [← hI]; exact refIdx_neg.2 hk) hI0
    · rfl
  have hkb : knownB cs b = true := by
    cases hk : knownB cs b
    · exact absurd (by rw [← hK]; exact refIdx_neg.2 hk) hK0
    · rfl
  have hia : I = ((idxOfC cs a : Nat) : Int) := by rw [← hI]; unfold refIdx; rw [if_pos hka]
  have hib : K = ((idxOfC cs b : Nat) : Int) := by rw [← hK]; unfold refIdx; rw [if_pos hkb]
  have hla := idx_lt hka
  have hlb := idx_lt hkb
  have HV := Lib.hid (fun (bs : List Bool) (hl : bs.length = cs.length) (h : ∀ j, bs[j]? = some true ↔ Reach (supOf cs) (idxOfC cs a) j) => under_val hka hkb hl h)
  obtain ⟨ia, hia'⟩ : ∃ x, idxOfC cs a = x := ⟨_, rfl⟩
  obtain ⟨ib, hib'⟩ : ∃ x, idxOfC cs b = x := ⟨_, rfl⟩
  rw [hia'] at hia hla HV
  rw [hib'] at hib hlb HV
  subst hia
  subst hib
  clear hI hK hI0 hK0 hka hkb hia' hib'
  go_wp2_with fail
  refine (refClasses_any w3 HT3.out.cla HT3.out.thy.cls HT3.out.len).mono ?_
  rintro e w4 ⟨rfl, hb4⟩
  have HB4 := Lib.hid (HB3.out.trans (hb4.mono HB3.out.size))
  have HT4 := Lib.hid (HT3.out.later hb4)
  clear hb4 g0 g1 g2 g3 g4 g5 g6
  by_cases hO : ¬ (openErr cs = 0)
  · have q1 : (openErr cs == 0) = false := by simpa using hO
    have q2 : (openErr cs != 0) = true := by simpa using hO
    have hR : R = false := by rw [← HR.out]; unfold belowT; rw [q1, Bool.false_and]
    subst hR
    obtain ⟨E, hE⟩ : ∃ E, openErr cs = E := ⟨_, rfl⟩
    rw [hE] at q1 q2 ⊢
    clear hO hE
    go_wp2_with fail
    go_ret
    exact ⟨rfl, HB4.out⟩
  replace hO := Classical.not_not.1 hO
  have HO := Lib.hid hO
  have hRB : R = belowB cs a b := by rw [← HR.out]; unfold belowT; rw [hO]; simp
  have HRB := Lib.hid hRB
  rw [hO]
  clear hO hRB
  obtain ⟨g0, g1, g2, g3, g4, g5, g6⟩ := HT4.out.cells
  go_wp2_with fail
  refine (refAbove_any ia w4 HT4.out.cla HT4.out.thy.cls (open_le HO.out) hla HO.out).mono ?_
  rintro e w5 ⟨gg, bs, rfl, hbl, hre, ho5, hb5⟩
  have HB5 := Lib.hid (HB4.out.trans (hb5.mono HB4.out.size))
  have hv := HV.out bs hbl hre
  have kx := ho5.cellAt ib (by omega)
  rw [List.getElem?_map, hv, Option.map_some] at kx
  obtain ⟨B, hB⟩ : ∃ B, belowB cs a b = B := ⟨_, rfl⟩
  rw [hB] at kx
  have HBB := Lib.hid hB
  clear hb5 hre ho5 hv hB g0 g1 g2 g3 g4 g5 g6
  go_wp2_with fail
  go_ret
  exact ⟨by rw [HRB.out, HBB.out]; rfl, HB5.out⟩
end Go.Proofs.Ytlaibimdkamcfaa
