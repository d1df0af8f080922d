/-
  The reference's within.
-/
import Derived.Test.YtlaibimdkamcfaaF4
import Derived.BigQuiet
namespace Go.Proofs.Ytlaibimdkamcfaa
open Go.RowKit Go.Maps

/-- Each class of the second sort has one of the first one below it. -/
noncomputable def coversB (cs : List Cls) (x y : List ByteArray) : Bool := y.all fun c => x.any fun d => belowB cs d c

set_option maxRecDepth 100000 in
set_option maxHeartbeats 4000000 in
theorem refWithin_any {nm : ByteArray} {ca ta ra oa ya qa : Option Addr} {cc tn tc rn rc on oc yn yc qn qc cb co : Nat} {cs : List Cls} {xa za : Option Addr} {x y : List ByteArray} {xc zc : Nat} (w : World)
    (hca : cs ≠ [] → ca = some ⟨cb, co, none⟩) (hcs : ClassesAt w cb co cs) (hcl : cs.length ≤ 300) (hO : openErr cs = 0) (hx : SortAt w xa x) (hy : SortAt w za y) (hkx : ∀ c, c ∈ x → knownB cs c = true) (hky : ∀ c, c ∈ y → knownB cs c = true) :
    Calls Try.prog 47 #[.agg #[.string nm, .slice ca cs.length cc, .slice ta tn tc, .slice ra rn rc, .slice oa on oc, .slice ya yn yc, .slice qa qn qc], .slice xa x.length xc, .slice za y.length zc] w fun e w' => e = .returned (.bool (coversB cs x y)) ∧ Below w.heap.size w w' := by
  have hclm : cs.length ≤ maxLen := by unfold maxLen; omega
  have hb0 : Below w.heap.size w (w.alloc (.cells #[.string nm, .slice ca cs.length cc, .slice ta tn tc, .slice ra rn rc, .slice oa on oc, .slice ya yn yc, .slice qa qn qc] 29)) := (Below.refl _ w).alloc (Nat.le_refl _) _
  have HTH := Lib.hid (ThyAt.mk (Thy.mk (heap_alloc_new w (.cells #[.string nm, .slice ca cs.length cc, .slice ta tn tc, .slice ra rn rc, .slice oa on oc, .slice ya yn yc, .slice qa qn qc] 29)) (hcs.later hb0)) hca hclm : ThyAt nm ca ta ra oa ya qa cc tn tc rn rc on oc yn yc qn qc cb co cs w.heap.size _)
  have hlx : x.length ≤ 9223372036854775807 := hx.choose_spec.choose_spec.2.2
  have hly : y.length ≤ 9223372036854775807 := hy.choose_spec.choose_spec.2.2
  have HX := Lib.hid (hx.later hb0)
  have HY := Lib.hid (hy.later hb0)
  have HSX := Lib.hid hx.size
  have HSY := Lib.hid hy.size
  have HB0 := Lib.hid hb0
  have HKX := Lib.hid hkx
  have HKY := Lib.hid hky
  have HO := Lib.hid hO
  clear hb0 hca hcs hclm hx hy hkx hky hO
  obtain ⟨R, hR⟩ : ∃ R, coversB cs x y = R := ⟨_, rfl⟩
  rw [hR]
  have HR := Lib.hid hR
  clear hR
  go_enter Try.func47, Try.ntmps47
  go_wp2_with fail
  generalize (w.alloc (.cells #[.string nm, .slice ca cs.length cc, .slice ta tn tc, .slice ra rn rc, .slice oa on oc, .slice ya yn yc, .slice qa qn qc] 29)) = w1 at *
  obtain ⟨ga, hga⟩ : ∃ q, w.heap.size = q := ⟨_, rfl⟩
  rw [hga] at HTH ⊢
  have HGA := Lib.hid hga
  clear hga
  go_loopw [7] (fun t wr => ∃ (i : Nat), t = .int .i64 i ∧ i ≤ y.length ∧ coversB cs x (y.take i) = true ∧ Below w1.heap.size w1 wr) (fun t _ => y.length - (intOf t).toNat)
  case atStart => exact ⟨0, rfl, Nat.zero_le _, by simp [coversB], Below.refl _ _⟩
  case round =>
    obtain ⟨i, rfl, hi, hp, hb⟩ := hrel
    have HP := Lib.hid hp
    have HB := Lib.hid hb
    have HBW := Lib.hid (HB0.out.trans (hb.mono HB0.out.size))
    clear hp hb
    by_cases hlt : i < y.length
    · go_wp2_with fail
      obtain ⟨wo, rfl⟩ : ∃ wo : World, wo = wr := ⟨_, rfl⟩
      have hst : coversB cs x (y.take (i + 1)) = (x.any fun d => belowB cs d y[i]) := by
        unfold coversB at HP ⊢
        rw [← List.take_append_getElem hlt, List.all_append, HP.out]; simp
      have HST := Lib.hid hst
      have hmy := List.getElem_mem hlt
      have HZN := Lib.hid (HSY.out _ hmy)
      have HKN := Lib.hid (HKY.out _ hmy)
      have HMY := Lib.hid hmy
      obtain ⟨yb, yo, hya, hys, _⟩ := HY.out.later HB.out
      have e := hya (by intro e; subst e; simp at hlt)
      subst e
      have HCY := Lib.hid (hys.cell i hlt)
      have HLY := Lib.hid (hys.lt (by intro e; subst e; simp at hlt))
      obtain ⟨sn, hsn⟩ : ∃ s, y[i] = s := ⟨_, rfl⟩
      rw [hsn] at HST HZN HKN HCY HMY
      clear hst hmy hya hys hsn
      go_loopw [8, 9] (fun dv t wr => ∃ (q : Nat), t = .int .i64 q ∧ q ≤ x.length ∧ dv = .bool ((x.take q).any fun d => belowB cs d sn) ∧ Below wo.heap.size wo wr) (fun _ t _ => x.length - (intOf t).toNat)
      case atStart => exact ⟨0, rfl, Nat.zero_le _, by simp, Below.refl _ _⟩
      case round =>
        obtain ⟨q, rfl, hq, rfl, hqb⟩ := hrel
        have HQB := Lib.hid hqb
        have HBQ := Lib.hid (HB.out.trans (hqb.mono HB.out.size))
        clear hqb
        by_cases hqt : q < x.length
        · obtain ⟨xb, xo, hxa, hxs, _⟩ := HX.out.later HBQ.out
          have e := hxa (by intro e; subst e; simp at hqt)
          subst e
          have cx := hxs.cell q hqt
          have cy := (HQB.out.cell (p := ⟨yb, yo + i, none⟩) HLY.out).trans HCY.out
          have HLX := Lib.hid (hxs.lt (by intro e; subst e; simp at hqt))
          have HLY2 := Lib.hid (Nat.lt_of_lt_of_le HLY.out HQB.out.size)
          have HTR := Lib.hid (HTH.out.later HBQ.out)
          have HZQ := Lib.hid (HSX.out _ (List.getElem_mem hqt))
          have HKQ := Lib.hid (HKX.out _ (List.getElem_mem hqt))
          have hstep : ((x.take (q + 1)).any fun d => belowB cs d sn) = (((x.take q).any fun d => belowB cs d sn) || belowB cs x[q] sn) := by
            rw [← List.take_append_getElem hqt, List.any_append]; simp
          have HSQ := Lib.hid hstep
          obtain ⟨sq, hsq⟩ : ∃ s, x[q] = s := ⟨_, rfl⟩
          rw [hsq] at cx HZQ HKQ HSQ
          have HCX := Lib.hid cx
          have HCY2 := Lib.hid cy
          obtain ⟨g0, g1, g2, g3, g4, g5, g6⟩ := HTR.out.cells
          have k0 : wr.drew.cell? ⟨ga, 0, none⟩ = _ := g0
          have k1 : wr.drew.cell? ⟨ga, 1, none⟩ = _ := g1
          have k2 : wr.drew.cell? ⟨ga, 2, none⟩ = _ := g2
          have k3 : wr.drew.cell? ⟨ga, 3, none⟩ = _ := g3
          have k4 : wr.drew.cell? ⟨ga, 4, none⟩ = _ := g4
          have k5 : wr.drew.cell? ⟨ga, 5, none⟩ = _ := g5
          have k6 : wr.drew.cell? ⟨ga, 6, none⟩ = _ := g6
          have k7 : wr.drew.cell? ⟨xb, xo + q, none⟩ = _ := cx
          have k8 : wr.drew.cell? ⟨yb, yo + i, none⟩ = _ := cy
          have hBD := Lib.hid ((Below.refl wr.heap.size wr).drew)
          obtain ⟨dn, hdn⟩ : ∃ d, ((x.take q).any fun d => belowB cs d sn) = d := ⟨_, rfl⟩
          rw [hdn] at HSQ ⊢
          clear hsq hstep hdn hxs hxa
          cases dn with
          | true =>
            rw [Bool.true_or] at HSQ
            go_wp2_with fail
            go_quiet (fail)
            go_wp2_with fail
            refine ⟨⟨q + 1, by simp only [Int.natCast_add, Int.natCast_one], by omega, by rw [HSQ.out], below_draws _ HQB.out⟩, ?_⟩
            show x.length - ((q : Int) + 1).toNat < x.length - ((q : Nat) : Int).toNat
            omega
          | false =>
            rw [Bool.false_or] at HSQ
            have HTD := Lib.hid (HTR.out.later hBD.out)
            obtain ⟨bv, hbv⟩ : ∃ v, belowB cs sq sn = v := ⟨_, rfl⟩
            rw [hbv] at HSQ
            have HBV := Lib.hid hbv
            clear hbv
            go_wp2_with fail
            go_region_held3 (fun W => W.cell? ⟨xb, xo + q, none⟩ = some (.string sq) ∧ W.cell? ⟨yb, yo + i, none⟩ = some (.string sn) ∧ W.cell? ⟨ga, 0, none⟩ = some (.string nm) ∧ W.cell? ⟨ga, 1, none⟩ = some (.slice ca cs.length cc) ∧ W.cell? ⟨ga, 2, none⟩ = some (.slice ta tn tc) ∧ W.cell? ⟨ga, 3, none⟩ = some (.slice ra rn rc) ∧ W.cell? ⟨ga, 4, none⟩ = some (.slice oa on oc) ∧ W.cell? ⟨ga, 5, none⟩ = some (.slice ya yn yc) ∧ W.cell? ⟨ga, 6, none⟩ = some (.slice qa qn qc))
              (refine ⟨?_, ?_, ?_, ?_, ?_, ?_, ?_, ?_, ?_⟩ <;> assumption)
              ((go_at_call 74
                refine (refUnder_any sq sn wr.drew HTD.out.cla HTD.out.thy.cls hcl HO.out HKQ.out HKN.out HZQ.out HZN.out).mono ?_
                rw [HBV.out]
                rintro e w9 ⟨rfl, hb9⟩
                have HB9 := Lib.hid (hBD.out.trans (hb9.mono hBD.out.size))
                obtain ⟨k0, k1, k2, k3, k4, k5, k6⟩ := (HTD.out.later hb9).cells
                have k7 := (HB9.out.cell (p := ⟨xb, xo + q, none⟩) HLX.out).trans HCX.out
                have k8 := (HB9.out.cell (p := ⟨yb, yo + i, none⟩) HLY2.out).trans HCY2.out
                clear hb9))
            go_wp2_with fail
            refine ⟨⟨q + 1, by simp only [Int.natCast_add, Int.natCast_one], by omega, by rw [HSQ.out], HQB.out.trans (HB9.out.mono HQB.out.size)⟩, ?_⟩
            show x.length - ((q : Int) + 1).toNat < x.length - ((q : Nat) : Int).toNat
            omega
        · have ht : x.take q = x := List.take_of_length_le (by omega)
          rw [ht]
          obtain ⟨dn, hdn⟩ : ∃ d, (x.any fun d => belowB cs d sn) = d := ⟨_, rfl⟩
          rw [hdn] at HST ⊢
          have HDN := Lib.hid hdn
          clear ht hdn
          cases dn with
          | true =>
            go_wp2_with fail
            refine ⟨⟨i + 1, by simp only [Int.natCast_add, Int.natCast_one], by omega, HST.out, HBQ.out⟩, ?_⟩
            show y.length - ((i : Int) + 1).toNat < y.length - ((i : Nat) : Int).toNat
            omega
          | false =>
            have hR : R = false := by
              rw [← HR.out]
              unfold coversB
              exact List.all_eq_false.2 ⟨sn, HMY.out, by rw [HDN.out]; simp⟩
            subst hR
            go_wp2_with fail
            go_ret
            exact ⟨rfl, HB0.out.trans (HBQ.out.mono HB0.out.size)⟩
    · have ht : y.take i = y := List.take_of_length_le (by omega)
      have hp := HP.out
      rw [ht, HR.out] at hp
      subst hp
      clear ht
      go_wp2_with fail
      go_ret
      exact ⟨rfl, HBW.out⟩
end Go.Proofs.Ytlaibimdkamcfaa
