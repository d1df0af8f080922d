import Derived.Test.YtlaibimdkamcfaaF4
import Derived.BigQuiet
import Derived.Test.YtlaibimdkamcfaaG1
section
/-
  The reference's within.
-/
namespace Go.Proofs.Ytlaibimdkamcfaa
open Go.RowKit Go.Maps

/-- Each class of the second sort has one of the first one below it. -/
noncomputable def coversB (cs : List Cls) (x y : List ByteArray) : Bool := y.all fun c => x.any fun d => belowB cs d c

set_option maxRecDepth 100000 in
set_option maxHeartbeats 4000000 in
theorem refWithin_any {nm : ByteArray} {ca ta ra oa ya qa : Option Addr} {cc tn tc rn rc on oc yn yc qn qc cb co : Nat} {cs : List Cls} {xa za : Option Addr} {x y : List ByteArray} {xc zc : Nat} (w : World)
    (hca : cs ≠ [] → ca = some ⟨cb, co, none⟩) (hcs : ClassesAt w cb co cs) (hcl : cs.length ≤ 300) (hO : openErr cs = 0) (hx : SortAt w xa x) (hy : SortAt w za y) (hkx : ∀ c, c ∈ x → knownB cs c = true) (hky : ∀ c, c ∈ y → knownB cs c = true) :
    Calls Try.prog 47 #[.agg #[.string nm, .slice ca cs.length cc, .slice ta tn tc, .slice ra rn rc, .slice oa on oc, .slice ya yn yc, .slice qa qn qc], .slice xa x.length xc, .slice za y.length zc] w fun e w' => e = .returned (.bool (coversB cs x y)) ∧ Below w.heap.size w w' := by
  have hclm : cs.length ≤ maxLen := by unfold maxLen; omega
  have hb0 : Below w.heap.size w (w.alloc (.cells #[.string nm, .slice ca cs.length cc, .slice ta tn tc, .slice ra rn rc, .slice oa on oc, .slice ya yn yc, .slice qa qn qc] 29)) := (Below.refl _ w).alloc (Nat.le_refl _) _
  have HTH := Lib.hid (ThyAt.mk (Thy.mk (heap_alloc_new w (.cells #[.string nm, .slice ca cs.length cc, .slice ta tn tc, .slice ra rn rc, .slice oa on oc, .slice ya yn yc, .slice qa qn qc] 29)) (hcs.later hb0)) hca hclm : ThyAt nm ca ta ra oa ya qa cc tn tc rn rc on oc yn yc qn qc cb co cs w.heap.size _)
  have hlx : x.length ≤ 9223372036854775807 := hx.choose_spec.choose_spec.2.2
  have hly : y.length ≤ 9223372036854775807 := hy.choose_spec.choose_spec.2.2
  have HX := Lib.hid (hx.later hb0)
  have HY := Lib.hid (hy.later hb0)
  have HSX := Lib.hid hx.size
  have HSY := Lib.hid hy.size
  have HB0 := Lib.hid hb0
  have HKX := Lib.hid hkx
  have HKY := Lib.hid hky
  have HO := Lib.hid hO
  clear hb0 hca hcs hclm hx hy hkx hky hO
  obtain ⟨R, hR⟩ : ∃ R, coversB cs x y = R := ⟨_, rfl⟩
  rw [hR]
  have HR := Lib.hid hR
  clear hR
  go_enter Try.func47, Try.ntmps47
  go_wp2_with fail
  generalize (w.alloc (.cells #[.string nm, .slice ca cs.length cc, .slice ta tn tc, .slice ra rn rc, .slice oa on oc, .slice ya yn yc, .slice qa qn qc] 29)) = w1 at *
  obtain ⟨ga, hga⟩ : ∃ q, w.heap.size = q := ⟨_, rfl⟩
  rw [hga] at HTH ⊢
  have HGA := Lib.hid hga
  clear hga
  go_loopw [7] (fun t wr => ∃ (i : Nat), t = .int .i64 i ∧ i ≤ y.length ∧ coversB cs x (y.take i) = true ∧ Below w1.heap.size w1 wr) (fun t _ => y.length - (intOf t).toNat)
  case atStart => exact ⟨0, rfl, Nat.zero_le _, by simp [coversB], Below.refl _ _⟩
  case round =>
    obtain ⟨i, rfl, hi, hp, hb⟩ := hrel
    have HP := Lib.hid hp
    have HB := Lib.hid hb
    have HBW := Lib.hid (HB0.out.trans (hb.mono HB0.out.size))
    clear hp hb
    by_cases hlt : i < y.length
    · go_wp2_with fail
      obtain ⟨wo, rfl⟩ : ∃ wo : World, wo = wr := ⟨_, rfl⟩
      have hst : coversB cs x (y.take (i + 1)) = (x.any fun d => belowB cs d y[i]) := by
        unfold coversB at HP ⊢
        rw [← List.take_append_getElem hlt, List.all_append, HP.out]; simp
      have HST := Lib.hid hst
      have hmy := List.getElem_mem hlt
      have HZN := Lib.hid (HSY.out _ hmy)
      have HKN := Lib.hid (HKY.out _ hmy)
      have HMY := Lib.hid hmy
      obtain ⟨yb, yo, hya, hys, _⟩ := HY.out.later HB.out
      have e := hya (by intro e; subst e; simp at hlt)
      subst e
      have HCY := Lib.hid (hys.cell i hlt)
      have HLY := Lib.hid (hys.lt (by intro e; subst e; simp at hlt))
      obtain ⟨sn, hsn⟩ : ∃ s, y[i] = s := ⟨_, rfl⟩
      rw [hsn] at HST HZN HKN HCY HMY
      clear hst hmy hya hys hsn
      go_loopw [8, 9] (fun dv t wr => ∃ (q : Nat), t = .int .i64 q ∧ q ≤ x.length ∧ dv = .bool ((x.take q).any fun d => belowB cs d sn) ∧ Below wo.heap.size wo wr) (fun _ t _ => x.length - (intOf t).toNat)
      case atStart => exact ⟨0, rfl, Nat.zero_le _, by simp, Below.refl _ _⟩
      case round =>
        obtain ⟨q, rfl, hq, rfl, hqb⟩ := hrel
        have HQB := Lib.hid hqb
        have HBQ := Lib.hid (HB.out.trans (hqb.mono HB.out.size))
        clear hqb
        by_cases hqt : q < x.length
        · obtain ⟨xb, xo, hxa, hxs, _⟩ := HX.out.later HBQ.out
          have e := hxa (by intro e; subst e; simp at hqt)
          subst e
          have cx := hxs.cell q hqt
          have cy := (HQB.out.cell (p := ⟨yb, yo + i, none⟩) HLY.out).trans HCY.out
          have HLX := Lib.hid (hxs.lt (by intro e; subst e; simp at hqt))
          have HLY2 := Lib.hid (Nat.lt_of_lt_of_le HLY.out HQB.out.size)
          have HTR := Lib.hid (HTH.out.later HBQ.out)
          have HZQ := Lib.hid (HSX.out _ (List.getElem_mem hqt))
          have HKQ := Lib.hid (HKX.out _ (List.getElem_mem hqt))
          have hstep : ((x.take (q + 1)).any fun d => belowB cs d sn) = (((x.take q).any fun d => belowB cs d sn) || belowB cs x[q] sn) := by
            rw [← List.take_append_getElem hqt, List.any_append]; simp
          have HSQ := Lib.hid hstep
          obtain ⟨sq, hsq⟩ : ∃ s, x[q] = s := ⟨_, rfl⟩
          rw [hsq] at cx HZQ HKQ HSQ
          have HCX := Lib.hid cx
          have HCY2 := Lib.hid cy
          obtain ⟨g0, g1, g2, g3, g4, g5, g6⟩ := HTR.out.cells
          have k0 : wr.drew.cell? ⟨ga, 0, none⟩ = _ := g0
          have k1 : wr.drew.cell? ⟨ga, 1, none⟩ = _ := g1
          have k2 : wr.drew.cell? ⟨ga, 2, none⟩ = _ := g2
          have k3 : wr.drew.cell? ⟨ga, 3, none⟩ = _ := g3
          have k4 : wr.drew.cell? ⟨ga, 4, none⟩ = _ := g4
          have k5 : wr.drew.cell? ⟨ga, 5, none⟩ = _ := g5
          have k6 : wr.drew.cell? ⟨ga, 6, none⟩ = _ := g6
          have k7 : wr.drew.cell? ⟨xb, xo + q, none⟩ = _ := cx
          have k8 : wr.drew.cell? ⟨yb, yo + i, none⟩ = _ := cy
          have hBD := Lib.hid ((Below.refl wr.heap.size wr).drew)
          obtain ⟨dn, hdn⟩ : ∃ d, ((x.take q).any fun d => belowB cs d sn) = d := ⟨_, rfl⟩
          rw [hdn] at HSQ ⊢
          clear hsq hstep hdn hxs hxa
          cases dn with
          | true =>
            rw [Bool.true_or] at HSQ
            go_wp2_with fail
            go_quiet (fail)
            go_wp2_with fail
            refine ⟨⟨q + 1, by simp only [Int.natCast_add, Int.natCast_one], by omega, by rw [HSQ.out], below_draws _ HQB.out⟩, ?_⟩
            show x.length - ((q : Int) + 1).toNat < x.length - ((q : Nat) : Int).toNat
            omega
          | false =>
            rw [Bool.false_or] at HSQ
            have HTD := Lib.hid (HTR.out.later hBD.out)
            obtain ⟨bv, hbv⟩ : ∃ v, belowB cs sq sn = v := ⟨_, rfl⟩
            rw [hbv] at HSQ
            have HBV := Lib.hid hbv
            clear hbv
            go_wp2_with fail
            go_region_held3 (fun W => W.cell? ⟨xb, xo + q, none⟩ = some (.string sq) ∧ W.cell? ⟨yb, yo + i, none⟩ = some (.string sn) ∧ W.cell? ⟨ga, 0, none⟩ = some (.string nm) ∧ W.cell? ⟨ga, 1, none⟩ = some (.slice ca cs.length cc) ∧ W.cell? ⟨ga, 2, none⟩ = some (.slice ta tn tc) ∧ W.cell? ⟨ga, 3, none⟩ = some (.slice ra rn rc) ∧ W.cell? ⟨ga, 4, none⟩ = some (.slice oa on oc) ∧ W.cell? ⟨ga, 5, none⟩ = some (.slice ya yn yc) ∧ W.cell? ⟨ga, 6, none⟩ = some (.slice qa qn qc))
              (refine ⟨?_, ?_, ?_, ?_, ?_, ?_, ?_, ?_, ?_⟩ <;> assumption)
              ((go_at_call 74
                refine (refUnder_any sq sn wr.drew HTD.out.cla HTD.out.thy.cls hcl HO.out HKQ.out HKN.out HZQ.out HZN.out).mono ?_
                rw [HBV.out]
                rintro e w9 ⟨rfl, hb9⟩
                have HB9 := Lib.hid (hBD.out.trans (hb9.mono hBD.out.size))
                obtain ⟨k0, k1, k2, k3, k4, k5, k6⟩ := (HTD.out.later hb9).cells
                have k7 := (HB9.out.cell (p := ⟨xb, xo + q, none⟩) HLX.out).trans HCX.out
                have k8 := (HB9.out.cell (p := ⟨yb, yo + i, none⟩) HLY2.out).trans HCY2.out
                clear hb9))
            go_wp2_with fail
            refine ⟨⟨q + 1, by simp only [Int.natCast_add, Int.natCast_one], by omega, by rw [HSQ.out], HQB.out.trans (HB9.out.mono HQB.out.size)⟩, ?_⟩
            show x.length - ((q : Int) + 1).toNat < x.length - ((q : Nat) : Int).toNat
            omega
        · have ht : x.take q = x := List.take_of_length_le (by omega)
          rw [ht]
          obtain ⟨dn, hdn⟩ : ∃ d, (x.any fun d => belowB cs d sn) = d := ⟨_, rfl⟩
          rw [hdn] at HST ⊢
          have HDN := Lib.hid hdn
          clear ht hdn
          cases dn with
          | true =>
            go_wp2_with fail
            refine ⟨⟨i + 1, by simp only [Int.natCast_add, Int.natCast_one], by omega, HST.out, HBQ.out⟩, ?_⟩
            show y.length - ((i : Int) + 1).toNat < y.length - ((i : Nat) : Int).toNat
            omega
          | false =>
            have hR : R = false := by
              rw [← HR.out]
              unfold coversB
              exact List.all_eq_false.2 ⟨sn, HMY.out, by rw [HDN.out]; simp⟩
            subst hR
            go_wp2_with fail
            go_ret
            exact ⟨rfl, HB0.out.trans (HBQ.out.mono HB0.out.size)⟩
    · have ht : y.take i = y := List.take_of_length_le (by omega)
      have hp := HP.out
      rw [ht, HR.out] at hp
      subst hp
      clear ht
      go_wp2_with fail
      go_ret
      exact ⟨rfl, HBW.out⟩
end Go.Proofs.Ytlaibimdkamcfaa
end

section
/-
  The reference's least.
-/
namespace Go.Proofs.Ytlaibimdkamcfaa
open Go.RowKit Go.Maps

set_option maxRecDepth 100000 in
set_option maxHeartbeats 8000000 in
theorem refLeast_any {nm : ByteArray} {ca ta ra oa ya qa : Option Addr} {cc tn tc rn rc on oc yn yc qn qc cb co : Nat} {cs : List Cls} {xa : Option Addr} {x : List ByteArray} {xc : Nat} (w : World)
    (hca : cs ≠ [] → ca = some ⟨cb, co, none⟩) (hcs : ClassesAt w cb co cs) (hcl : cs.length ≤ 300) (hO : openErr cs = 0) (hx : SortAt w xa x) (hl : x.length ≤ 500) (hk : ∀ c, c ∈ x → knownB cs c = true) :
    Calls Try.prog 52 #[.agg #[.string nm, .slice ca cs.length cc, .slice ta tn tc, .slice ra rn rc, .slice oa on oc, .slice ya yn yc, .slice qa qn qc], .slice xa x.length xc] w fun e w' => ∃ v, e = .returned v ∧ w'.ownsRow w.heap.size 9 1 v (leastFrom (belowB cs) x [] x).length ((leastFrom (belowB cs) x [] x).map Value.string) ∧ Below w.heap.size w w' := by
  have hclm : cs.length ≤ maxLen := by unfold maxLen; omega
  have hb0 : Below w.heap.size w (w.alloc (.cells #[.string nm, .slice ca cs.length cc, .slice ta tn tc, .slice ra rn rc, .slice oa on oc, .slice ya yn yc, .slice qa qn qc] 29)) := (Below.refl _ w).alloc (Nat.le_refl _) _
  have HTH := Lib.hid (ThyAt.mk (Thy.mk (heap_alloc_new w (.cells #[.string nm, .slice ca cs.length cc, .slice ta tn tc, .slice ra rn rc, .slice oa on oc, .slice ya yn yc, .slice qa qn qc] 29)) (hcs.later hb0)) hca hclm : ThyAt nm ca ta ra oa ya qa cc tn tc rn rc on oc yn yc qn qc cb co cs w.heap.size _)
  have HX := Lib.hid (hx.later hb0)
  have HSZ := Lib.hid hx.size
  have HB0 := Lib.hid hb0
  have HK := Lib.hid hk
  have HO := Lib.hid hO
  have HS0 := Lib.hid (show (w.alloc (.cells #[.string nm, .slice ca cs.length cc, .slice ta tn tc, .slice ra rn rc, .slice oa on oc, .slice ya yn yc, .slice qa qn qc] 29)).heap.size = w.heap.size + 1 by simp)
  clear hb0 hca hcs hclm hx hk hO
  go_enter Try.func52, Try.ntmps52
  go_wp2_with fail
  have ho0 := World.ownsRow_made (base := w.heap.size) (e := 9) (size := 1) (w.alloc (.cells #[.string nm, .slice ca cs.length cc, .slice ta tn tc, .slice ra rn rc, .slice oa on oc, .slice ya yn yc, .slice qa qn qc] 29)) #[] 0 (by simp) (Nat.zero_le _) rfl
  have hb1 : Below (w.alloc (.cells #[.string nm, .slice ca cs.length cc, .slice ta tn tc, .slice ra rn rc, .slice oa on oc, .slice ya yn yc, .slice qa qn qc] 29)).heap.size _ ((w.alloc (.cells #[.string nm, .slice ca cs.length cc, .slice ta tn tc, .slice ra rn rc, .slice oa on oc, .slice ya yn yc, .slice qa qn qc] 29)).alloc (.cells #[] 9)) := (Below.refl _ _).alloc (Nat.le_refl _) _
  rw [HS0.out] at ho0
  have HO0 := Lib.hid ho0
  have HB1 := Lib.hid hb1
  clear ho0 hb1
  generalize (w.alloc (.cells #[.string nm, .slice ca cs.length cc, .slice ta tn tc, .slice ra rn rc, .slice oa on oc, .slice ya yn yc, .slice qa qn qc] 29)) = w1 at *
  generalize (Value.slice (some ⟨w.heap.size + 1, 0, none⟩) 0 0) = v0 at *
  generalize (w1.alloc (.cells #[] 9)) = w2 at *
  obtain ⟨L, hL⟩ : ∃ L, leastFrom (belowB cs) x [] x = L := ⟨_, rfl⟩
  have HL := Lib.hid hL
  have HSUB := Lib.hid (show ∀ c, c ∈ L → c ∈ x from fun c hc => ((leastFrom_normal (belowB cs) x).mem c |>.1 (by rw [hL]; exact hc)).1)
  clear hL
  obtain ⟨ga, hga⟩ : ∃ q, w.heap.size = q := ⟨_, rfl⟩
  rw [hga] at HTH HO0 ⊢
  have HGA := Lib.hid hga
  clear hga
  go_loopw [5, 6] (fun ov t wr => ∃ (n : Nat) (o : List ByteArray), t = .int .i64 n ∧ n ≤ x.length ∧ leastFrom (belowB cs) x o (x.drop n) = L ∧ o.length ≤ n ∧ (∀ c, c ∈ o → c ∈ x) ∧ wr.ownsRow ga 9 1 ov o.length (o.map Value.string) ∧ Below w1.heap.size w1 wr) (fun _ t _ => x.length - (intOf t).toNat)
  case atStart => exact ⟨0, [], rfl, Nat.zero_le _, HL.out, Nat.le_refl _, (fun c hc => absurd hc (by simp)), HO0.out, HB1.out⟩
  case round =>
    obtain ⟨n, o, rfl, hn, hlf, hol, hos, ho, hb⟩ := hrel
    have HLF := Lib.hid hlf
    have HOS := Lib.hid hos
    have HOW := Lib.hid ho
    have HB := Lib.hid hb
    obtain ⟨oa', oc', rfl⟩ := own_slice ho
    clear hlf hos ho hb
    by_cases hlt : n < x.length
    · go_wp2_with fail
      obtain ⟨wo, rfl⟩ : ∃ wo : World, wo = wr := ⟨_, rfl⟩
      go_loopw [7, 8] (fun dv t wr => ∃ (q : Nat), t = .int .i64 q ∧ q ≤ x.length ∧ dv = .bool (dropB (belowB cs) (x.take q) x[n]) ∧ Below wo.heap.size wo wr) (fun _ t _ => x.length - (intOf t).toNat)
      case atStart => exact ⟨0, rfl, Nat.zero_le _, by simp [dropB], Below.refl _ _⟩
      case round =>
        obtain ⟨q, rfl, hq, rfl, hqb⟩ := hrel
        have HQB := Lib.hid hqb
        clear hqb
        by_cases hqt : q < x.length
        · obtain ⟨b, off, hxa, hxs0, _⟩ := HX.out
          have hxs := hxs0.later (HB.out.trans (HQB.out.mono HB.out.size))
          have e := hxa (by intro e; subst e; simp at hqt)
          subst e
          have cn := hxs.cell n hlt
          have cq := hxs.cell q hqt
          have hlb : b < wr.heap.size := hxs.lt (by intro e; subst e; simp at hqt)
          have HTR := Lib.hid (HTH.out.later (HB.out.trans (HQB.out.mono HB.out.size)))
          have HLB := Lib.hid hlb
          have HZN := Lib.hid (HSZ.out _ (List.getElem_mem hlt))
          have HZQ := Lib.hid (HSZ.out _ (List.getElem_mem hqt))
          have HKN := Lib.hid (HK.out _ (List.getElem_mem hlt))
          have HKQ := Lib.hid (HK.out _ (List.getElem_mem hqt))
          have hstep : dropB (belowB cs) (x.take (q + 1)) x[n] = (dropB (belowB cs) (x.take q) x[n] || (!decide (x[q] = x[n]) && belowB cs x[q] x[n])) := by
            unfold dropB
            rw [← List.take_append_getElem hqt, List.any_append]; simp
          have HST := Lib.hid hstep
          obtain ⟨sn, hsn⟩ : ∃ s, x[n] = s := ⟨_, rfl⟩
          obtain ⟨sq, hsq⟩ : ∃ s, x[q] = s := ⟨_, rfl⟩
          have HSN := Lib.hid hsn
          rw [hsn] at cn HZN HKN HST ⊢
          rw [hsq] at cq HZQ HKQ HST
          have HCN := Lib.hid cn
          have HCQ := Lib.hid cq
          obtain ⟨g0, g1, g2, g3, g4, g5, g6⟩ := HTR.out.cells
          have k0 : wr.drew.cell? ⟨ga, 0, none⟩ = _ := g0
          have k1 : wr.drew.cell? ⟨ga, 1, none⟩ = _ := g1
          have k2 : wr.drew.cell? ⟨ga, 2, none⟩ = _ := g2
          have k3 : wr.drew.cell? ⟨ga, 3, none⟩ = _ := g3
          have k4 : wr.drew.cell? ⟨ga, 4, none⟩ = _ := g4
          have k5 : wr.drew.cell? ⟨ga, 5, none⟩ = _ := g5
          have k6 : wr.drew.cell? ⟨ga, 6, none⟩ = _ := g6
          have k7 : wr.drew.cell? ⟨b, off + n, none⟩ = _ := cn
          have k8 : wr.drew.cell? ⟨b, off + q, none⟩ = _ := cq
          have hBD := Lib.hid ((Below.refl wr.heap.size wr).drew)
          obtain ⟨dn, hdn⟩ : ∃ d, dropB (belowB cs) (x.take q) sn = d := ⟨_, rfl⟩
          rw [hdn] at HST ⊢
          have hqe := toList_beq sq sn
          clear hsn hsq hstep hdn hxs hxs0 hxa hlb cn cq
          go_wp2_with fail
          cases dn with
          | true =>
            rw [Bool.true_or] at HST
            refine wp_region_noPanic ?_
            refine wp_region_held_drew (S := (fun W => W.cell? ⟨b, off + n, none⟩ = some (.string sn) ∧ W.cell? ⟨b, off + q, none⟩ = some (.string sq) ∧ W.cell? ⟨ga, 0, none⟩ = some (.string nm) ∧ W.cell? ⟨ga, 1, none⟩ = some (.slice ca cs.length cc) ∧ W.cell? ⟨ga, 2, none⟩ = some (.slice ta tn tc) ∧ W.cell? ⟨ga, 3, none⟩ = some (.slice ra rn rc) ∧ W.cell? ⟨ga, 4, none⟩ = some (.slice oa on oc) ∧ W.cell? ⟨ga, 5, none⟩ = some (.slice ya yn yc) ∧ W.cell? ⟨ga, 6, none⟩ = some (.slice qa qn qc))) (by kernel_rfl) (by refine ⟨?_, ?_, ?_, ?_, ?_, ?_, ?_, ?_, ?_⟩ <;> assumption) (fun hHeld => ?_)
            refine wpAnyH_take (i := 0) (oi := { dst := some 22, op := Op.move (Operand.tmp 7), type := 4, pos := "ref.go:110", after := #[], guard := none }) (v := ?va0) rfl (by kernel_rfl) (by kernel_rfl) (by kernel_rfl) (fun _ _ _ h => h) (Or.inl ⟨by rfl, ?hya0⟩) (by assumption) ?resta0
            case hya0 => (intro w hSw; (try dsimp only at hSw); go_simp; (try with_reducible rfl))
            case' resta0 => skip
            try simp only [Act.put, List.setIfInBounds_toArray, List.set_cons_zero, List.set_cons_succ]
            refine wpAnyH_take (i := 1) (oi := { dst := some 23, op := Op.move (Operand.tmp 22), type := 4, pos := "ref.go:110", after := #[{ on := 0, ground := Ground.data }], guard := none }) (v := ?va1) rfl (by kernel_rfl) (by kernel_rfl) (by kernel_rfl) (fun _ _ _ h => h) (Or.inl ⟨by rfl, ?hya1⟩) (by assumption) ?resta1
            case hya1 => (intro w hSw; (try dsimp only at hSw); go_simp; (try with_reducible rfl))
            case' resta1 => skip
            try simp only [Act.put, List.setIfInBounds_toArray, List.set_cons_zero, List.set_cons_succ]
            refine wpAnyH_take (i := 2) (oi := { dst := some 24, op := Op.move (Operand.tmp 1), type := 27, pos := "ref.go:110", after := #[{ on := 1, ground := Ground.guard }], guard := some (1, false) }) (v := undef) rfl (by kernel_rfl) (by kernel_rfl) (by kernel_rfl) (fun _ _ _ h => h) (Or.inr ⟨by rfl, rfl⟩) (by assumption) ?_
            try simp only [Act.put, List.setIfInBounds_toArray, List.set_cons_zero, List.set_cons_succ]
            refine wpAnyH_take (i := 3) (oi := { dst := some 25, op := Op.move (Operand.tmp 8), type := 3, pos := "ref.go:110", after := #[{ on := 1, ground := Ground.guard }], guard := some (1, false) }) (v := undef) rfl (by kernel_rfl) (by kernel_rfl) (by kernel_rfl) (fun _ _ _ h => h) (Or.inr ⟨by rfl, rfl⟩) (by assumption) ?_
            try simp only [Act.put, List.setIfInBounds_toArray, List.set_cons_zero, List.set_cons_succ]
            refine wpAnyH_take (i := 4) (oi := { dst := some 26, op := Op.indexAddr 27 (Operand.tmp 24) (Operand.tmp 25), type := 0, pos := "ref.go:110", after := #[{ on := 2, ground := Ground.data }, { on := 3, ground := Ground.data }, { on := 1, ground := Ground.guard }], guard := some (1, false) }) (v := undef) rfl (by kernel_rfl) (by kernel_rfl) (by kernel_rfl) (fun _ _ _ h => h) (Or.inr ⟨by rfl, rfl⟩) (by assumption) ?_
            try simp only [Act.put, List.setIfInBounds_toArray, List.set_cons_zero, List.set_cons_succ]
            refine wpAnyH_take (i := 5) (oi := { dst := some 27, op := Op.load 9 (Operand.tmp 26), type := 9, pos := "ref.go:110", after := #[{ on := 4, ground := Ground.data }, { on := 1, ground := Ground.guard }], guard := some (1, false) }) (v := undef) rfl (by kernel_rfl) (by kernel_rfl) (by kernel_rfl) (fun _ _ _ h => h) (Or.inr ⟨by rfl, rfl⟩) (by assumption) ?_
            try simp only [Act.put, List.setIfInBounds_toArray, List.set_cons_zero, List.set_cons_succ]
            refine wpAnyH_take (i := 6) (oi := { dst := some 28, op := Op.move (Operand.tmp 1), type := 27, pos := "ref.go:110", after := #[{ on := 1, ground := Ground.guard }], guard := some (1, false) }) (v := undef) rfl (by kernel_rfl) (by kernel_rfl) (by kernel_rfl) (fun _ _ _ h => h) (Or.inr ⟨by rfl, rfl⟩) (by assumption) ?_
            try simp only [Act.put, List.setIfInBounds_toArray, List.set_cons_zero, List.set_cons_succ]
            refine wpAnyH_take (i := 7) (oi := { dst := some 29, op := Op.move (Operand.tmp 6), type := 3, pos := "ref.go:110", after := #[{ on := 1, ground := Ground.guard }], guard := some (1, false) }) (v := undef) rfl (by kernel_rfl) (by kernel_rfl) (by kernel_rfl) (fun _ _ _ h => h) (Or.inr ⟨by rfl, rfl⟩) (by assumption) ?_
            try simp only [Act.put, List.setIfInBounds_toArray, List.set_cons_zero, List.set_cons_succ]
            refine wpAnyH_take (i := 8) (oi := { dst := some 30, op := Op.indexAddr 27 (Operand.tmp 28) (Operand.tmp 29), type := 0, pos := "ref.go:110", after := #[{ on := 6, ground := Ground.data }, { on := 7, ground := Ground.data }, { on := 1, ground := Ground.guard }], guard := some (1, false) }) (v := undef) rfl (by kernel_rfl) (by kernel_rfl) (by kernel_rfl) (fun _ _ _ h => h) (Or.inr ⟨by rfl, rfl⟩) (by assumption) ?_
            try simp only [Act.put, List.setIfInBounds_toArray, List.set_cons_zero, List.set_cons_succ]
            refine wpAnyH_take (i := 9) (oi := { dst := some 31, op := Op.load 9 (Operand.tmp 30), type := 9, pos := "ref.go:110", after := #[{ on := 8, ground := Ground.data }, { on := 1, ground := Ground.guard }], guard := some (1, false) }) (v := undef) rfl (by kernel_rfl) (by kernel_rfl) (by kernel_rfl) (fun _ _ _ h => h) (Or.inr ⟨by rfl, rfl⟩) (by assumption) ?_
            try simp only [Act.put, List.setIfInBounds_toArray, List.set_cons_zero, List.set_cons_succ]
            refine wpAnyH_take (i := 10) (oi := { dst := some 32, op := Op.binOp BinOp.neq 9 (Operand.tmp 27) (Operand.tmp 31) 9, type := 4, pos := "ref.go:110", after := #[{ on := 5, ground := Ground.data }, { on := 9, ground := Ground.data }, { on := 1, ground := Ground.guard }], guard := some (1, false) }) (v := undef) rfl (by kernel_rfl) (by kernel_rfl) (by kernel_rfl) (fun _ _ _ h => h) (Or.inr ⟨by rfl, rfl⟩) (by assumption) ?_
            try simp only [Act.put, List.setIfInBounds_toArray, List.set_cons_zero, List.set_cons_succ]
            refine wpAnyH_take (i := 11) (oi := { dst := some 33, op := Op.move (Operand.tmp 32), type := 4, pos := "ref.go:110", after := #[{ on := 10, ground := Ground.data }, { on := 1, ground := Ground.chain }, { on := 1, ground := Ground.guard }], guard := some (1, false) }) (v := undef) rfl (by kernel_rfl) (by kernel_rfl) (by kernel_rfl) (fun _ _ _ h => h) (Or.inr ⟨by rfl, rfl⟩) (by assumption) ?_
            try simp only [Act.put, List.setIfInBounds_toArray, List.set_cons_zero, List.set_cons_succ]
            refine wpAnyH_take (i := 12) (oi := { dst := some 34, op := Op.load 29 (Operand.tmp 2), type := 29, pos := "ref.go:110", after := #[{ on := 11, ground := Ground.guard }], guard := some (11, true) }) (v := undef) rfl (by kernel_rfl) (by kernel_rfl) (by kernel_rfl) (fun _ _ _ h => h) (Or.inr ⟨by rfl, rfl⟩) (by assumption) ?_
            try simp only [Act.put, List.setIfInBounds_toArray, List.set_cons_zero, List.set_cons_succ]
            refine wpAnyH_take (i := 13) (oi := { dst := some 35, op := Op.move (Operand.tmp 1), type := 27, pos := "ref.go:110", after := #[{ on := 11, ground := Ground.guard }], guard := some (11, true) }) (v := undef) rfl (by kernel_rfl) (by kernel_rfl) (by kernel_rfl) (fun _ _ _ h => h) (Or.inr ⟨by rfl, rfl⟩) (by assumption) ?_
            try simp only [Act.put, List.setIfInBounds_toArray, List.set_cons_zero, List.set_cons_succ]
            refine wpAnyH_take (i := 14) (oi := { dst := some 36, op := Op.move (Operand.tmp 8), type := 3, pos := "ref.go:110", after := #[{ on := 11, ground := Ground.guard }], guard := some (11, true) }) (v := undef) rfl (by kernel_rfl) (by kernel_rfl) (by kernel_rfl) (fun _ _ _ h => h) (Or.inr ⟨by rfl, rfl⟩) (by assumption) ?_
            try simp only [Act.put, List.setIfInBounds_toArray, List.set_cons_zero, List.set_cons_succ]
            refine wpAnyH_take (i := 15) (oi := { dst := some 37, op := Op.indexAddr 27 (Operand.tmp 35) (Operand.tmp 36), type := 0, pos := "ref.go:110", after := #[{ on := 13, ground := Ground.data }, { on := 14, ground := Ground.data }, { on := 11, ground := Ground.guard }], guard := some (11, true) }) (v := undef) rfl (by kernel_rfl) (by kernel_rfl) (by kernel_rfl) (fun _ _ _ h => h) (Or.inr ⟨by rfl, rfl⟩) (by assumption) ?_
            try simp only [Act.put, List.setIfInBounds_toArray, List.set_cons_zero, List.set_cons_succ]
            refine wpAnyH_take (i := 16) (oi := { dst := some 38, op := Op.load 9 (Operand.tmp 37), type := 9, pos := "ref.go:110", after := #[{ on := 15, ground := Ground.data }, { on := 11, ground := Ground.guard }], guard := some (11, true) }) (v := undef) rfl (by kernel_rfl) (by kernel_rfl) (by kernel_rfl) (fun _ _ _ h => h) (Or.inr ⟨by rfl, rfl⟩) (by assumption) ?_
            try simp only [Act.put, List.setIfInBounds_toArray, List.set_cons_zero, List.set_cons_succ]
            refine wpAnyH_take (i := 17) (oi := { dst := some 39, op := Op.move (Operand.tmp 1), type := 27, pos := "ref.go:110", after := #[{ on := 11, ground := Ground.guard }], guard := some (11, true) }) (v := undef) rfl (by kernel_rfl) (by kernel_rfl) (by kernel_rfl) (fun _ _ _ h => h) (Or.inr ⟨by rfl, rfl⟩) (by assumption) ?_
            try simp only [Act.put, List.setIfInBounds_toArray, List.set_cons_zero, List.set_cons_succ]
            refine wpAnyH_take (i := 18) (oi := { dst := some 40, op := Op.move (Operand.tmp 6), type := 3, pos := "ref.go:110", after := #[{ on := 11, ground := Ground.guard }], guard := some (11, true) }) (v := undef) rfl (by kernel_rfl) (by kernel_rfl) (by kernel_rfl) (fun _ _ _ h => h) (Or.inr ⟨by rfl, rfl⟩) (by assumption) ?_
            try simp only [Act.put, List.setIfInBounds_toArray, List.set_cons_zero, List.set_cons_succ]
            refine wpAnyH_take (i := 19) (oi := { dst := some 41, op := Op.indexAddr 27 (Operand.tmp 39) (Operand.tmp 40), type := 0, pos := "ref.go:110", after := #[{ on := 17, ground := Ground.data }, { on := 18, ground := Ground.data }, { on := 11, ground := Ground.guard }], guard := some (11, true) }) (v := undef) rfl (by kernel_rfl) (by kernel_rfl) (by kernel_rfl) (fun _ _ _ h => h) (Or.inr ⟨by rfl, rfl⟩) (by assumption) ?_
            try simp only [Act.put, List.setIfInBounds_toArray, List.set_cons_zero, List.set_cons_succ]
            refine wpAnyH_take (i := 20) (oi := { dst := some 42, op := Op.load 9 (Operand.tmp 41), type := 9, pos := "ref.go:110", after := #[{ on := 19, ground := Ground.data }, { on := 11, ground := Ground.guard }], guard := some (11, true) }) (v := undef) rfl (by kernel_rfl) (by kernel_rfl) (by kernel_rfl) (fun _ _ _ h => h) (Or.inr ⟨by rfl, rfl⟩) (by assumption) ?_
            try simp only [Act.put, List.setIfInBounds_toArray, List.set_cons_zero, List.set_cons_succ]
            refine wpAnyH_take (i := 21) (oi := { dst := some 43, op := Op.call { callee := Callee.value (Operand.func 74), args := #[Operand.tmp 34, Operand.tmp 38, Operand.tmp 42], argTypes := #[29, 9, 9] }, type := 4, pos := "ref.go:110", after := #[{ on := 12, ground := Ground.data }, { on := 16, ground := Ground.data }, { on := 20, ground := Ground.data }, { on := 11, ground := Ground.chain }, { on := 11, ground := Ground.guard }], guard := some (11, true) }) (v := undef) rfl (by kernel_rfl) (by kernel_rfl) (by kernel_rfl) (fun _ _ _ h => h) (Or.inr ⟨by rfl, rfl⟩) (by assumption) ?_
            try simp only [Act.put, List.setIfInBounds_toArray, List.set_cons_zero, List.set_cons_succ]
            refine wpAnyH_take (i := 22) (oi := { dst := some 44, op := Op.pick (Operand.tmp 33) (Operand.tmp 43) (Operand.const (Value.bool false)), type := 4, pos := "ref.go:110", after := #[{ on := 11, ground := Ground.data }, { on := 21, ground := Ground.data }, { on := 1, ground := Ground.guard }], guard := some (1, false) }) (v := undef) rfl (by kernel_rfl) (by kernel_rfl) (by kernel_rfl) (fun _ _ _ h => h) (Or.inr ⟨by rfl, rfl⟩) (by assumption) ?_
            try simp only [Act.put, List.setIfInBounds_toArray, List.set_cons_zero, List.set_cons_succ]
            refine wpAnyH_take (i := 23) (oi := { dst := some 45, op := Op.pick (Operand.tmp 23) (Operand.const (Value.bool true)) (Operand.tmp 44), type := 4, pos := "ref.go:110", after := #[{ on := 1, ground := Ground.data }, { on := 22, ground := Ground.data }], guard := none }) (v := ?va23) rfl (by kernel_rfl) (by kernel_rfl) (by kernel_rfl) (fun _ _ _ h => h) (Or.inl ⟨by rfl, ?hya23⟩) (by assumption) ?resta23
            case hya23 => (intro w hSw; (try dsimp only at hSw); go_simp; (try with_reducible rfl))
            case' resta23 => skip
            try simp only [Act.put, List.setIfInBounds_toArray, List.set_cons_zero, List.set_cons_succ]
            refine wpAnyH_take (i := 24) (oi := { dst := some 7, op := Op.assign (Operand.tmp 45), type := 4, pos := "ref.go:110", after := #[{ on := 23, ground := Ground.data }, { on := 21, ground := Ground.chain }, { on := 0, ground := Ground.phase }, { on := 1, ground := Ground.phase }, { on := 2, ground := Ground.phase }, { on := 3, ground := Ground.phase }, { on := 4, ground := Ground.phase }, { on := 5, ground := Ground.phase }, { on := 6, ground := Ground.phase }, { on := 7, ground := Ground.phase }, { on := 8, ground := Ground.phase }, { on := 9, ground := Ground.phase }, { on := 10, ground := Ground.phase }, { on := 11, ground := Ground.phase }, { on := 12, ground := Ground.phase }, { on := 13, ground := Ground.phase }, { on := 14, ground := Ground.phase }, { on := 15, ground := Ground.phase }, { on := 16, ground := Ground.phase }, { on := 17, ground := Ground.phase }, { on := 18, ground := Ground.phase }, { on := 19, ground := Ground.phase }, { on := 20, ground := Ground.phase }, { on := 21, ground := Ground.phase }, { on := 22, ground := Ground.phase }, { on := 23, ground := Ground.phase }], guard := none }) (v := ?va24) rfl (by kernel_rfl) (by kernel_rfl) (by kernel_rfl) (fun _ _ _ h => h) (Or.inl ⟨by rfl, ?hya24⟩) (by assumption) ?resta24
            case hya24 => (intro w hSw; (try dsimp only at hSw); go_simp; (try with_reducible rfl))
            case' resta24 => skip
            try simp only [Act.put, List.setIfInBounds_toArray, List.set_cons_zero, List.set_cons_succ]
            refine wpAnyH_done (by kernel_rfl) ?_ _
            refine NoPanic.normal ?_
            go_wp2_with fail
            refine ⟨⟨q + 1, by simp only [Int.natCast_add, Int.natCast_one], by omega, by rw [HST.out], HQB.out.trans (hBD.out.mono HQB.out.size)⟩, ?_⟩
            show x.length - ((q : Int) + 1).toNat < x.length - ((q : Nat) : Int).toNat
            omega
          | false =>
            rw [Bool.false_or] at HST
            by_cases he : sq = sn
            · rw [decide_eq_true he] at hqe HST
              rw [Bool.not_true, Bool.false_and] at HST
              clear he
              refine wp_region_noPanic ?_
              refine wp_region_held_drew (S := (fun W => W.cell? ⟨b, off + n, none⟩ = some (.string sn) ∧ W.cell? ⟨b, off + q, none⟩ = some (.string sq) ∧ W.cell? ⟨ga, 0, none⟩ = some (.string nm) ∧ W.cell? ⟨ga, 1, none⟩ = some (.slice ca cs.length cc) ∧ W.cell? ⟨ga, 2, none⟩ = some (.slice ta tn tc) ∧ W.cell? ⟨ga, 3, none⟩ = some (.slice ra rn rc) ∧ W.cell? ⟨ga, 4, none⟩ = some (.slice oa on oc) ∧ W.cell? ⟨ga, 5, none⟩ = some (.slice ya yn yc) ∧ W.cell? ⟨ga, 6, none⟩ = some (.slice qa qn qc))) (by kernel_rfl) (by refine ⟨?_, ?_, ?_, ?_, ?_, ?_, ?_, ?_, ?_⟩ <;> assumption) (fun hHeld => ?_)
              refine wpAnyH_take (i := 0) (oi := { dst := some 22, op := Op.move (Operand.tmp 7), type := 4, pos := "ref.go:110", after := #[], guard := none }) (v := ?vb0) rfl (by kernel_rfl) (by kernel_rfl) (by kernel_rfl) (fun _ _ _ h => h) (Or.inl ⟨by rfl, ?hyb0⟩) (by assumption) ?restb0
              case hyb0 => (intro w hSw; (try dsimp only at hSw); go_simp; (try with_reducible rfl))
              case' restb0 => skip
              try simp only [Act.put, List.setIfInBounds_toArray, List.set_cons_zero, List.set_cons_succ]
              refine wpAnyH_take (i := 1) (oi := { dst := some 23, op := Op.move (Operand.tmp 22), type := 4, pos := "ref.go:110", after := #[{ on := 0, ground := Ground.data }], guard := none }) (v := ?vb1) rfl (by kernel_rfl) (by kernel_rfl) (by kernel_rfl) (fun _ _ _ h => h) (Or.inl ⟨by rfl, ?hyb1⟩) (by assumption) ?restb1
              case hyb1 => (intro w hSw; (try dsimp only at hSw); go_simp; (try with_reducible rfl))
              case' restb1 => skip
              try simp only [Act.put, List.setIfInBounds_toArray, List.set_cons_zero, List.set_cons_succ]
              refine wpAnyH_take (i := 2) (oi := { dst := some 24, op := Op.move (Operand.tmp 1), type := 27, pos := "ref.go:110", after := #[{ on := 1, ground := Ground.guard }], guard := some (1, false) }) (v := ?vb2) rfl (by kernel_rfl) (by kernel_rfl) (by kernel_rfl) (fun _ _ _ h => h) (Or.inl ⟨by rfl, ?hyb2⟩) (by assumption) ?restb2
              case hyb2 => (intro w hSw; (try dsimp only at hSw); go_simp; (try with_reducible rfl))
              case' restb2 => skip
              try simp only [Act.put, List.setIfInBounds_toArray, List.set_cons_zero, List.set_cons_succ]
              refine wpAnyH_take (i := 3) (oi := { dst := some 25, op := Op.move (Operand.tmp 8), type := 3, pos := "ref.go:110", after := #[{ on := 1, ground := Ground.guard }], guard := some (1, false) }) (v := ?vb3) rfl (by kernel_rfl) (by kernel_rfl) (by kernel_rfl) (fun _ _ _ h => h) (Or.inl ⟨by rfl, ?hyb3⟩) (by assumption) ?restb3
              case hyb3 => (intro w hSw; (try dsimp only at hSw); go_simp; (try with_reducible rfl))
              case' restb3 => skip
              try simp only [Act.put, List.setIfInBounds_toArray, List.set_cons_zero, List.set_cons_succ]
              refine wpAnyH_take (i := 4) (oi := { dst := some 26, op := Op.indexAddr 27 (Operand.tmp 24) (Operand.tmp 25), type := 0, pos := "ref.go:110", after := #[{ on := 2, ground := Ground.data }, { on := 3, ground := Ground.data }, { on := 1, ground := Ground.guard }], guard := some (1, false) }) (v := ?vb4) rfl (by kernel_rfl) (by kernel_rfl) (by kernel_rfl) (fun _ _ _ h => h) (Or.inl ⟨by rfl, ?hyb4⟩) (by assumption) ?restb4
              case hyb4 => (intro w hSw; (try dsimp only at hSw); go_simp; (try with_reducible rfl))
              case' restb4 => skip
              try simp only [Act.put, List.setIfInBounds_toArray, List.set_cons_zero, List.set_cons_succ]
              refine wpAnyH_take (i := 5) (oi := { dst := some 27, op := Op.load 9 (Operand.tmp 26), type := 9, pos := "ref.go:110", after := #[{ on := 4, ground := Ground.data }, { on := 1, ground := Ground.guard }], guard := some (1, false) }) (v := ?vb5) rfl (by kernel_rfl) (by kernel_rfl) (by kernel_rfl) (fun _ _ _ h => h) (Or.inl ⟨by rfl, ?hyb5⟩) (by assumption) ?restb5
              case hyb5 => (intro w hSw; (try dsimp only at hSw); go_simp; (try with_reducible rfl))
              case' restb5 => skip
              try simp only [Act.put, List.setIfInBounds_toArray, List.set_cons_zero, List.set_cons_succ]
              refine wpAnyH_take (i := 6) (oi := { dst := some 28, op := Op.move (Operand.tmp 1), type := 27, pos := "ref.go:110", after := #[{ on := 1, ground := Ground.guard }], guard := some (1, false) }) (v := ?vb6) rfl (by kernel_rfl) (by kernel_rfl) (by kernel_rfl) (fun _ _ _ h => h) (Or.inl ⟨by rfl, ?hyb6⟩) (by assumption) ?restb6
              case hyb6 => (intro w hSw; (try dsimp only at hSw); go_simp; (try with_reducible rfl))
              case' restb6 => skip
              try simp only [Act.put, List.setIfInBounds_toArray, List.set_cons_zero, List.set_cons_succ]
              refine wpAnyH_take (i := 7) (oi := { dst := some 29, op := Op.move (Operand.tmp 6), type := 3, pos := "ref.go:110", after := #[{ on := 1, ground := Ground.guard }], guard := some (1, false) }) (v := ?vb7) rfl (by kernel_rfl) (by kernel_rfl) (by kernel_rfl) (fun _ _ _ h => h) (Or.inl ⟨by rfl, ?hyb7⟩) (by assumption) ?restb7
              case hyb7 => (intro w hSw; (try dsimp only at hSw); go_simp; (try with_reducible rfl))
              case' restb7 => skip
              try simp only [Act.put, List.setIfInBounds_toArray, List.set_cons_zero, List.set_cons_succ]
              refine wpAnyH_take (i := 8) (oi := { dst := some 30, op := Op.indexAddr 27 (Operand.tmp 28) (Operand.tmp 29), type := 0, pos := "ref.go:110", after := #[{ on := 6, ground := Ground.data }, { on := 7, ground := Ground.data }, { on := 1, ground := Ground.guard }], guard := some (1, false) }) (v := ?vb8) rfl (by kernel_rfl) (by kernel_rfl) (by kernel_rfl) (fun _ _ _ h => h) (Or.inl ⟨by rfl, ?hyb8⟩) (by assumption) ?restb8
              case hyb8 => (intro w hSw; (try dsimp only at hSw); go_simp; (try with_reducible rfl))
              case' restb8 => skip
              try simp only [Act.put, List.setIfInBounds_toArray, List.set_cons_zero, List.set_cons_succ]
              refine wpAnyH_take (i := 9) (oi := { dst := some 31, op := Op.load 9 (Operand.tmp 30), type := 9, pos := "ref.go:110", after := #[{ on := 8, ground := Ground.data }, { on := 1, ground := Ground.guard }], guard := some (1, false) }) (v := ?vb9) rfl (by kernel_rfl) (by kernel_rfl) (by kernel_rfl) (fun _ _ _ h => h) (Or.inl ⟨by rfl, ?hyb9⟩) (by assumption) ?restb9
              case hyb9 => (intro w hSw; (try dsimp only at hSw); go_simp; (try with_reducible rfl))
              case' restb9 => skip
              try simp only [Act.put, List.setIfInBounds_toArray, List.set_cons_zero, List.set_cons_succ]
              refine wpAnyH_take (i := 10) (oi := { dst := some 32, op := Op.binOp BinOp.neq 9 (Operand.tmp 27) (Operand.tmp 31) 9, type := 4, pos := "ref.go:110", after := #[{ on := 5, ground := Ground.data }, { on := 9, ground := Ground.data }, { on := 1, ground := Ground.guard }], guard := some (1, false) }) (v := ?vb10) rfl (by kernel_rfl) (by kernel_rfl) (by kernel_rfl) (fun _ _ _ h => h) (Or.inl ⟨by rfl, ?hyb10⟩) (by assumption) ?restb10
              case hyb10 => (intro w hSw; (try dsimp only at hSw); go_simp; (try with_reducible rfl))
              case' restb10 => skip
              try simp only [Act.put, List.setIfInBounds_toArray, List.set_cons_zero, List.set_cons_succ]
              refine wpAnyH_take (i := 11) (oi := { dst := some 33, op := Op.move (Operand.tmp 32), type := 4, pos := "ref.go:110", after := #[{ on := 10, ground := Ground.data }, { on := 1, ground := Ground.chain }, { on := 1, ground := Ground.guard }], guard := some (1, false) }) (v := ?vb11) rfl (by kernel_rfl) (by kernel_rfl) (by kernel_rfl) (fun _ _ _ h => h) (Or.inl ⟨by rfl, ?hyb11⟩) (by assumption) ?restb11
              case hyb11 => (intro w hSw; (try dsimp only at hSw); go_simp; (try with_reducible rfl))
              case' restb11 => skip
              try simp only [Act.put, List.setIfInBounds_toArray, List.set_cons_zero, List.set_cons_succ]
              refine wpAnyH_take (i := 12) (oi := { dst := some 34, op := Op.load 29 (Operand.tmp 2), type := 29, pos := "ref.go:110", after := #[{ on := 11, ground := Ground.guard }], guard := some (11, true) }) (v := undef) rfl (by kernel_rfl) (by kernel_rfl) (by kernel_rfl) (fun _ _ _ h => h) (Or.inr ⟨by rfl, rfl⟩) (by assumption) ?_
              try simp only [Act.put, List.setIfInBounds_toArray, List.set_cons_zero, List.set_cons_succ]
              refine wpAnyH_take (i := 13) (oi := { dst := some 35, op := Op.move (Operand.tmp 1), type := 27, pos := "ref.go:110", after := #[{ on := 11, ground := Ground.guard }], guard := some (11, true) }) (v := undef) rfl (by kernel_rfl) (by kernel_rfl) (by kernel_rfl) (fun _ _ _ h => h) (Or.inr ⟨by rfl, rfl⟩) (by assumption) ?_
              try simp only [Act.put, List.setIfInBounds_toArray, List.set_cons_zero, List.set_cons_succ]
              refine wpAnyH_take (i := 14) (oi := { dst := some 36, op := Op.move (Operand.tmp 8), type := 3, pos := "ref.go:110", after := #[{ on := 11, ground := Ground.guard }], guard := some (11, true) }) (v := undef) rfl (by kernel_rfl) (by kernel_rfl) (by kernel_rfl) (fun _ _ _ h => h) (Or.inr ⟨by rfl, rfl⟩) (by assumption) ?_
              try simp only [Act.put, List.setIfInBounds_toArray, List.set_cons_zero, List.set_cons_succ]
              refine wpAnyH_take (i := 15) (oi := { dst := some 37, op := Op.indexAddr 27 (Operand.tmp 35) (Operand.tmp 36), type := 0, pos := "ref.go:110", after := #[{ on := 13, ground := Ground.data }, { on := 14, ground := Ground.data }, { on := 11, ground := Ground.guard }], guard := some (11, true) }) (v := undef) rfl (by kernel_rfl) (by kernel_rfl) (by kernel_rfl) (fun _ _ _ h => h) (Or.inr ⟨by rfl, rfl⟩) (by assumption) ?_
              try simp only [Act.put, List.setIfInBounds_toArray, List.set_cons_zero, List.set_cons_succ]
              refine wpAnyH_take (i := 16) (oi := { dst := some 38, op := Op.load 9 (Operand.tmp 37), type := 9, pos := "ref.go:110", after := #[{ on := 15, ground := Ground.data }, { on := 11, ground := Ground.guard }], guard := some (11, true) }) (v := undef) rfl (by kernel_rfl) (by kernel_rfl) (by kernel_rfl) (fun _ _ _ h => h) (Or.inr ⟨by rfl, rfl⟩) (by assumption) ?_
              try simp only [Act.put, List.setIfInBounds_toArray, List.set_cons_zero, List.set_cons_succ]
              refine wpAnyH_take (i := 17) (oi := { dst := some 39, op := Op.move (Operand.tmp 1), type := 27, pos := "ref.go:110", after := #[{ on := 11, ground := Ground.guard }], guard := some (11, true) }) (v := undef) rfl (by kernel_rfl) (by kernel_rfl) (by kernel_rfl) (fun _ _ _ h => h) (Or.inr ⟨by rfl, rfl⟩) (by assumption) ?_
              try simp only [Act.put, List.setIfInBounds_toArray, List.set_cons_zero, List.set_cons_succ]
              refine wpAnyH_take (i := 18) (oi := { dst := some 40, op := Op.move (Operand.tmp 6), type := 3, pos := "ref.go:110", after := #[{ on := 11, ground := Ground.guard }], guard := some (11, true) }) (v := undef) rfl (by kernel_rfl) (by kernel_rfl) (by kernel_rfl) (fun _ _ _ h => h) (Or.inr ⟨by rfl, rfl⟩) (by assumption) ?_
              try simp only [Act.put, List.setIfInBounds_toArray, List.set_cons_zero, List.set_cons_succ]
              refine wpAnyH_take (i := 19) (oi := { dst := some 41, op := Op.indexAddr 27 (Operand.tmp 39) (Operand.tmp 40), type := 0, pos := "ref.go:110", after := #[{ on := 17, ground := Ground.data }, { on := 18, ground := Ground.data }, { on := 11, ground := Ground.guard }], guard := some (11, true) }) (v := undef) rfl (by kernel_rfl) (by kernel_rfl) (by kernel_rfl) (fun _ _ _ h => h) (Or.inr ⟨by rfl, rfl⟩) (by assumption) ?_
              try simp only [Act.put, List.setIfInBounds_toArray, List.set_cons_zero, List.set_cons_succ]
              refine wpAnyH_take (i := 20) (oi := { dst := some 42, op := Op.load 9 (Operand.tmp 41), type := 9, pos := "ref.go:110", after := #[{ on := 19, ground := Ground.data }, { on := 11, ground := Ground.guard }], guard := some (11, true) }) (v := undef) rfl (by kernel_rfl) (by kernel_rfl) (by kernel_rfl) (fun _ _ _ h => h) (Or.inr ⟨by rfl, rfl⟩) (by assumption) ?_
              try simp only [Act.put, List.setIfInBounds_toArray, List.set_cons_zero, List.set_cons_succ]
              refine wpAnyH_take (i := 21) (oi := { dst := some 43, op := Op.call { callee := Callee.value (Operand.func 74), args := #[Operand.tmp 34, Operand.tmp 38, Operand.tmp 42], argTypes := #[29, 9, 9] }, type := 4, pos := "ref.go:110", after := #[{ on := 12, ground := Ground.data }, { on := 16, ground := Ground.data }, { on := 20, ground := Ground.data }, { on := 11, ground := Ground.chain }, { on := 11, ground := Ground.guard }], guard := some (11, true) }) (v := undef) rfl (by kernel_rfl) (by kernel_rfl) (by kernel_rfl) (fun _ _ _ h => h) (Or.inr ⟨by rfl, rfl⟩) (by assumption) ?_
              try simp only [Act.put, List.setIfInBounds_toArray, List.set_cons_zero, List.set_cons_succ]
              refine wpAnyH_take (i := 22) (oi := { dst := some 44, op := Op.pick (Operand.tmp 33) (Operand.tmp 43) (Operand.const (Value.bool false)), type := 4, pos := "ref.go:110", after := #[{ on := 11, ground := Ground.data }, { on := 21, ground := Ground.data }, { on := 1, ground := Ground.guard }], guard := some (1, false) }) (v := ?vb22) rfl (by kernel_rfl) (by kernel_rfl) (by kernel_rfl) (fun _ _ _ h => h) (Or.inl ⟨by rfl, ?hyb22⟩) (by assumption) ?restb22
              case hyb22 => (intro w hSw; (try dsimp only at hSw); go_simp; (try with_reducible rfl))
              case' restb22 => skip
              try simp only [Act.put, List.setIfInBounds_toArray, List.set_cons_zero, List.set_cons_succ]
              refine wpAnyH_take (i := 23) (oi := { dst := some 45, op := Op.pick (Operand.tmp 23) (Operand.const (Value.bool true)) (Operand.tmp 44), type := 4, pos := "ref.go:110", after := #[{ on := 1, ground := Ground.data }, { on := 22, ground := Ground.data }], guard := none }) (v := ?vb23) rfl (by kernel_rfl) (by kernel_rfl) (by kernel_rfl) (fun _ _ _ h => h) (Or.inl ⟨by rfl, ?hyb23⟩) (by assumption) ?restb23
              case hyb23 => (intro w hSw; (try dsimp only at hSw); go_simp; (try with_reducible rfl))
              case' restb23 => skip
              try simp only [Act.put, List.setIfInBounds_toArray, List.set_cons_zero, List.set_cons_succ]
              refine wpAnyH_take (i := 24) (oi := { dst := some 7, op := Op.assign (Operand.tmp 45), type := 4, pos := "ref.go:110", after := #[{ on := 23, ground := Ground.data }, { on := 21, ground := Ground.chain }, { on := 0, ground := Ground.phase }, { on := 1, ground := Ground.phase }, { on := 2, ground := Ground.phase }, { on := 3, ground := Ground.phase }, { on := 4, ground := Ground.phase }, { on := 5, ground := Ground.phase }, { on := 6, ground := Ground.phase }, { on := 7, ground := Ground.phase }, { on := 8, ground := Ground.phase }, { on := 9, ground := Ground.phase }, { on := 10, ground := Ground.phase }, { on := 11, ground := Ground.phase }, { on := 12, ground := Ground.phase }, { on := 13, ground := Ground.phase }, { on := 14, ground := Ground.phase }, { on := 15, ground := Ground.phase }, { on := 16, ground := Ground.phase }, { on := 17, ground := Ground.phase }, { on := 18, ground := Ground.phase }, { on := 19, ground := Ground.phase }, { on := 20, ground := Ground.phase }, { on := 21, ground := Ground.phase }, { on := 22, ground := Ground.phase }, { on := 23, ground := Ground.phase }], guard := none }) (v := ?vb24) rfl (by kernel_rfl) (by kernel_rfl) (by kernel_rfl) (fun _ _ _ h => h) (Or.inl ⟨by rfl, ?hyb24⟩) (by assumption) ?restb24
              case hyb24 => (intro w hSw; (try dsimp only at hSw); go_simp; (try with_reducible rfl))
              case' restb24 => skip
              try simp only [Act.put, List.setIfInBounds_toArray, List.set_cons_zero, List.set_cons_succ]
              refine wpAnyH_done (by kernel_rfl) ?_ _
              refine NoPanic.normal ?_
              go_wp2_with fail
              refine ⟨⟨q + 1, by simp only [Int.natCast_add, Int.natCast_one], by omega, by rw [HST.out], HQB.out.trans (hBD.out.mono HQB.out.size)⟩, ?_⟩
              show x.length - ((q : Int) + 1).toNat < x.length - ((q : Nat) : Int).toNat
              omega
            · rw [decide_eq_false he] at hqe HST
              rw [Bool.not_false, Bool.true_and] at HST
              clear he
              obtain ⟨bv, hbv⟩ : ∃ v, belowB cs sq sn = v := ⟨_, rfl⟩
              rw [hbv] at HST
              have HBV := Lib.hid hbv
              clear hbv
              have HTD := Lib.hid (HTR.out.later hBD.out)
              refine wp_region_noPanic ?_
              refine wp_region_held_drew (S := (fun W => W.cell? ⟨b, off + n, none⟩ = some (.string sn) ∧ W.cell? ⟨b, off + q, none⟩ = some (.string sq) ∧ W.cell? ⟨ga, 0, none⟩ = some (.string nm) ∧ W.cell? ⟨ga, 1, none⟩ = some (.slice ca cs.length cc) ∧ W.cell? ⟨ga, 2, none⟩ = some (.slice ta tn tc) ∧ W.cell? ⟨ga, 3, none⟩ = some (.slice ra rn rc) ∧ W.cell? ⟨ga, 4, none⟩ = some (.slice oa on oc) ∧ W.cell? ⟨ga, 5, none⟩ = some (.slice ya yn yc) ∧ W.cell? ⟨ga, 6, none⟩ = some (.slice qa qn qc))) (by kernel_rfl) (by refine ⟨?_, ?_, ?_, ?_, ?_, ?_, ?_, ?_, ?_⟩ <;> assumption) (fun hHeld => ?_)
              refine wpAnyH_take (i := 0) (oi := { dst := some 22, op := Op.move (Operand.tmp 7), type := 4, pos := "ref.go:110", after := #[], guard := none }) (v := ?vc0) rfl (by kernel_rfl) (by kernel_rfl) (by kernel_rfl) (fun _ _ _ h => h) (Or.inl ⟨by rfl, ?hyc0⟩) (by assumption) ?restc0
              case hyc0 => (intro w hSw; (try dsimp only at hSw); go_simp; (try with_reducible rfl))
              case' restc0 => skip
              try simp only [Act.put, List.setIfInBounds_toArray, List.set_cons_zero, List.set_cons_succ]
              refine wpAnyH_take (i := 1) (oi := { dst := some 23, op := Op.move (Operand.tmp 22), type := 4, pos := "ref.go:110", after := #[{ on := 0, ground := Ground.data }], guard := none }) (v := ?vc1) rfl (by kernel_rfl) (by kernel_rfl) (by kernel_rfl) (fun _ _ _ h => h) (Or.inl ⟨by rfl, ?hyc1⟩) (by assumption) ?restc1
              case hyc1 => (intro w hSw; (try dsimp only at hSw); go_simp; (try with_reducible rfl))
              case' restc1 => skip
              try simp only [Act.put, List.setIfInBounds_toArray, List.set_cons_zero, List.set_cons_succ]
              refine wpAnyH_take (i := 2) (oi := { dst := some 24, op := Op.move (Operand.tmp 1), type := 27, pos := "ref.go:110", after := #[{ on := 1, ground := Ground.guard }], guard := some (1, false) }) (v := ?vc2) rfl (by kernel_rfl) (by kernel_rfl) (by kernel_rfl) (fun _ _ _ h => h) (Or.inl ⟨by rfl, ?hyc2⟩) (by assumption) ?restc2
              case hyc2 => (intro w hSw; (try dsimp only at hSw); go_simp; (try with_reducible rfl))
              case' restc2 => skip
              try simp only [Act.put, List.setIfInBounds_toArray, List.set_cons_zero, List.set_cons_succ]
              refine wpAnyH_take (i := 3) (oi := { dst := some 25, op := Op.move (Operand.tmp 8), type := 3, pos := "ref.go:110", after := #[{ on := 1, ground := Ground.guard }], guard := some (1, false) }) (v := ?vc3) rfl (by kernel_rfl) (by kernel_rfl) (by kernel_rfl) (fun _ _ _ h => h) (Or.inl ⟨by rfl, ?hyc3⟩) (by assumption) ?restc3
              case hyc3 => (intro w hSw; (try dsimp only at hSw); go_simp; (try with_reducible rfl))
              case' restc3 => skip
              try simp only [Act.put, List.setIfInBounds_toArray, List.set_cons_zero, List.set_cons_succ]
              refine wpAnyH_take (i := 4) (oi := { dst := some 26, op := Op.indexAddr 27 (Operand.tmp 24) (Operand.tmp 25), type := 0, pos := "ref.go:110", after := #[{ on := 2, ground := Ground.data }, { on := 3, ground := Ground.data }, { on := 1, ground := Ground.guard }], guard := some (1, false) }) (v := ?vc4) rfl (by kernel_rfl) (by kernel_rfl) (by kernel_rfl) (fun _ _ _ h => h) (Or.inl ⟨by rfl, ?hyc4⟩) (by assumption) ?restc4
              case hyc4 => (intro w hSw; (try dsimp only at hSw); go_simp; (try with_reducible rfl))
              case' restc4 => skip
              try simp only [Act.put, List.setIfInBounds_toArray, List.set_cons_zero, List.set_cons_succ]
              refine wpAnyH_take (i := 5) (oi := { dst := some 27, op := Op.load 9 (Operand.tmp 26), type := 9, pos := "ref.go:110", after := #[{ on := 4, ground := Ground.data }, { on := 1, ground := Ground.guard }], guard := some (1, false) }) (v := ?vc5) rfl (by kernel_rfl) (by kernel_rfl) (by kernel_rfl) (fun _ _ _ h => h) (Or.inl ⟨by rfl, ?hyc5⟩) (by assumption) ?restc5
              case hyc5 => (intro w hSw; (try dsimp only at hSw); go_simp; (try with_reducible rfl))
              case' restc5 => skip
              try simp only [Act.put, List.setIfInBounds_toArray, List.set_cons_zero, List.set_cons_succ]
              refine wpAnyH_take (i := 6) (oi := { dst := some 28, op := Op.move (Operand.tmp 1), type := 27, pos := "ref.go:110", after := #[{ on := 1, ground := Ground.guard }], guard := some (1, false) }) (v := ?vc6) rfl (by kernel_rfl) (by kernel_rfl) (by kernel_rfl) (fun _ _ _ h => h) (Or.inl ⟨by rfl, ?hyc6⟩) (by assumption) ?restc6
              case hyc6 => (intro w hSw; (try dsimp only at hSw); go_simp; (try with_reducible rfl))
              case' restc6 => skip
              try simp only [Act.put, List.setIfInBounds_toArray, List.set_cons_zero, List.set_cons_succ]
              refine wpAnyH_take (i := 7) (oi := { dst := some 29, op := Op.move (Operand.tmp 6), type := 3, pos := "ref.go:110", after := #[{ on := 1, ground := Ground.guard }], guard := some (1, false) }) (v := ?vc7) rfl (by kernel_rfl) (by kernel_rfl) (by kernel_rfl) (fun _ _ _ h => h) (Or.inl ⟨by rfl, ?hyc7⟩) (by assumption) ?restc7
              case hyc7 => (intro w hSw; (try dsimp only at hSw); go_simp; (try with_reducible rfl))
              case' restc7 => skip
              try simp only [Act.put, List.setIfInBounds_toArray, List.set_cons_zero, List.set_cons_succ]
              refine wpAnyH_take (i := 8) (oi := { dst := some 30, op := Op.indexAddr 27 (Operand.tmp 28) (Operand.tmp 29), type := 0, pos := "ref.go:110", after := #[{ on := 6, ground := Ground.data }, { on := 7, ground := Ground.data }, { on := 1, ground := Ground.guard }], guard := some (1, false) }) (v := ?vc8) rfl (by kernel_rfl) (by kernel_rfl) (by kernel_rfl) (fun _ _ _ h => h) (Or.inl ⟨by rfl, ?hyc8⟩) (by assumption) ?restc8
              case hyc8 => (intro w hSw; (try dsimp only at hSw); go_simp; (try with_reducible rfl))
              case' restc8 => skip
              try simp only [Act.put, List.setIfInBounds_toArray, List.set_cons_zero, List.set_cons_succ]
              refine wpAnyH_take (i := 9) (oi := { dst := some 31, op := Op.load 9 (Operand.tmp 30), type := 9, pos := "ref.go:110", after := #[{ on := 8, ground := Ground.data }, { on := 1, ground := Ground.guard }], guard := some (1, false) }) (v := ?vc9) rfl (by kernel_rfl) (by kernel_rfl) (by kernel_rfl) (fun _ _ _ h => h) (Or.inl ⟨by rfl, ?hyc9⟩) (by assumption) ?restc9
              case hyc9 => (intro w hSw; (try dsimp only at hSw); go_simp; (try with_reducible rfl))
              case' restc9 => skip
              try simp only [Act.put, List.setIfInBounds_toArray, List.set_cons_zero, List.set_cons_succ]
              refine wpAnyH_take (i := 10) (oi := { dst := some 32, op := Op.binOp BinOp.neq 9 (Operand.tmp 27) (Operand.tmp 31) 9, type := 4, pos := "ref.go:110", after := #[{ on := 5, ground := Ground.data }, { on := 9, ground := Ground.data }, { on := 1, ground := Ground.guard }], guard := some (1, false) }) (v := ?vc10) rfl (by kernel_rfl) (by kernel_rfl) (by kernel_rfl) (fun _ _ _ h => h) (Or.inl ⟨by rfl, ?hyc10⟩) (by assumption) ?restc10
              case hyc10 => (intro w hSw; (try dsimp only at hSw); go_simp; (try with_reducible rfl))
              case' restc10 => skip
              try simp only [Act.put, List.setIfInBounds_toArray, List.set_cons_zero, List.set_cons_succ]
              refine wpAnyH_take (i := 11) (oi := { dst := some 33, op := Op.move (Operand.tmp 32), type := 4, pos := "ref.go:110", after := #[{ on := 10, ground := Ground.data }, { on := 1, ground := Ground.chain }, { on := 1, ground := Ground.guard }], guard := some (1, false) }) (v := ?vc11) rfl (by kernel_rfl) (by kernel_rfl) (by kernel_rfl) (fun _ _ _ h => h) (Or.inl ⟨by rfl, ?hyc11⟩) (by assumption) ?restc11
              case hyc11 => (intro w hSw; (try dsimp only at hSw); go_simp; (try with_reducible rfl))
              case' restc11 => skip
              try simp only [Act.put, List.setIfInBounds_toArray, List.set_cons_zero, List.set_cons_succ]
              refine wpAnyH_take (i := 12) (oi := { dst := some 34, op := Op.load 29 (Operand.tmp 2), type := 29, pos := "ref.go:110", after := #[{ on := 11, ground := Ground.guard }], guard := some (11, true) }) (v := ?vc12) rfl (by kernel_rfl) (by kernel_rfl) (by kernel_rfl) (fun _ _ _ h => h) (Or.inl ⟨by rfl, ?hyc12⟩) (by assumption) ?restc12
              case hyc12 => (intro w hSw; (try dsimp only at hSw); go_simp; (try with_reducible rfl))
              case' restc12 => skip
              try simp only [Act.put, List.setIfInBounds_toArray, List.set_cons_zero, List.set_cons_succ]
              refine wpAnyH_take (i := 13) (oi := { dst := some 35, op := Op.move (Operand.tmp 1), type := 27, pos := "ref.go:110", after := #[{ on := 11, ground := Ground.guard }], guard := some (11, true) }) (v := ?vc13) rfl (by kernel_rfl) (by kernel_rfl) (by kernel_rfl) (fun _ _ _ h => h) (Or.inl ⟨by rfl, ?hyc13⟩) (by assumption) ?restc13
              case hyc13 => (intro w hSw; (try dsimp only at hSw); go_simp; (try with_reducible rfl))
              case' restc13 => skip
              try simp only [Act.put, List.setIfInBounds_toArray, List.set_cons_zero, List.set_cons_succ]
              refine wpAnyH_take (i := 14) (oi := { dst := some 36, op := Op.move (Operand.tmp 8), type := 3, pos := "ref.go:110", after := #[{ on := 11, ground := Ground.guard }], guard := some (11, true) }) (v := ?vc14) rfl (by kernel_rfl) (by kernel_rfl) (by kernel_rfl) (fun _ _ _ h => h) (Or.inl ⟨by rfl, ?hyc14⟩) (by assumption) ?restc14
              case hyc14 => (intro w hSw; (try dsimp only at hSw); go_simp; (try with_reducible rfl))
              case' restc14 => skip
              try simp only [Act.put, List.setIfInBounds_toArray, List.set_cons_zero, List.set_cons_succ]
              refine wpAnyH_take (i := 15) (oi := { dst := some 37, op := Op.indexAddr 27 (Operand.tmp 35) (Operand.tmp 36), type := 0, pos := "ref.go:110", after := #[{ on := 13, ground := Ground.data }, { on := 14, ground := Ground.data }, { on := 11, ground := Ground.guard }], guard := some (11, true) }) (v := ?vc15) rfl (by kernel_rfl) (by kernel_rfl) (by kernel_rfl) (fun _ _ _ h => h) (Or.inl ⟨by rfl, ?hyc15⟩) (by assumption) ?restc15
              case hyc15 => (intro w hSw; (try dsimp only at hSw); go_simp; (try with_reducible rfl))
              case' restc15 => skip
              try simp only [Act.put, List.setIfInBounds_toArray, List.set_cons_zero, List.set_cons_succ]
              refine wpAnyH_take (i := 16) (oi := { dst := some 38, op := Op.load 9 (Operand.tmp 37), type := 9, pos := "ref.go:110", after := #[{ on := 15, ground := Ground.data }, { on := 11, ground := Ground.guard }], guard := some (11, true) }) (v := ?vc16) rfl (by kernel_rfl) (by kernel_rfl) (by kernel_rfl) (fun _ _ _ h => h) (Or.inl ⟨by rfl, ?hyc16⟩) (by assumption) ?restc16
              case hyc16 => (intro w hSw; (try dsimp only at hSw); go_simp; (try with_reducible rfl))
              case' restc16 => skip
              try simp only [Act.put, List.setIfInBounds_toArray, List.set_cons_zero, List.set_cons_succ]
              refine wpAnyH_take (i := 17) (oi := { dst := some 39, op := Op.move (Operand.tmp 1), type := 27, pos := "ref.go:110", after := #[{ on := 11, ground := Ground.guard }], guard := some (11, true) }) (v := ?vc17) rfl (by kernel_rfl) (by kernel_rfl) (by kernel_rfl) (fun _ _ _ h => h) (Or.inl ⟨by rfl, ?hyc17⟩) (by assumption) ?restc17
              case hyc17 => (intro w hSw; (try dsimp only at hSw); go_simp; (try with_reducible rfl))
              case' restc17 => skip
              try simp only [Act.put, List.setIfInBounds_toArray, List.set_cons_zero, List.set_cons_succ]
              refine wpAnyH_take (i := 18) (oi := { dst := some 40, op := Op.move (Operand.tmp 6), type := 3, pos := "ref.go:110", after := #[{ on := 11, ground := Ground.guard }], guard := some (11, true) }) (v := ?vc18) rfl (by kernel_rfl) (by kernel_rfl) (by kernel_rfl) (fun _ _ _ h => h) (Or.inl ⟨by rfl, ?hyc18⟩) (by assumption) ?restc18
              case hyc18 => (intro w hSw; (try dsimp only at hSw); go_simp; (try with_reducible rfl))
              case' restc18 => skip
              try simp only [Act.put, List.setIfInBounds_toArray, List.set_cons_zero, List.set_cons_succ]
              refine wpAnyH_take (i := 19) (oi := { dst := some 41, op := Op.indexAddr 27 (Operand.tmp 39) (Operand.tmp 40), type := 0, pos := "ref.go:110", after := #[{ on := 17, ground := Ground.data }, { on := 18, ground := Ground.data }, { on := 11, ground := Ground.guard }], guard := some (11, true) }) (v := ?vc19) rfl (by kernel_rfl) (by kernel_rfl) (by kernel_rfl) (fun _ _ _ h => h) (Or.inl ⟨by rfl, ?hyc19⟩) (by assumption) ?restc19
              case hyc19 => (intro w hSw; (try dsimp only at hSw); go_simp; (try with_reducible rfl))
              case' restc19 => skip
              try simp only [Act.put, List.setIfInBounds_toArray, List.set_cons_zero, List.set_cons_succ]
              refine wpAnyH_take (i := 20) (oi := { dst := some 42, op := Op.load 9 (Operand.tmp 41), type := 9, pos := "ref.go:110", after := #[{ on := 19, ground := Ground.data }, { on := 11, ground := Ground.guard }], guard := some (11, true) }) (v := ?vc20) rfl (by kernel_rfl) (by kernel_rfl) (by kernel_rfl) (fun _ _ _ h => h) (Or.inl ⟨by rfl, ?hyc20⟩) (by assumption) ?restc20
              case hyc20 => (intro w hSw; (try dsimp only at hSw); go_simp; (try with_reducible rfl))
              case' restc20 => skip
              try simp only [Act.put, List.setIfInBounds_toArray, List.set_cons_zero, List.set_cons_succ]
              refine wpAnyH_ready (rs := [21]) (by kernel_rfl) (by simp) ?_
              refine AllReadyH.cons (o := { dst := some 43, op := Op.call { callee := Callee.value (Operand.func 74), args := #[Operand.tmp 34, Operand.tmp 38, Operand.tmp 42], argTypes := #[29, 9, 9] }, type := 4, pos := "ref.go:110", after := #[{ on := 12, ground := Ground.data }, { on := 16, ground := Ground.data }, { on := 20, ground := Ground.data }, { on := 11, ground := Ground.chain }, { on := 11, ground := Ground.guard }], guard := some (11, true) }) rfl (fun K hK => ?_) AllReadyH.nil
              go_simp
              go_at_call 74
              refine (refUnder_any sq sn wr.drew HTD.out.cla HTD.out.thy.cls hcl HO.out HKQ.out HKN.out HZQ.out HZN.out).mono ?_
              rw [HBV.out]
              rintro e w9 ⟨rfl, hb9⟩
              have HB9 := Lib.hid (hBD.out.trans (hb9.mono hBD.out.size))
              obtain ⟨k0, k1, k2, k3, k4, k5, k6⟩ := (HTD.out.later hb9).cells
              have k7 := (HB9.out.cell (p := ⟨b, off + n, none⟩) HLB.out).trans HCN.out
              have k8 := (HB9.out.cell (p := ⟨b, off + q, none⟩) HLB.out).trans HCQ.out
              clear hb9
              try go_wp2_with fail
              refine hK.out _ _ ?_ (fun hHeld => ?_)
              · refine ⟨?_, ?_, ?_, ?_, ?_, ?_, ?_, ?_, ?_⟩ <;> assumption
              clear hK K
              try simp only [Act.put, List.setIfInBounds_toArray, List.set_cons_zero, List.set_cons_succ]
              refine wpAnyH_take (i := 22) (oi := { dst := some 44, op := Op.pick (Operand.tmp 33) (Operand.tmp 43) (Operand.const (Value.bool false)), type := 4, pos := "ref.go:110", after := #[{ on := 11, ground := Ground.data }, { on := 21, ground := Ground.data }, { on := 1, ground := Ground.guard }], guard := some (1, false) }) (v := ?vc22) rfl (by kernel_rfl) (by kernel_rfl) (by kernel_rfl) (fun _ _ _ h => h) (Or.inl ⟨by rfl, ?hyc22⟩) (by assumption) ?restc22
              case hyc22 => (intro w hSw; (try dsimp only at hSw); go_simp; (try with_reducible rfl))
              case' restc22 => skip
              try simp only [Act.put, List.setIfInBounds_toArray, List.set_cons_zero, List.set_cons_succ]
              refine wpAnyH_take (i := 23) (oi := { dst := some 45, op := Op.pick (Operand.tmp 23) (Operand.const (Value.bool true)) (Operand.tmp 44), type := 4, pos := "ref.go:110", after := #[{ on := 1, ground := Ground.data }, { on := 22, ground := Ground.data }], guard := none }) (v := ?vc23) rfl (by kernel_rfl) (by kernel_rfl) (by kernel_rfl) (fun _ _ _ h => h) (Or.inl ⟨by rfl, ?hyc23⟩) (by assumption) ?restc23
              case hyc23 => (intro w hSw; (try dsimp only at hSw); go_simp; (try with_reducible rfl))
              case' restc23 => skip
              try simp only [Act.put, List.setIfInBounds_toArray, List.set_cons_zero, List.set_cons_succ]
              refine wpAnyH_take (i := 24) (oi := { dst := some 7, op := Op.assign (Operand.tmp 45), type := 4, pos := "ref.go:110", after := #[{ on := 23, ground := Ground.data }, { on := 21, ground := Ground.chain }, { on := 0, ground := Ground.phase }, { on := 1, ground := Ground.phase }, { on := 2, ground := Ground.phase }, { on := 3, ground := Ground.phase }, { on := 4, ground := Ground.phase }, { on := 5, ground := Ground.phase }, { on := 6, ground := Ground.phase }, { on := 7, ground := Ground.phase }, { on := 8, ground := Ground.phase }, { on := 9, ground := Ground.phase }, { on := 10, ground := Ground.phase }, { on := 11, ground := Ground.phase }, { on := 12, ground := Ground.phase }, { on := 13, ground := Ground.phase }, { on := 14, ground := Ground.phase }, { on := 15, ground := Ground.phase }, { on := 16, ground := Ground.phase }, { on := 17, ground := Ground.phase }, { on := 18, ground := Ground.phase }, { on := 19, ground := Ground.phase }, { on := 20, ground := Ground.phase }, { on := 21, ground := Ground.phase }, { on := 22, ground := Ground.phase }, { on := 23, ground := Ground.phase }], guard := none }) (v := ?vc24) rfl (by kernel_rfl) (by kernel_rfl) (by kernel_rfl) (fun _ _ _ h => h) (Or.inl ⟨by rfl, ?hyc24⟩) (by assumption) ?restc24
              case hyc24 => (intro w hSw; (try dsimp only at hSw); go_simp; (try with_reducible rfl))
              case' restc24 => skip
              try simp only [Act.put, List.setIfInBounds_toArray, List.set_cons_zero, List.set_cons_succ]
              refine wpAnyH_done (by kernel_rfl) ?_ _
              refine NoPanic.normal ?_
              go_wp2_with fail
              refine ⟨⟨q + 1, by simp only [Int.natCast_add, Int.natCast_one], by omega, by rw [HST.out], HQB.out.trans (HB9.out.mono HQB.out.size)⟩, ?_⟩
              show x.length - ((q : Int) + 1).toNat < x.length - ((q : Nat) : Int).toNat
              omega
        · have ht : x.take q = x := List.take_of_length_le (by omega)
          have hdr : x.drop n = x[n] :: x.drop (n + 1) := List.drop_eq_getElem_cons hlt
          have hlf := HLF.out
          rw [hdr] at hlf
          unfold leastFrom at hlf
          have HBW := Lib.hid (HB.out.trans (HQB.out.mono HB.out.size))
          have HOW' := Lib.hid (own_later HOW.out HQB.out)
          rw [ht] at ⊢
          cases hd : dropB (belowB cs) x x[n] with
          | true =>
            rw [hd, if_pos rfl] at hlf
            have HLF' := Lib.hid hlf
            clear hd hlf ht hdr
            go_wp2_with fail
            refine ⟨⟨n + 1, o, by simp only [Int.natCast_add, Int.natCast_one], by omega, HLF'.out, by omega, HOS.out, HOW'.out, HBW.out⟩, ?_⟩
            show x.length - ((n : Int) + 1).toNat < x.length - ((n : Nat) : Int).toNat
            omega
          | false =>
            rw [hd, if_neg (by simp)] at hlf
            have HLF' := Lib.hid hlf
            obtain ⟨b, off, hxa, hxs0, _⟩ := HX.out
            have hxs := hxs0.later HBW.out
            have e := hxa (by intro e; subst e; simp at hlt)
            subst e
            have cn := hxs.cell n hlt
            have HZN := Lib.hid (HSZ.out _ (List.getElem_mem hlt))
            have HMN := Lib.hid (List.getElem_mem hlt)
            obtain ⟨sn, hsn⟩ : ∃ s, x[n] = s := ⟨_, rfl⟩
            rw [hsn] at cn HZN HLF' HMN
            obtain ⟨a7, c7, hv7, hs7⟩ := sortAt_own HOW'.out (fun z hz => HSZ.out z (HOS.out z hz)) (by omega)
            cases hv7
            have HPUT := Lib.hid (refPut_any (xc := oc') sn wr hs7 (by omega) HZN.out)
            clear hd hlf ht hdr hxs hxs0 hxa hsn hs7
            go_wp2_with fail
            refine HPUT.out.mono ?_
            rintro e w9 ⟨v9, rfl, ho9, hb9⟩
            have HO9 := Lib.hid ho9
            have HB9 := Lib.hid (HBW.out.trans (hb9.mono HBW.out.size))
            obtain ⟨a9, c9, rfl⟩ := own_slice ho9
            have hpl := putL_len sn o
            have HGW := Lib.hid (show ga ≤ wr.heap.size from by have := HGA.out; have := HB0.out.size; have := HBW.out.size; omega)
            clear ho9 hb9
            go_wp2_with fail
            refine ⟨⟨n + 1, putL sn o, by simp only [Int.natCast_add, Int.natCast_one], by omega, HLF'.out, by omega, fun z hz => ?_, own_mono HO9.out HGW.out, HB9.out⟩, ?_⟩
            · rcases (putL_mem sn o z).1 hz with rfl | hz
              · exact HMN.out
              · exact HOS.out z hz
            · show x.length - ((n : Int) + 1).toNat < x.length - ((n : Nat) : Int).toNat
              omega
    · have hd : x.drop n = [] := List.drop_eq_nil_of_le (by omega)
      have hlf := HLF.out
      rw [hd] at hlf
      unfold leastFrom at hlf
      subst hlf
      go_wp2_with fail
      go_ret
      refine ⟨_, rfl, ?_, HB0.out.trans (HB.out.mono HB0.out.size)⟩
      rw [HL.out, ← HGA.out.symm]
      exact HOW.out
end Go.Proofs.Ytlaibimdkamcfaa
end

section
/-
  The reference's IsNormal.
-/
namespace Go.Proofs.Ytlaibimdkamcfaa
open Go.RowKit Go.Maps

theorem normB_iff {cs : List Cls} {x L : List ByteArray} (hL : leastFrom (belowB cs) x [] x = L) : normB cs x = true ↔ L = x := by
  have hn := leastFrom_normal (belowB cs) x
  rw [hL] at hn
  unfold normB
  simp only [decide_eq_true_eq]
  constructor
  · rintro ⟨h1, h2⟩
    exact hn.unique (s' := x) (r' := x) ltS_irr ltS_trans ⟨h1, fun c => ⟨h2 c, fun h => h.1⟩, Nat.le_refl _⟩ fun _ => Iff.rfl
  · intro e
    rw [e] at hn
    exact ⟨hn.asc, fun c hc => (hn.mem c).1 hc⟩

theorem normB_false {cs : List Cls} {x L : List ByteArray} (hL : leastFrom (belowB cs) x [] x = L) (h : L ≠ x) : normB cs x = false := by
  cases hb : normB cs x with
  | false => rfl
  | true => exact absurd ((normB_iff hL).1 hb) h

set_option maxRecDepth 100000 in
set_option maxHeartbeats 4000000 in
theorem refIsNormal_any {nm : ByteArray} {ca ta ra oa ya qa : Option Addr} {cc tn tc rn rc on oc yn yc qn qc cb co : Nat} {cs : List Cls} {xa : Option Addr} {x : List ByteArray} {xc : Nat} (w : World)
    (hca : cs ≠ [] → ca = some ⟨cb, co, none⟩) (hcs : ClassesAt w cb co cs) (hcl : cs.length ≤ 300) (hO : openErr cs = 0) (hx : SortAt w xa x) (hl : x.length ≤ 20) (hk : x.all (knownB cs) = true) :
    Calls Try.prog 66 #[.agg #[.string nm, .slice ca cs.length cc, .slice ta tn tc, .slice ra rn rc, .slice oa on oc, .slice ya yn yc, .slice qa qn qc], .slice xa x.length xc] w fun e w' => e = .returned (.bool (normB cs x)) ∧ Below w.heap.size w w' := by
  have hclm : cs.length ≤ maxLen := by unfold maxLen; omega
  have hb0 : Below w.heap.size w (w.alloc (.cells #[.string nm, .slice ca cs.length cc, .slice ta tn tc, .slice ra rn rc, .slice oa on oc, .slice ya yn yc, .slice qa qn qc] 29)) := (Below.refl _ w).alloc (Nat.le_refl _) _
  have HTH := Lib.hid (ThyAt.mk (Thy.mk (heap_alloc_new w (.cells #[.string nm, .slice ca cs.length cc, .slice ta tn tc, .slice ra rn rc, .slice oa on oc, .slice ya yn yc, .slice qa qn qc] 29)) (hcs.later hb0)) hca hclm : ThyAt nm ca ta ra oa ya qa cc tn tc rn rc on oc yn yc qn qc cb co cs w.heap.size _)
  have HX := Lib.hid (hx.later hb0)
  have HSX := Lib.hid hx.size
  have HB0 := Lib.hid hb0
  have HK := Lib.hid hk
  have HO := Lib.hid hO
  clear hb0 hca hcs hclm hx hk hO
  obtain ⟨L, hL⟩ : ∃ L, leastFrom (belowB cs) x [] x = L := ⟨_, rfl⟩
  have HL := Lib.hid hL
  have HF := Lib.hid (normB_false hL)
  have HT := Lib.hid (normB_iff hL).2
  have HSUB := Lib.hid (show ∀ c, c ∈ L → c ∈ x from fun c hc => ((leastFrom_normal (belowB cs) x).mem c |>.1 (by rw [hL]; exact hc)).1)
  have hll : L.length ≤ x.length := by rw [← hL]; exact (leastFrom_normal (belowB cs) x).len
  obtain ⟨R, hR⟩ : ∃ R, normB cs x = R := ⟨_, rfl⟩
  rw [hR] at HF HT ⊢
  clear hR hL
  go_enter Try.func66, Try.ntmps66
  go_wp2_with fail
  generalize (w.alloc (.cells #[.string nm, .slice ca cs.length cc, .slice ta tn tc, .slice ra rn rc, .slice oa on oc, .slice ya yn yc, .slice qa qn qc] 29)) = w1 at *
  obtain ⟨ga, hga⟩ : ∃ q, w.heap.size = q := ⟨_, rfl⟩
  rw [hga] at HTH ⊢
  clear hga
  obtain ⟨g0, g1, g2, g3, g4, g5, g6⟩ := HTH.out.cells
  go_wp2_with fail
  refine (refKnown_any (xc := xc) w1 HTH.out.cla HTH.out.thy.cls HTH.out.len HX.out).mono ?_
  rw [HK.out]
  rintro e w2 ⟨rfl, hb2⟩
  have HT2 := Lib.hid (HTH.out.later hb2)
  have HX2 := Lib.hid (HX.out.later hb2)
  have HB2 := Lib.hid (HB0.out.trans (hb2.mono HB0.out.size))
  clear hb2 g0 g1 g2 g3 g4 g5 g6
  obtain ⟨g0, g1, g2, g3, g4, g5, g6⟩ := HT2.out.cells
  go_wp2_with fail
  refine (refLeast_any w2 HT2.out.cla HT2.out.thy.cls hcl HO.out HX2.out (by omega) (fun c hc => List.all_eq_true.1 HK.out c hc)).mono ?_
  rw [HL.out]
  rintro e w3 ⟨v, rfl, ho, hb3⟩
  have HX3 := Lib.hid (HX2.out.later hb3)
  have HB3 := Lib.hid (HB2.out.trans (hb3.mono HB2.out.size))
  obtain ⟨a3, c3, rfl, hs3⟩ := sortAt_own ho (fun c hc => HSX.out c (HSUB.out c hc)) (by omega)
  have HS3 := Lib.hid hs3
  clear ho hb3 hs3 g0 g1 g2 g3 g4 g5 g6
  by_cases hlen : L.length = x.length
  · have q1 : ((L.length : Int) == (x.length : Int)) = true := by simp [hlen]
    go_wp2_with fail
    go_loopw [6] (fun t wr => ∃ (i : Nat), t = .int .i64 i ∧ i ≤ L.length ∧ L.take i = x.take i ∧ Below w3.heap.size w3 wr) (fun t _ => L.length - (intOf t).toNat)
    case atStart => exact ⟨0, rfl, Nat.zero_le _, by simp, Below.refl _ _⟩
    case round =>
      obtain ⟨i, rfl, hi, hp, hb⟩ := hrel
      have HP := Lib.hid hp
      have HB := Lib.hid hb
      have HBW := Lib.hid (HB3.out.trans (hb.mono HB3.out.size))
      clear hp hb
      by_cases hlt : i < L.length
      · have hlt2 : i < x.length := by omega
        obtain ⟨xb, xo, hxa, hxs, _⟩ := HX3.out.later HB.out
        have e := hxa (by intro e; subst e; simp at hlt2)
        subst e
        obtain ⟨lb, lo, hla, hls, _⟩ := HS3.out.later HB.out
        have e := hla (by intro e; subst e; simp at hlt)
        subst e
        have cx := hxs.cell i hlt2
        have cl := hls.cell i hlt
        have hq := toList_beq L[i] x[i]
        by_cases he : L[i] = x[i]
        · rw [decide_eq_true he] at hq
          have HS := Lib.hid (show L.take (i + 1) = x.take (i + 1) by rw [← List.take_append_getElem hlt, ← List.take_append_getElem hlt2, HP.out, he])
          clear he
          obtain ⟨s1, hs1⟩ : ∃ s, L[i] = s := ⟨_, rfl⟩
          obtain ⟨s2, hs2⟩ : ∃ s, x[i] = s := ⟨_, rfl⟩
          rw [hs1] at cl hq
          rw [hs2] at cx hq
          clear hs1 hs2 hxa hxs hla hls
          go_wp2_with fail
          go_quiet (fail)
          go_wp2_with fail
          refine ⟨⟨i + 1, by simp only [Int.natCast_add, Int.natCast_one], by omega, HS.out, below_draws _ HB.out⟩, ?_⟩
          show L.length - ((i : Int) + 1).toNat < L.length - ((i : Nat) : Int).toNat
          omega
        · rw [decide_eq_false he] at hq
          have hne : L ≠ x := fun e => he (by simp only [e])
          have hR := HF.out hne
          subst hR
          clear he hne
          obtain ⟨s1, hs1⟩ : ∃ s, L[i] = s := ⟨_, rfl⟩
          obtain ⟨s2, hs2⟩ : ∃ s, x[i] = s := ⟨_, rfl⟩
          rw [hs1] at cl hq
          rw [hs2] at cx hq
          clear hs1 hs2 hxa hxs hla hls
          go_wp2_with fail
          go_quiet (fail)
          go_wp2_with fail
          go_ret
          exact ⟨rfl, below_draws _ HBW.out⟩
      · have he : L = x := by
          have h := HP.out
          rw [List.take_of_length_le (by omega), List.take_of_length_le (by omega)] at h
          exact h
        have hR := HT.out he
        subst hR
        clear he
        go_wp2_with fail
        go_ret
        exact ⟨rfl, HBW.out⟩
  · have q1 : ((L.length : Int) == (x.length : Int)) = false := by simp; omega
    have q2 : ((L.length : Int) != (x.length : Int)) = true := by simp; omega
    have hR := HF.out (fun e => hlen (by rw [e]))
    subst hR
    go_wp2_with fail
    go_ret
    exact ⟨rfl, HB3.out⟩
end Go.Proofs.Ytlaibimdkamcfaa
end

