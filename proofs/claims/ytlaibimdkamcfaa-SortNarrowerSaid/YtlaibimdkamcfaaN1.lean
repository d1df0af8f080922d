import Derived.Test.YtlaibimdkamcfaaK17
import Derived.Test.YtlaibimdkamcfaaN0
import Derived.Test.YtlaibimdkamcfaaI1
namespace Go.Proofs.Ytlaibimdkamcfaa
open Go.RowKit Go.Maps Go.WideMaps

attribute [local go_sem] Oper.semAt_some

theorem shortB_two {n m : Nat} : shortB [n, m] = true ↔ n ≤ 25 ∧ m ≤ 25 := by
  unfold shortB
  simp

theorem less_full {nm : ByteArray} {ca ta ra oa ya qa : Option Addr} {cc tn tc rn rc on oc yn yc qn qc cb co g : Nat} {cs : List Cls} {W : World} (h : ThyAt nm ca ta ra oa ya qa cc tn tc rn rc on oc yn yc qn qc cb co cs g W) {a a' : Option Addr} {x y : List ByteArray} {c c' : Nat} (hx : SortAt W a x) (hy : SortAt W a' y) :
    Calls Try.prog 16 #[.agg #[.string nm, .slice ca cs.length cc, .slice ta tn tc, .slice ra rn rc, .slice oa on oc, .slice ya yn yc, .slice qa qn qc], .slice a x.length c, .slice a' y.length c'] W fun e W' => e = .returned (.bool (lessT cs x y)) ∧ Below W.heap.size W W' := by
  obtain ⟨xb, xo, x1, x2, x3⟩ := hx
  obtain ⟨yb, yo, y1, y2, y3⟩ := hy
  exact sortLess_full nm ca ta ra oa ya qa cc tn tc rn rc on oc yn yc qn qc cb co cs xb xo c yb yo c' a a' x y W h.cla h.thy.cls h.len x1 x2 (by unfold maxLen; omega) y1 y2 (by unfold maxLen; omega)

/-- To a greater depth: the same code, and no type is lost. -/
theorem GroundIs.up {cs : List Cls} {ts : List TD} {l : List Ari} {s : List ByteArray} {D : Int} {f f' : Bool} {E E' : Int} (h : GroundIs cs ts l s D f E) (h' : GroundIs cs ts l s (D + 1) f' E') (h0 : 0 ≤ D) (h5 : D + 1 ≤ 5) : E = E' ∧ (f = true → f' = true) := by
  rcases h with ⟨k0, rfl, rfl⟩ | ⟨k0, k1, rfl, rfl⟩ | ⟨k0, k1, k2, rfl, rfl⟩ | ⟨k0, k1, k2, k3, k4, rfl⟩ <;>
  rcases h' with ⟨j0, rfl, rfl⟩ | ⟨j0, j1, rfl, rfl⟩ | ⟨j0, j1, j2, rfl, rfl⟩ | ⟨j0, j1, j2, j3, j4, rfl⟩ <;>
  first
    | exact absurd k0 j0
    | exact absurd j0 k0
    | exact absurd k1 j1
    | exact absurd j1 k1
    | exact ⟨rfl, fun h => Bool.noConfusion h⟩
    | (exfalso; omega)
    | (refine ⟨rfl, fun h => j4.2 ?_⟩; have e : (D + 1).toNat = D.toNat + 1 := by omega
       rw [e]; exact (k4.1 h).up)

set_option maxRecDepth 100000 in
set_option maxHeartbeats 4000000 in
theorem sortNarrower_walk (nm : ByteArray) (ca ta ra oa ya qa : Option Addr) (cc tc rc on oc yn yc qn qc cb co tb to rb ro : Nat) (cs : List Cls) (ts : List TD) (l : List Ari) (xc zc : Nat) (xa za : Option Addr) (x y : List ByteArray) (a : ByteArray) (D : Int) (w : World)
    (hca : cs ≠ [] → ca = some ⟨cb, co, none⟩) (hcs : ClassesAt w cb co cs) (hcl : cs.length ≤ 9223372036854775807) (hta : ts ≠ [] → ta = some ⟨tb, to, none⟩) (hts : TypesAt w tb to ts) (htl : ts.length ≤ 9223372036854775807) (hra : l ≠ [] → ra = some ⟨rb, ro, none⟩) (has : ArisAt w rb ro l) (hal : l.length ≤ 9223372036854775807)
    (hsa : a.size ≤ maxLen) (hx : SortAt w xa x) (hy : SortAt w za y) (hD0 : 0 ≤ D) (hD1 : D < 256) :
    Calls Try.prog 8 #[.agg #[.string nm, .slice ca cs.length cc, .slice ta ts.length tc, .slice ra l.length rc, .slice oa on oc, .slice ya yn yc, .slice qa qn qc], .string a, .slice xa x.length xc, .slice za y.length zc, .int .u8 D] w fun e w' => e = .returned (.bool true) ∧ Below w.heap.size w w' := by
  have hclm : cs.length ≤ maxLen := by unfold maxLen; omega
  have hb0 : Below w.heap.size w (w.alloc (.cells #[.string nm, .slice ca cs.length cc, .slice ta ts.length tc, .slice ra l.length rc, .slice oa on oc, .slice ya yn yc, .slice qa qn qc] 29)) := (Below.refl _ w).alloc (Nat.le_refl _) _
  have HTH := Lib.hid (show ThyF nm ca ta ra oa ya qa cc tc rc on oc yn yc qn qc cb co tb to rb ro cs ts l w.heap.size (w.alloc (.cells #[.string nm, .slice ca cs.length cc, .slice ta ts.length tc, .slice ra l.length rc, .slice oa on oc, .slice ya yn yc, .slice qa qn qc] 29)) from
    ⟨ThyAt.mk (Thy.mk (heap_alloc_new w (.cells #[.string nm, .slice ca cs.length cc, .slice ta ts.length tc, .slice ra l.length rc, .slice oa on oc, .slice ya yn yc, .slice qa qn qc] 29)) (hcs.later hb0)) hca hclm, hta, hts.later hb0, htl, hra, has.later hb0, hal⟩)
  have hfew0 := few14_any nm ca ta ra oa ya qa cc ts.length tc rc on oc yn yc qn qc cb co rb ro cs (l.map fun a => a.sorts.map List.length) (w.alloc (.cells #[.string nm, .slice ca cs.length cc, .slice ta ts.length tc, .slice ra l.length rc, .slice oa on oc, .slice ya yn yc, .slice qa qn qc] 29)) hca (hcs.later hb0) hcl htl (fun hne => hra (by simpa using hne)) (has.later hb0).lens (by simpa using hal)
  rw [List.length_map] at hfew0
  have HFEW := Lib.hid hfew0
  have HX := Lib.hid (hx.later hb0)
  have HY := Lib.hid (hy.later hb0)
  have hlx : x.length ≤ 9223372036854775807 := hx.choose_spec.choose_spec.2.2
  have hly : y.length ≤ 9223372036854775807 := hy.choose_spec.choose_spec.2.2
  have HB0 := Lib.hid hb0
  have HD0 := Lib.hid hD0
  have HD1 := Lib.hid hD1
  clear hb0 hca hcs hra has hx hy hta hts hfew0 hD0 hD1
  obtain ⟨g0, g1, g2, g3, g4, g5, g6⟩ := HTH.out.at_.cells
  go_enter Try.func8, Try.ntmps8
  go_wp2_with fail
  generalize (w.alloc (.cells #[.string nm, .slice ca cs.length cc, .slice ta ts.length tc, .slice ra l.length rc, .slice oa on oc, .slice ya yn yc, .slice qa qn qc] 29)) = w1 at *
  clear g0 g1 g2 g3 g4 g5 g6
  refine HFEW.out.mono ?_
  rintro e w2 ⟨f, rfl, hff, hb2⟩
  have HTH2 := Lib.hid (HTH.out.later hb2)
  have HX2 := Lib.hid (HX.out.later hb2)
  have HY2 := Lib.hid (HY.out.later hb2)
  have HB2 := Lib.hid (HB0.out.trans (hb2.mono HB0.out.size))
  clear hb2 HFEW HTH HX HY
  cases f with
  | false =>
    clear hff
    go_wp2_with (first | (go_at_call 11; refine (awake_any _).mono ?_; rintro e w' ⟨rfl, hb⟩; have HAW := Lib.hid (HB2.out.trans (hb.mono HB2.out.size)); clear hb))
    go_ret
    exact ⟨rfl, HAW.out⟩
  | true =>
    have hfew : cs.length ≤ 20 := by have := hff rfl; omega
    clear hff
    go_wp2_with fail
    have b3 : Below w2.heap.size w2 (w2.alloc (.cells #[.slice xa x.length xc, .slice za y.length zc] 27)) := (Below.refl _ _).alloc (Nat.le_refl _) _
    have n3 := heap_alloc_new w2 (.cells #[.slice xa x.length xc, .slice za y.length zc] 27)
    have z3 : (w2.alloc (.cells #[.slice xa x.length xc, .slice za y.length zc] 27)).heap.size = w2.heap.size + 1 := by simp
    have HTH3 := Lib.hid (HTH2.out.later b3)
    have HX3 := Lib.hid (HX2.out.later b3)
    have HY3 := Lib.hid (HY2.out.later b3)
    have HB3 := Lib.hid (HB2.out.trans (b3.mono HB2.out.size))
    generalize (w2.alloc (.cells #[.slice xa x.length xc, .slice za y.length zc] 27)) = w3 at *
    refine (fewSorts_any w2.heap.size 0 2 (some ⟨w2.heap.size, 0, none⟩) [x.length, y.length] w3 (fun _ => rfl) (fun i hi => ?_) (show (2 : Nat) ≤ 9223372036854775807 by decide)).mono ?_
    · refine ⟨by omega, ?_⟩
      rw [Lib.cell_of_heap n3, Nat.zero_add]
      match i, hi with
      | 0, _ => exact ⟨hlx, xa, xc, rfl⟩
      | 1, _ => exact ⟨hly, za, zc, rfl⟩
    rintro e w' ⟨rfl, rfl⟩
    cases hsh : shortB [x.length, y.length] with
    | false =>
      clear hsh b3 n3 z3
      go_wp2_with (first | (go_at_call 11; refine (awake_any _).mono ?_; rintro e w' ⟨rfl, hb⟩; have HAW := Lib.hid (HB3.out.trans (hb.mono HB3.out.size)); clear hb))
      go_ret
      exact ⟨rfl, HAW.out⟩
    | true =>
      clear hsh b3 n3 z3 HTH2 HB2 HX2 HY2
      obtain ⟨g0, g1, g2, g3, g4, g5, g6⟩ := HTH3.out.at_.cells
      go_wp2_with fail
      refine (sortArgs_is HTH3.out a xa x xc _ (Below.refl _ _) hsa HX3.out).mono ?_
      rintro e wa ⟨a1, c1, b1, o1, E1, U1, rfl, hi1, p1, q1, hb⟩
      have HI1 := Lib.hid hi1
      have HS1a := Lib.hid q1
      have HP1 := Lib.hid p1
      have HTa := Lib.hid (HTH3.out.later hb)
      have HXa := Lib.hid (HX3.out.later hb)
      have HYa := Lib.hid (HY3.out.later hb)
      have HBa := Lib.hid (HB3.out.trans (hb.mono HB3.out.size))
      clear hi1 p1 q1 hb g0 g1 g2 g3 g4 g5 g6 HTH3 HX3 HY3 HB3
      obtain ⟨g0, g1, g2, g3, g4, g5, g6⟩ := HTa.out.at_.cells
      go_wp2_with fail
      refine (sortArgs_is HTa.out a za y zc _ (Below.refl _ _) hsa HYa.out).mono ?_
      rintro e wb ⟨a2, c2, b2, o2, E2, U2, rfl, hi2, p2, q2, hb⟩
      have HI2 := Lib.hid hi2
      have HS1b := Lib.hid (HS1a.out.later hb)
      have HS2b := Lib.hid q2
      have HP2 := Lib.hid p2
      have HTb := Lib.hid (HTa.out.later hb)
      have HXb := Lib.hid (HXa.out.later hb)
      have HYb := Lib.hid (HYa.out.later hb)
      have HBb := Lib.hid (HBa.out.trans (hb.mono HBa.out.size))
      clear hi2 p2 q2 hb g0 g1 g2 g3 g4 g5 g6 HTa HXa HYa HBa HS1a
      obtain ⟨g0, g1, g2, g3, g4, g5, g6⟩ := HTb.out.at_.cells
      go_wp2_with fail
      refine (meet_full HTb.out.at_ HXb.out HYb.out).mono ?_
      rintro e wc ⟨am, m, cm, E3, rfl, hi3, sm, hb⟩
      have HI3 := Lib.hid hi3
      have HM := Lib.hid sm
      have HS1 := Lib.hid (HS1b.out.later hb)
      have HS2 := Lib.hid (HS2b.out.later hb)
      have HTc := Lib.hid (HTb.out.later hb)
      have HXc := Lib.hid (HXb.out.later hb)
      have HYc := Lib.hid (HYb.out.later hb)
      have HBc := Lib.hid (HBb.out.trans (hb.mono HBb.out.size))
      clear hi3 sm hb g0 g1 g2 g3 g4 g5 g6 HTb HXb HYb HBb HS1b HS2b
      obtain ⟨g0, g1, g2, g3, g4, g5, g6⟩ := HTc.out.at_.cells
      by_cases hE3 : E3 = 0
      · subst hE3
        by_cases hE1 : E1 = 0
        · subst hE1
          by_cases hE2 : E2 = 0
          · subst hE2
            go_wp2_with fail
            refine (sortArgs_is HTc.out a am m cm _ (Below.refl _ _) hsa HM.out).mono ?_
            rintro e wd ⟨a3, c3, b3, o3, E4, U3, rfl, hi4, p4, q4, hb⟩
            have HI4 := Lib.hid hi4
            have HP3 := Lib.hid p4
            have HS3 := Lib.hid q4
            have HS1d := Lib.hid (HS1.out.later hb)
            have HS2d := Lib.hid (HS2.out.later hb)
            have HTd := Lib.hid (HTc.out.later hb)
            have HXd := Lib.hid (HXc.out.later hb)
            have HYd := Lib.hid (HYc.out.later hb)
            have HBd := Lib.hid (HBc.out.trans (hb.mono HBc.out.size))
            have hz := meet_args HI1.out HI2.out HI3.out hi4
            have eU1 := HI1.out.zero.2.2.2.2.2
            have eU2 := HI2.out.zero.2.2.2.2.2
            have e12 : U2.length = U1.length := by rw [eU1, eU2, argsU_len, argsU_len]
            clear hi4 p4 q4 hb g0 g1 g2 g3 g4 g5 g6 HTc HXc HYc HBc HS1 HS2 eU2 HM
            rcases hz with ⟨rfl, rfl⟩ | ⟨rfl, rfl⟩
            · have e13 : (argsU cs ts l a m).length = U1.length := by rw [eU1, argsU_len, argsU_len]
              clear eU1
              obtain ⟨U3, hU3⟩ : ∃ U3, argsU cs ts l a m = U3 := ⟨_, rfl⟩
              rw [hU3] at e13 HI4 HP3 HS3 ⊢
              have HU3 := Lib.hid hU3
              obtain ⟨N, hN⟩ : ∃ N, U1.length = N := ⟨_, rfl⟩
              have HN := Lib.hid hN
              have HN2 := Lib.hid e12
              have HN3 := Lib.hid e13
              rw [e12, e13, hN]
              have qN : ((N : Int) != (N : Int)) = false := by simp
              clear hU3 e12 e13 hN
              go_wp2_with fail
              clear qN
              have hN9 := HI1.out.len
              rw [HN.out] at hN9
              go_loopw [102] (fun t wr => ∃ i : Nat, t = .int .i64 i ∧ i ≤ N ∧ Below wd.heap.size wd wr) (fun t _ => N - (intOf t).toNat)
              case atStart => exact ⟨0, rfl, Nat.zero_le _, Below.refl _ _⟩
              case round =>
                obtain ⟨i, rfl, hi, hbr⟩ := hrel
                have HB := Lib.hid hbr
                have HTr := Lib.hid (HTd.out.later hbr)
                have HXr := Lib.hid (HXd.out.later hbr)
                have HYr := Lib.hid (HYd.out.later hbr)
                have HBr := Lib.hid (HBd.out.trans (hbr.mono HBd.out.size))
                clear hbr
                obtain ⟨g0, g1, g2, g3, g4, g5, g6⟩ := HTr.out.at_.cells
                by_cases hlt : i < N
                · have i1 : i < U1.length := by rw [HN.out]; exact hlt
                  have i2 : i < U2.length := by rw [HN2.out]; exact i1
                  have i3 : i < U3.length := by rw [HN3.out]; exact i1
                  have e1 := HP1.out (by intro e; rw [e] at i1; simp at i1)
                  subst e1
                  have e2 := HP2.out (by intro e; rw [e] at i2; simp at i2)
                  subst e2
                  have e3 := HP3.out (by intro e; rw [e] at i3; simp at i3)
                  subst e3
                  obtain ⟨l1, ax, cx, k1, hu⟩ := (HS1d.out.later HB.out) i i1
                  obtain ⟨l2, ay, cy, k2, hv⟩ := (HS2d.out.later HB.out) i i2
                  obtain ⟨l3, az, cz, k3, hq⟩ := (HS3.out.later HB.out) i i3
                  have hO := (check_zero HI1.out.zero.1).1
                  have hmi : MeetIs cs U1[i] U2[i] 0 U3[i] := by
                    have hz' : ArgsIs cs ts l a m 0 (argsU cs ts l a m) := by rw [HU3.out]; exact HI4.out
                    have h := meet_each HI1.out HI2.out HI3.out hz' i1 i2 (by rw [HU3.out]; exact i3)
                    simpa only [HU3.out] using h
                  have hle := fun h => args_less HI1.out HI2.out h i1 i2
                  obtain ⟨u, hu'⟩ : ∃ q, U1[i] = q := ⟨_, rfl⟩
                  obtain ⟨v, hv'⟩ : ∃ q, U2[i] = q := ⟨_, rfl⟩
                  obtain ⟨q, hq'⟩ : ∃ q, U3[i] = q := ⟨_, rfl⟩
                  rw [hu'] at k1 hu hmi hle
                  rw [hv'] at k2 hv hmi hle
                  rw [hq'] at k3 hq hmi
                  have HC := Lib.hid (show ∀ W, Hid (Below wr.heap.size wr W) → Calls Try.prog 22 #[.agg #[.string nm, .slice ca cs.length cc, .slice ta ts.length tc, .slice ra l.length rc, .slice oa on oc, .slice ya yn yc, .slice qa qn qc], .slice ax u.length cx, .slice ay v.length cy] W fun e W' => ∃ (b : Option Addr) (d : Nat), e = .returned (.tuple #[.slice b q.length d, .int .i64 0]) ∧ Hid (SortAt W' b q) ∧ Hid (Below wr.heap.size wr W') from fun W hb => (meet_full (HTr.out.later hb.out).at_ (hu.later hb.out) (hv.later hb.out)).mono (by
                    rintro e W' ⟨b, r, d, E, rfl, hi, hs, hb'⟩
                    obtain ⟨rfl, rfl⟩ := hi.unique hmi
                    exact ⟨b, d, rfl, Lib.hid hs, Lib.hid (hb.out.trans (hb'.mono hb.out.size))⟩))
                  have HU := Lib.hid hu
                  have HV := Lib.hid hv
                  have HQ := Lib.hid hq
                  have HLE := Lib.hid hle
                  have HO := Lib.hid hO
                  have HK1 := Lib.hid k1
                  have HK2 := Lib.hid k2
                  have HK3 := Lib.hid k3
                  clear l1 l2 l3 hu hv hq hle hmi hO hu' hv' hq' k3
                  have y0 : wr.drew.cell? ⟨w.heap.size, 0, none⟩ = _ := g0
                  have y1 : wr.drew.cell? ⟨w.heap.size, 1, none⟩ = _ := g1
                  have y2 : wr.drew.cell? ⟨w.heap.size, 2, none⟩ = _ := g2
                  have y3 : wr.drew.cell? ⟨w.heap.size, 3, none⟩ = _ := g3
                  have y4 : wr.drew.cell? ⟨w.heap.size, 4, none⟩ = _ := g4
                  have y5 : wr.drew.cell? ⟨w.heap.size, 5, none⟩ = _ := g5
                  have y6 : wr.drew.cell? ⟨w.heap.size, 6, none⟩ = _ := g6
                  have y7 : wr.drew.cell? ⟨b1, o1 + i, none⟩ = _ := k1
                  have y8 : wr.drew.cell? ⟨b2, o2 + i, none⟩ = _ := k2
                  have HBR := Lib.hid ((Below.refl wr.heap.size wr).drew)
                  go_wp2_with fail
                  go_region_held3 (fun W => W.cell? ⟨w.heap.size, 0, none⟩ = some (.string nm) ∧ W.cell? ⟨w.heap.size, 1, none⟩ = some (.slice ca cs.length cc) ∧ W.cell? ⟨w.heap.size, 2, none⟩ = some (.slice ta ts.length tc) ∧ W.cell? ⟨w.heap.size, 3, none⟩ = some (.slice ra l.length rc) ∧ W.cell? ⟨w.heap.size, 4, none⟩ = some (.slice oa on oc) ∧ W.cell? ⟨w.heap.size, 5, none⟩ = some (.slice ya yn yc) ∧ W.cell? ⟨w.heap.size, 6, none⟩ = some (.slice qa qn qc) ∧ W.cell? ⟨b1, o1 + i, none⟩ = some (.slice ax u.length cx) ∧ W.cell? ⟨b2, o2 + i, none⟩ = some (.slice ay v.length cy))
                    (refine ⟨?_, ?_, ?_, ?_, ?_, ?_, ?_, ?_, ?_⟩ <;> assumption)
                    ((go_at_call 22; refine (HC.out _ (by assumption)).mono ?_; rintro e w5 ⟨b5, d5, rfl, hs5, hb5⟩; obtain ⟨j0, j1, j2, j3, j4, j5, j6⟩ := (HTr.out.later hb5.out).at_.cells; have j7 := (hb5.out.cell (p := ⟨b1, o1 + i, none⟩) (lt_of_cell HK1.out)).trans HK1.out; have j8 := (hb5.out.cell (p := ⟨b2, o2 + i, none⟩) (lt_of_cell HK2.out)).trans HK2.out))
                  go_wp2_with fail
                  have HTs := Lib.hid (HTr.out.later hb5.out)
                  have HXs := Lib.hid (HXr.out.later hb5.out)
                  have HYs := Lib.hid (HYr.out.later hb5.out)
                  have HUs := Lib.hid (HU.out.later hb5.out)
                  have HVs := Lib.hid (HV.out.later hb5.out)
                  have HQs := Lib.hid (HQ.out.later hb5.out)
                  have j9 := (hb5.out.cell (p := ⟨b3, o3 + i, none⟩) (lt_of_cell HK3.out)).trans HK3.out
                  obtain ⟨L, hL⟩ : ∃ L, lessT cs x y = L := ⟨_, rfl⟩
                  have hdd : ∀ k : Nat, (Fence.wide.depth.isSome = true → 1 ≤ k) := fun k h => by cases h
                  have K24 := Lib.hid (fun (v : BW w5) (k : Nat) => bw_own (equal_full (c := d5) (c' := cz) (hs5.out.later v.h) (HQs.out.later v.h)) k)
                  have K16 := Lib.hid (fun (v : BW w5) (k : Nat) => bw_own (less_full (c := xc) (c' := zc) (HTs.out.later v.h).at_ (HXs.out.later v.h) (HYs.out.later v.h)) k)
                  have K17 := Lib.hid (fun (v : BW w5) (k : Nat) => bw_own (less_full (c := cx) (c' := cy) (HTs.out.later v.h).at_ (HUs.out.later v.h) (HVs.out.later v.h)) k)
                  rw [hL] at K16
                  have u0 : ∀ z : BW w5, z.v.cell? ⟨w.heap.size, 0, none⟩ = some (.string nm) := fun z => (z.h.cell (p := ⟨w.heap.size, 0, none⟩) (lt_of_cell j0)).trans j0
                  have u1 : ∀ z : BW w5, z.v.cell? ⟨w.heap.size, 1, none⟩ = some (.slice ca cs.length cc) := fun z => (z.h.cell (p := ⟨w.heap.size, 1, none⟩) (lt_of_cell j1)).trans j1
                  have u2 : ∀ z : BW w5, z.v.cell? ⟨w.heap.size, 2, none⟩ = some (.slice ta ts.length tc) := fun z => (z.h.cell (p := ⟨w.heap.size, 2, none⟩) (lt_of_cell j2)).trans j2
                  have u3 : ∀ z : BW w5, z.v.cell? ⟨w.heap.size, 3, none⟩ = some (.slice ra l.length rc) := fun z => (z.h.cell (p := ⟨w.heap.size, 3, none⟩) (lt_of_cell j3)).trans j3
                  have u4 : ∀ z : BW w5, z.v.cell? ⟨w.heap.size, 4, none⟩ = some (.slice oa on oc) := fun z => (z.h.cell (p := ⟨w.heap.size, 4, none⟩) (lt_of_cell j4)).trans j4
                  have u5 : ∀ z : BW w5, z.v.cell? ⟨w.heap.size, 5, none⟩ = some (.slice ya yn yc) := fun z => (z.h.cell (p := ⟨w.heap.size, 5, none⟩) (lt_of_cell j5)).trans j5
                  have u6 : ∀ z : BW w5, z.v.cell? ⟨w.heap.size, 6, none⟩ = some (.slice qa qn qc) := fun z => (z.h.cell (p := ⟨w.heap.size, 6, none⟩) (lt_of_cell j6)).trans j6
                  have u7 : ∀ z : BW w5, z.v.cell? ⟨b1, o1 + i, none⟩ = some (.slice ax u.length cx) := fun z => (z.h.cell (p := ⟨b1, o1 + i, none⟩) (lt_of_cell j7)).trans j7
                  have u8 : ∀ z : BW w5, z.v.cell? ⟨b2, o2 + i, none⟩ = some (.slice ay v.length cy) := fun z => (z.h.cell (p := ⟨b2, o2 + i, none⟩) (lt_of_cell j8)).trans j8
                  have u9 : ∀ z : BW w5, z.v.cell? ⟨b3, o3 + i, none⟩ = some (.slice az q.length cz) := fun z => (z.h.cell (p := ⟨b3, o3 + i, none⟩) (lt_of_cell j9)).trans j9
                  have HL2 := Lib.hid (show L = true → lessT cs u v = true from fun h => by
                    have h' : lessB (knownB cs) (belowB cs) x y = true := by rw [h] at hL; unfold lessT at hL; rw [Bool.and_eq_true] at hL; exact hL.2
                    unfold lessT
                    rw [Bool.and_eq_true]
                    exact ⟨by rw [HO.out]; rfl, HLE.out h'⟩)
                  have HB5 := Lib.hid (HB.out.trans (hb5.out.mono HB.out.size))
                  clear hL j0 j1 j2 j3 j4 j5 j6 j7 j8 j9 y0 y1 y2 y3 y4 y5 y6 y7 y8 g0 g1 g2 g3 g4 g5 g6 k1 k2 HBR hs5 hb5
                  cases L with
                  | false =>
                    clear HL2
                    refine (wpIn_wide (n := 4)).1 ?_
                    refine wpIn_region_quiet_class (fun w' => ∃ v : BW w5, w' = v.v) ⟨⟨w5.drew, (Below.refl _ _).drew⟩, rfl⟩ rfl (by kernel_rfl) (by kernel_rfl) ?_
                    repeat (gi_big_quiet_step (fail))
                    refine Go.BigFrame.wpQuietIn_want (fun _ _ _ _ => trivial) rfl ?_
                    intro K hK
                    gi_big_quiet_op
                    apply Exists.intro
                    refine ⟨fun _ => ?_, ?_⟩
                    · exact K24.out _ _
                    go_big_quiet_on
                    repeat (gi_big_quiet_step (fail))
                    refine Go.BigFrame.wpQuietIn_want (fun _ _ _ _ => trivial) rfl ?_
                    intro K hK
                    gi_big_quiet_op
                    apply Exists.intro
                    refine ⟨fun _ => ?_, ?_⟩
                    · exact K16.out _ _
                    go_big_quiet_on
                    repeat (gi_big_quiet_step (fail))
                    refine Go.BigFrame.wpQuietIn_skip (fun _ _ _ _ => trivial) rfl ?_
                    simp (config := {decide := false}) only [Act.put, Array.setIfInBounds, List.size_toArray, List.length_cons, List.length_nil, Nat.reduceAdd, Nat.reduceLT, dite_true, List.set_toArray, List.set_cons_succ, List.set_cons_zero]
                    repeat (gi_big_quiet_step (fail))
                    refine wpQuietIn_nil ?_
                    rintro _ ⟨z, rfl⟩
                    have HZ := Lib.hid (HB5.out.trans (z.h.mono HB5.out.size))
                    go_wp2_with fail
                    refine ⟨⟨i + 1, by simp only [Int.natCast_add, Int.natCast_one], by omega, HZ.out⟩, ?_⟩
                    show N - ((i:Int)+1).toNat < N - ((i:Nat):Int).toNat
                    omega
                  | true =>
                    rw [HL2.out rfl] at K17
                    clear HL2
                    refine (wpIn_wide (n := 4)).1 ?_
                    refine wpIn_region_quiet_class (fun w' => ∃ v : BW w5, w' = v.v) ⟨⟨w5.drew, (Below.refl _ _).drew⟩, rfl⟩ rfl (by kernel_rfl) (by kernel_rfl) ?_
                    repeat (gi_big_quiet_step (fail))
                    refine Go.BigFrame.wpQuietIn_want (fun _ _ _ _ => trivial) rfl ?_
                    intro K hK
                    gi_big_quiet_op
                    apply Exists.intro
                    refine ⟨fun _ => ?_, ?_⟩
                    · exact K24.out _ _
                    go_big_quiet_on
                    repeat (gi_big_quiet_step (fail))
                    refine Go.BigFrame.wpQuietIn_want (fun _ _ _ _ => trivial) rfl ?_
                    intro K hK
                    gi_big_quiet_op
                    apply Exists.intro
                    refine ⟨fun _ => ?_, ?_⟩
                    · exact K16.out _ _
                    go_big_quiet_on
                    repeat (gi_big_quiet_step (fail))
                    refine Go.BigFrame.wpQuietIn_want (fun _ _ _ _ => trivial) rfl ?_
                    intro K hK
                    gi_big_quiet_op
                    apply Exists.intro
                    refine ⟨fun _ => ?_, ?_⟩
                    · exact K17.out _ _
                    go_big_quiet_on
                    repeat (gi_big_quiet_step (fail))
                    refine wpQuietIn_nil ?_
                    rintro _ ⟨z, rfl⟩
                    have HZ := Lib.hid (HB5.out.trans (z.h.mono HB5.out.size))
                    go_wp2_with fail
                    refine ⟨⟨i + 1, by simp only [Int.natCast_add, Int.natCast_one], by omega, HZ.out⟩, ?_⟩
                    show N - ((i:Int)+1).toNat < N - ((i:Nat):Int).toNat
                    omega
                · go_wp2_with fail
                  have hK : 0 ≤ (wrap64 D).tmod 3 ∧ (wrap64 D).tmod 3 ≤ 2 := by
                    have e : wrap64 D = D := by unfold wrap64; have := HD0.out; have := HD1.out; omega
                    rw [e]
                    exact ⟨Int.tmod_nonneg 3 HD0.out, by have := Int.tmod_lt_of_pos D (show (0 : Int) < 3 by decide); omega⟩
                  generalize (wrap64 D).tmod 3 = K at hK ⊢
                  have HK := Lib.hid hK
                  have eK : wrap64 (K + 1) = K + 1 := by unfold wrap64; omega
                  clear hK
                  refine (sortGround_any HTr.out hfew xa x xc K _ (Below.refl _ _) HXr.out).mono ?_
                  rintro e wd ⟨hb, hG⟩
                  obtain ⟨v1, f1, F1, rfl, hi1, ht1⟩ := hG.is
                  obtain ⟨kk1, n1, aa1, sc1, m1, ac1, rfl⟩ := ht1.form
                  have bd : Below wd.heap.size wd (wd.alloc (.cells #[.int .i64 kk1, .string n1, .int .i64 0, .slice none 0 sc1, .slice aa1 m1 ac1] 50)) := (Below.refl _ _).alloc (Nat.le_refl _) _
                  have HIG := Lib.hid hi1
                  have HTd := Lib.hid ((HTr.out.later hb).later bd)
                  have HXd := Lib.hid ((HXr.out.later hb).later bd)
                  have HBd := Lib.hid ((HBr.out.trans (hb.mono HBr.out.size)).trans (bd.mono (HBr.out.trans (hb.mono HBr.out.size)).size))
                  clear hi1 ht1 hb bd hG g0 g1 g2 g3 g4 g5 g6 HTr HXr HBr
                  obtain ⟨g0, g1, g2, g3, g4, g5, g6⟩ := HTd.out.at_.cells
                  go_wp2_with fail
                  refine (sortGround_any HTd.out hfew xa x xc (K + 1) _ (Below.refl _ _) HXd.out).mono ?_
                  rintro e we ⟨hb, hG⟩
                  obtain ⟨v2, f2, F2, rfl, hi2, ht2⟩ := hG.is
                  obtain ⟨kk2, n2, aa2, sc2, m2, ac2, rfl⟩ := ht2.form
                  have be : Below we.heap.size we (we.alloc (.cells #[.int .i64 kk2, .string n2, .int .i64 0, .slice none 0 sc2, .slice aa2 m2 ac2] 50)) := (Below.refl _ _).alloc (Nat.le_refl _) _
                  have hbe := hb.trans (be.mono hb.size)
                  have HBe := Lib.hid (HBd.out.trans (hbe.mono HBd.out.size))
                  obtain ⟨rfl, hup⟩ := HIG.out.up hi2 HK.out.1 (by have := HK.out.2; omega)
                  clear hi2 ht2 hb be hbe hG g0 g1 g2 g3 g4 g5 g6 HTd HXd HBd HIG eK
                  have qF : (F1 == F1) = true := by simp
                  cases f1 with
                  | false =>
                    clear hup
                    go_wp2_with (first | (go_at_call 11; refine (awake_any _).mono ?_; rintro e w' ⟨rfl, hb⟩; have HAW := Lib.hid (HBe.out.trans (hb.mono HBe.out.size)); clear hb))
                    go_ret
                    exact ⟨rfl, HAW.out⟩
                  | true =>
                    obtain rfl := hup rfl
                    clear hup
                    go_wp2_with (first | (go_at_call 11; refine (awake_any _).mono ?_; rintro e w' ⟨rfl, hb⟩; have HAW := Lib.hid (HBe.out.trans (hb.mono HBe.out.size)); clear hb))
                    go_ret
                    exact ⟨rfl, HAW.out⟩
            · clear eU1
              have qN : ((U1.length : Int) != (U2.length : Int)) = false := by rw [e12]; simp
              clear e12
              have HTo := HTd
              have HXo := HXd
              have HBo := HBd
              clear HTd HXd HBd
              obtain ⟨g0, g1, g2, g3, g4, g5, g6⟩ := HTo.out.at_.cells
              go_wp2_with fail
              go_loopw [102] (fun t wr => t = .int .i64 0 ∧ wr = wd) (fun t _ => 0)
              case atStart => exact ⟨rfl, rfl⟩
              case round =>
                obtain ⟨rfl, rfl⟩ := hrel
                go_wp2_with fail
                have hK : 0 ≤ (wrap64 D).tmod 3 ∧ (wrap64 D).tmod 3 ≤ 2 := by
                  have e : wrap64 D = D := by unfold wrap64; have := HD0.out; have := HD1.out; omega
                  rw [e]
                  exact ⟨Int.tmod_nonneg 3 HD0.out, by have := Int.tmod_lt_of_pos D (show (0 : Int) < 3 by decide); omega⟩
                generalize (wrap64 D).tmod 3 = K at hK ⊢
                have HK := Lib.hid hK
                have eK : wrap64 (K + 1) = K + 1 := by unfold wrap64; omega
                clear hK
                refine (sortGround_any HTo.out hfew xa x xc K _ (Below.refl _ _) HXo.out).mono ?_
                rintro e wd ⟨hb, hG⟩
                obtain ⟨v1, f1, F1, rfl, hi1, ht1⟩ := hG.is
                obtain ⟨kk1, n1, aa1, sc1, m1, ac1, rfl⟩ := ht1.form
                have bd : Below wd.heap.size wd (wd.alloc (.cells #[.int .i64 kk1, .string n1, .int .i64 0, .slice none 0 sc1, .slice aa1 m1 ac1] 50)) := (Below.refl _ _).alloc (Nat.le_refl _) _
                have HIG := Lib.hid hi1
                have HTd := Lib.hid ((HTo.out.later hb).later bd)
                have HXd := Lib.hid ((HXo.out.later hb).later bd)
                have HBd := Lib.hid ((HBo.out.trans (hb.mono HBo.out.size)).trans (bd.mono (HBo.out.trans (hb.mono HBo.out.size)).size))
                clear hi1 ht1 hb bd hG g0 g1 g2 g3 g4 g5 g6 HTo HXo HBo
                obtain ⟨g0, g1, g2, g3, g4, g5, g6⟩ := HTd.out.at_.cells
                go_wp2_with fail
                refine (sortGround_any HTd.out hfew xa x xc (K + 1) _ (Below.refl _ _) HXd.out).mono ?_
                rintro e we ⟨hb, hG⟩
                obtain ⟨v2, f2, F2, rfl, hi2, ht2⟩ := hG.is
                obtain ⟨kk2, n2, aa2, sc2, m2, ac2, rfl⟩ := ht2.form
                have be : Below we.heap.size we (we.alloc (.cells #[.int .i64 kk2, .string n2, .int .i64 0, .slice none 0 sc2, .slice aa2 m2 ac2] 50)) := (Below.refl _ _).alloc (Nat.le_refl _) _
                have hbe := hb.trans (be.mono hb.size)
                have HBe := Lib.hid (HBd.out.trans (hbe.mono HBd.out.size))
                obtain ⟨rfl, hup⟩ := HIG.out.up hi2 HK.out.1 (by have := HK.out.2; omega)
                clear hi2 ht2 hb be hbe hG g0 g1 g2 g3 g4 g5 g6 HTd HXd HBd HIG eK
                have qF : (F1 == F1) = true := by simp
                cases f1 with
                | false =>
                  clear hup
                  go_wp2_with (first | (go_at_call 11; refine (awake_any _).mono ?_; rintro e w' ⟨rfl, hb⟩; have HAW := Lib.hid (HBe.out.trans (hb.mono HBe.out.size)); clear hb))
                  go_ret
                  exact ⟨rfl, HAW.out⟩
                | true =>
                  obtain rfl := hup rfl
                  clear hup
                  go_wp2_with (first | (go_at_call 11; refine (awake_any _).mono ?_; rintro e w' ⟨rfl, hb⟩; have HAW := Lib.hid (HBe.out.trans (hb.mono HBe.out.size)); clear hb))
                  go_ret
                  exact ⟨rfl, HAW.out⟩
          · have r2 : (E2 == 0) = false := by simpa using hE2
            clear hE2
            go_wp2_with fail
            have hK : 0 ≤ (wrap64 D).tmod 3 ∧ (wrap64 D).tmod 3 ≤ 2 := by
              have e : wrap64 D = D := by unfold wrap64; have := HD0.out; have := HD1.out; omega
              rw [e]
              exact ⟨Int.tmod_nonneg 3 HD0.out, by have := Int.tmod_lt_of_pos D (show (0 : Int) < 3 by decide); omega⟩
            generalize (wrap64 D).tmod 3 = K at hK ⊢
            have HK := Lib.hid hK
            have eK : wrap64 (K + 1) = K + 1 := by unfold wrap64; omega
            clear hK
            refine (sortGround_any HTc.out hfew xa x xc K _ (Below.refl _ _) HXc.out).mono ?_
            rintro e wd ⟨hb, hG⟩
            obtain ⟨v1, f1, F1, rfl, hi1, ht1⟩ := hG.is
            obtain ⟨kk1, n1, aa1, sc1, m1, ac1, rfl⟩ := ht1.form
            have bd : Below wd.heap.size wd (wd.alloc (.cells #[.int .i64 kk1, .string n1, .int .i64 0, .slice none 0 sc1, .slice aa1 m1 ac1] 50)) := (Below.refl _ _).alloc (Nat.le_refl _) _
            have HIG := Lib.hid hi1
            have HTd := Lib.hid ((HTc.out.later hb).later bd)
            have HXd := Lib.hid ((HXc.out.later hb).later bd)
            have HBd := Lib.hid ((HBc.out.trans (hb.mono HBc.out.size)).trans (bd.mono (HBc.out.trans (hb.mono HBc.out.size)).size))
            clear hi1 ht1 hb bd hG g0 g1 g2 g3 g4 g5 g6 HTc HXc HBc
            obtain ⟨g0, g1, g2, g3, g4, g5, g6⟩ := HTd.out.at_.cells
            go_wp2_with fail
            refine (sortGround_any HTd.out hfew xa x xc (K + 1) _ (Below.refl _ _) HXd.out).mono ?_
            rintro e we ⟨hb, hG⟩
            obtain ⟨v2, f2, F2, rfl, hi2, ht2⟩ := hG.is
            obtain ⟨kk2, n2, aa2, sc2, m2, ac2, rfl⟩ := ht2.form
            have be : Below we.heap.size we (we.alloc (.cells #[.int .i64 kk2, .string n2, .int .i64 0, .slice none 0 sc2, .slice aa2 m2 ac2] 50)) := (Below.refl _ _).alloc (Nat.le_refl _) _
            have hbe := hb.trans (be.mono hb.size)
            have HBe := Lib.hid (HBd.out.trans (hbe.mono HBd.out.size))
            obtain ⟨rfl, hup⟩ := HIG.out.up hi2 HK.out.1 (by have := HK.out.2; omega)
            clear hi2 ht2 hb be hbe hG g0 g1 g2 g3 g4 g5 g6 HTd HXd HBd HIG eK
            have qF : (F1 == F1) = true := by simp
            cases f1 with
            | false =>
              clear hup
              go_wp2_with (first | (go_at_call 11; refine (awake_any _).mono ?_; rintro e w' ⟨rfl, hb⟩; have HAW := Lib.hid (HBe.out.trans (hb.mono HBe.out.size)); clear hb))
              go_ret
              exact ⟨rfl, HAW.out⟩
            | true =>
              obtain rfl := hup rfl
              clear hup
              go_wp2_with (first | (go_at_call 11; refine (awake_any _).mono ?_; rintro e w' ⟨rfl, hb⟩; have HAW := Lib.hid (HBe.out.trans (hb.mono HBe.out.size)); clear hb))
              go_ret
              exact ⟨rfl, HAW.out⟩
        · have r1 : (E1 == 0) = false := by simpa using hE1
          clear hE1
          go_wp2_with fail
          have hK : 0 ≤ (wrap64 D).tmod 3 ∧ (wrap64 D).tmod 3 ≤ 2 := by
            have e : wrap64 D = D := by unfold wrap64; have := HD0.out; have := HD1.out; omega
            rw [e]
            exact ⟨Int.tmod_nonneg 3 HD0.out, by have := Int.tmod_lt_of_pos D (show (0 : Int) < 3 by decide); omega⟩
          generalize (wrap64 D).tmod 3 = K at hK ⊢
          have HK := Lib.hid hK
          have eK : wrap64 (K + 1) = K + 1 := by unfold wrap64; omega
          clear hK
          refine (sortGround_any HTc.out hfew xa x xc K _ (Below.refl _ _) HXc.out).mono ?_
          rintro e wd ⟨hb, hG⟩
          obtain ⟨v1, f1, F1, rfl, hi1, ht1⟩ := hG.is
          obtain ⟨kk1, n1, aa1, sc1, m1, ac1, rfl⟩ := ht1.form
          have bd : Below wd.heap.size wd (wd.alloc (.cells #[.int .i64 kk1, .string n1, .int .i64 0, .slice none 0 sc1, .slice aa1 m1 ac1] 50)) := (Below.refl _ _).alloc (Nat.le_refl _) _
          have HIG := Lib.hid hi1
          have HTd := Lib.hid ((HTc.out.later hb).later bd)
          have HXd := Lib.hid ((HXc.out.later hb).later bd)
          have HBd := Lib.hid ((HBc.out.trans (hb.mono HBc.out.size)).trans (bd.mono (HBc.out.trans (hb.mono HBc.out.size)).size))
          clear hi1 ht1 hb bd hG g0 g1 g2 g3 g4 g5 g6 HTc HXc HBc
          obtain ⟨g0, g1, g2, g3, g4, g5, g6⟩ := HTd.out.at_.cells
          go_wp2_with fail
          refine (sortGround_any HTd.out hfew xa x xc (K + 1) _ (Below.refl _ _) HXd.out).mono ?_
          rintro e we ⟨hb, hG⟩
          obtain ⟨v2, f2, F2, rfl, hi2, ht2⟩ := hG.is
          obtain ⟨kk2, n2, aa2, sc2, m2, ac2, rfl⟩ := ht2.form
          have be : Below we.heap.size we (we.alloc (.cells #[.int .i64 kk2, .string n2, .int .i64 0, .slice none 0 sc2, .slice aa2 m2 ac2] 50)) := (Below.refl _ _).alloc (Nat.le_refl _) _
          have hbe := hb.trans (be.mono hb.size)
          have HBe := Lib.hid (HBd.out.trans (hbe.mono HBd.out.size))
          obtain ⟨rfl, hup⟩ := HIG.out.up hi2 HK.out.1 (by have := HK.out.2; omega)
          clear hi2 ht2 hb be hbe hG g0 g1 g2 g3 g4 g5 g6 HTd HXd HBd HIG eK
          have qF : (F1 == F1) = true := by simp
          cases f1 with
          | false =>
            clear hup
            go_wp2_with (first | (go_at_call 11; refine (awake_any _).mono ?_; rintro e w' ⟨rfl, hb⟩; have HAW := Lib.hid (HBe.out.trans (hb.mono HBe.out.size)); clear hb))
            go_ret
            exact ⟨rfl, HAW.out⟩
          | true =>
            obtain rfl := hup rfl
            clear hup
            go_wp2_with (first | (go_at_call 11; refine (awake_any _).mono ?_; rintro e w' ⟨rfl, hb⟩; have HAW := Lib.hid (HBe.out.trans (hb.mono HBe.out.size)); clear hb))
            go_ret
            exact ⟨rfl, HAW.out⟩
      · have r3 : (E3 == 0) = false := by simpa using hE3
        clear hE3
        go_wp2_with fail
        have hK : 0 ≤ (wrap64 D).tmod 3 ∧ (wrap64 D).tmod 3 ≤ 2 := by
          have e : wrap64 D = D := by unfold wrap64; have := HD0.out; have := HD1.out; omega
          rw [e]
          exact ⟨Int.tmod_nonneg 3 HD0.out, by have := Int.tmod_lt_of_pos D (show (0 : Int) < 3 by decide); omega⟩
        generalize (wrap64 D).tmod 3 = K at hK ⊢
        have HK := Lib.hid hK
        have eK : wrap64 (K + 1) = K + 1 := by unfold wrap64; omega
        clear hK
        refine (sortGround_any HTc.out hfew xa x xc K _ (Below.refl _ _) HXc.out).mono ?_
        rintro e wd ⟨hb, hG⟩
        obtain ⟨v1, f1, F1, rfl, hi1, ht1⟩ := hG.is
        obtain ⟨kk1, n1, aa1, sc1, m1, ac1, rfl⟩ := ht1.form
        have bd : Below wd.heap.size wd (wd.alloc (.cells #[.int .i64 kk1, .string n1, .int .i64 0, .slice none 0 sc1, .slice aa1 m1 ac1] 50)) := (Below.refl _ _).alloc (Nat.le_refl _) _
        have HIG := Lib.hid hi1
        have HTd := Lib.hid ((HTc.out.later hb).later bd)
        have HXd := Lib.hid ((HXc.out.later hb).later bd)
        have HBd := Lib.hid ((HBc.out.trans (hb.mono HBc.out.size)).trans (bd.mono (HBc.out.trans (hb.mono HBc.out.size)).size))
        clear hi1 ht1 hb bd hG g0 g1 g2 g3 g4 g5 g6 HTc HXc HBc
        obtain ⟨g0, g1, g2, g3, g4, g5, g6⟩ := HTd.out.at_.cells
        go_wp2_with fail
        refine (sortGround_any HTd.out hfew xa x xc (K + 1) _ (Below.refl _ _) HXd.out).mono ?_
        rintro e we ⟨hb, hG⟩
        obtain ⟨v2, f2, F2, rfl, hi2, ht2⟩ := hG.is
        obtain ⟨kk2, n2, aa2, sc2, m2, ac2, rfl⟩ := ht2.form
        have be : Below we.heap.size we (we.alloc (.cells #[.int .i64 kk2, .string n2, .int .i64 0, .slice none 0 sc2, .slice aa2 m2 ac2] 50)) := (Below.refl _ _).alloc (Nat.le_refl _) _
        have hbe := hb.trans (be.mono hb.size)
        have HBe := Lib.hid (HBd.out.trans (hbe.mono HBd.out.size))
        obtain ⟨rfl, hup⟩ := HIG.out.up hi2 HK.out.1 (by have := HK.out.2; omega)
        clear hi2 ht2 hb be hbe hG g0 g1 g2 g3 g4 g5 g6 HTd HXd HBd HIG eK
        have qF : (F1 == F1) = true := by simp
        cases f1 with
        | false =>
          clear hup
          go_wp2_with (first | (go_at_call 11; refine (awake_any _).mono ?_; rintro e w' ⟨rfl, hb⟩; have HAW := Lib.hid (HBe.out.trans (hb.mono HBe.out.size)); clear hb))
          go_ret
          exact ⟨rfl, HAW.out⟩
        | true =>
          obtain rfl := hup rfl
          clear hup
          go_wp2_with (first | (go_at_call 11; refine (awake_any _).mono ?_; rintro e w' ⟨rfl, hb⟩; have HAW := Lib.hid (HBe.out.trans (hb.mono HBe.out.size)); clear hb))
          go_ret
          exact ⟨rfl, HAW.out⟩
end Go.Proofs.Ytlaibimdkamcfaa
