/-
  SortLeast: the statement's own walk.
-/
import Derived.Test.YtlaibimdkamcfaaE6
namespace Go.Proofs.Ytlaibimdkamcfaa
open Go.RowKit Go.Maps

theorem thy_cells {W : World} {g : Nat} {a0 a1 a2 a3 a4 a5 a6 : Value} (h : W.heap[g]? = some (.cells #[a0, a1, a2, a3, a4, a5, a6] 29 (0, 0))) :
    W.cell? ⟨g, 0, none⟩ = some a0 ∧ W.cell? ⟨g, 1, none⟩ = some a1 ∧ W.cell? ⟨g, 2, none⟩ = some a2 ∧ W.cell? ⟨g, 3, none⟩ = some a3 ∧ W.cell? ⟨g, 4, none⟩ = some a4 ∧ W.cell? ⟨g, 5, none⟩ = some a5 ∧ W.cell? ⟨g, 6, none⟩ = some a6 := by
  refine ⟨?_, ?_, ?_, ?_, ?_, ?_, ?_⟩ <;> (rw [Lib.cell_of_heap h]; rfl)

/-- What a statement on a theory and sorts has at hand: the theory's box, its classes. -/
structure Thy (cs : List Cls) (cb co g : Nat) (cells : Array Value) (W : World) : Prop where
  box : W.heap[g]? = some (.cells cells 29 (0, 0))
  cls : ClassesAt W cb co cs

theorem Thy.later {cs : List Cls} {cb co g : Nat} {cells : Array Value} {W W' : World} (h : Thy cs cb co g cells W) (hb : Below W.heap.size W W') : Thy cs cb co g cells W' :=
  ⟨(hb.block g (Array.getElem?_eq_some_iff.1 h.box).1).trans h.box, h.cls.later hb⟩

theorem normErr_zero {cs : List Cls} {s : List ByteArray} (h : normErr cs s = 0) : openErr cs = 0 ∧ s.length ≤ 20 ∧ ∀ c, c ∈ s → knownB cs c = true := by
  unfold normErr at h
  split at h
  · rename_i hO
    exact ⟨hO, sortErr_zero h⟩
  · rename_i hO; exact absurd h hO

theorem normErr_mk {cs : List Cls} {s : List ByteArray} (hO : openErr cs = 0) (hl : s.length ≤ 20) (hk : ∀ c, c ∈ s → knownB cs c = true) : normErr cs s = 0 := by
  unfold normErr sortErr
  rw [if_pos hO, if_neg (by omega), if_pos (List.all_eq_true.2 hk)]

theorem normErr_same {cs : List Cls} {s s' : List ByteArray} (h : normErr cs s = 0) (hl : s'.length ≤ s.length) (hm : ∀ c, c ∈ s' → c ∈ s) : normErr cs s' = 0 := by
  obtain ⟨h1, h2, h3⟩ := normErr_zero h
  exact normErr_mk h1 (by omega) fun c hc => h3 c (hm c hc)

theorem short_two {n m : Nat} : shortB [n, m] = true ↔ n ≤ 25 ∧ m ≤ 25 := by
  unfold shortB
  simp [List.any_cons]

set_option maxRecDepth 100000 in
set_option maxHeartbeats 8000000 in
theorem sortLeast_walk (nm : ByteArray) (ca ta ra oa ya qa : Option Addr) (cc tn tc rc on oc yn yc qn qc cb co rb ro : Nat) (cs : List Cls) (ars : List (List Nat)) (xb xo xc yb yo zc : Nat) (xa za : Option Addr) (x y : List ByteArray) (w : World)
    (hca : cs ≠ [] → ca = some ⟨cb, co, none⟩) (hcs : ClassesAt w cb co cs) (hcl : cs.length ≤ 9223372036854775807) (htn : tn ≤ 9223372036854775807) (hra : ars ≠ [] → ra = some ⟨rb, ro, none⟩) (has : AritiesAt w rb ro ars) (hal : ars.length ≤ 9223372036854775807)
    (hxa : x ≠ [] → xa = some ⟨xb, xo, none⟩) (hx : StrsAt w xb xo x) (hlx : x.length ≤ 9223372036854775807) (hya : y ≠ [] → za = some ⟨yb, yo, none⟩) (hy : StrsAt w yb yo y) (hly : y.length ≤ 9223372036854775807) :
    Calls Try.prog 7 #[.agg #[.string nm, .slice ca cs.length cc, .slice ta tn tc, .slice ra ars.length rc, .slice oa on oc, .slice ya yn yc, .slice qa qn qc], .slice xa x.length xc, .slice za y.length zc] w fun e w' => e = .returned (.bool true) ∧ Below w.heap.size w w' := by
  have HCA := Lib.hid hca
  have HX := Lib.hid hx
  have HXA := Lib.hid hxa
  have HY := Lib.hid hy
  have HYA := Lib.hid hya
  have hclm : cs.length ≤ maxLen := by unfold maxLen; omega
  have hb0 : Below w.heap.size w (w.alloc (.cells #[.string nm, .slice ca cs.length cc, .slice ta tn tc, .slice ra ars.length rc, .slice oa on oc, .slice ya yn yc, .slice qa qn qc] 29)) := (Below.refl _ w).alloc (Nat.le_refl _) _
  have HTH := Lib.hid (Thy.mk (heap_alloc_new w (.cells #[.string nm, .slice ca cs.length cc, .slice ta tn tc, .slice ra ars.length rc, .slice oa on oc, .slice ya yn yc, .slice qa qn qc] 29)) (hcs.later hb0))
  have HFEW := Lib.hid (few_any nm ca ta ra oa ya qa cc tn tc rc on oc yn yc qn qc cb co rb ro cs ars _ hca (hcs.later hb0) hcl htn hra (has.later hb0) hal)
  have HB0 := Lib.hid hb0
  clear hb0 hca hcs hra has hx hxa hy hya
  go_enter Try.func7, Try.ntmps7
  go_wp2_with fail
  generalize (w.alloc (.cells #[.string nm, .slice ca cs.length cc, .slice ta tn tc, .slice ra ars.length rc, .slice oa on oc, .slice ya yn yc, .slice qa qn qc] 29)) = w1 at *
  refine HFEW.out.mono ?_
  rintro e w2 ⟨f, rfl, hb2⟩
  have HTH2 := Lib.hid (HTH.out.later hb2)
  have HB2 := Lib.hid (HB0.out.trans (hb2.mono HB0.out.size))
  clear hb2 HFEW
  cases f with
  | false =>
    go_wp2_with (go_at_call 11; refine (awake_any _).mono ?_; rintro e w' ⟨rfl, hb⟩; have HAW := Lib.hid (HB2.out.trans (hb.mono HB2.out.size)); clear hb)
    go_ret
    exact ⟨rfl, HAW.out⟩
  | true =>
    go_wp2_with fail
    have b3 : Below w2.heap.size w2 (w2.alloc (.cells #[.slice xa x.length xc, .slice za y.length zc] 27)) := (Below.refl _ _).alloc (Nat.le_refl _) _
    have n3 := heap_alloc_new w2 (.cells #[.slice xa x.length xc, .slice za y.length zc] 27)
    have z3 : (w2.alloc (.cells #[.slice xa x.length xc, .slice za y.length zc] 27)).heap.size = w2.heap.size + 1 := by simp
    have HTH3 := Lib.hid (HTH2.out.later b3)
    have HB3 := Lib.hid (HB2.out.trans (b3.mono HB2.out.size))
    generalize (w2.alloc (.cells #[.slice xa x.length xc, .slice za y.length zc] 27)) = w3 at *
    refine (fewSorts_any w2.heap.size 0 2 (some ⟨w2.heap.size, 0, none⟩) [x.length, y.length] w3 (fun _ => rfl) (fun i hi => ?_) (show (2 : Nat) ≤ 9223372036854775807 by decide)).mono ?_
    · refine ⟨by omega, ?_⟩
      rw [Lib.cell_of_heap n3, Nat.zero_add]
      match i, hi with
      | 0, _ => exact ⟨hlx, xa, xc, rfl⟩
      | 1, _ => exact ⟨hly, za, zc, rfl⟩
    rintro e w' ⟨rfl, rfl⟩
    cases hsh : shortB [x.length, y.length] with
    | false =>
      clear hsh b3 n3 z3
      go_wp2_with (go_at_call 11; refine (awake_any _).mono ?_; rintro e w' ⟨rfl, hb⟩; have HAW := Lib.hid (HB3.out.trans (hb.mono HB3.out.size)); clear hb)
      go_ret
      exact ⟨rfl, HAW.out⟩
    | true =>
      obtain ⟨hx25, hy25⟩ := short_two.1 hsh
      obtain ⟨g0, g1, g2, g3, g4, g5, g6⟩ := thy_cells HTH3.out.box
      have HN1 := Lib.hid (sortNormal_any nm ca ta ra oa ya qa cc tn tc ars.length rc on oc yn yc qn qc cb co cs xb xo xc xa x w3 HCA.out HTH3.out.cls hclm HXA.out (HX.out.later HB3.out) hlx)
      clear hsh b3 n3 z3 HTH2 HB2
      go_wp2_with fail
      refine HN1.out.mono ?_
      clear HN1
      rintro e w4 ⟨hN1, hb4⟩
      have HTH4 := Lib.hid (HTH3.out.later hb4)
      have HB4 := Lib.hid (HB3.out.trans (hb4.mono HB3.out.size))
      have HW34 := Lib.hid hb4.size
      clear g0 g1 g2 g3 g4 g5 g6 hb4
      obtain ⟨g0, g1, g2, g3, g4, g5, g6⟩ := thy_cells HTH4.out.box
      have HN2 := Lib.hid (sortNormal_any nm ca ta ra oa ya qa cc tn tc ars.length rc on oc yn yc qn qc cb co cs yb yo zc za y w4 HCA.out HTH4.out.cls hclm HYA.out (HY.out.later HB4.out) hly)
      rcases hN1 with ⟨hE1, rfl⟩ | ⟨hE1, v1, r1, rfl, hr1, ho1⟩
      · have q1 : (normErr cs x == 0) = false := by simpa using hE1
        have q2 : (normErr cs x != 0) = true := by simpa using hE1
        obtain ⟨E1, hE1e⟩ : ∃ E, normErr cs x = E := ⟨_, rfl⟩
        rw [hE1e] at q1 q2 ⊢
        clear hE1 hE1e
        go_wp2_with fail
        refine HN2.out.mono ?_
        clear HN2
        rintro e w5 ⟨hN2, hb5⟩
        have HB5 := Lib.hid (HB4.out.trans (hb5.mono HB4.out.size))
        clear hb5
        rcases hN2 with ⟨_, rfl⟩ | ⟨_, v2, r2, rfl, _, _⟩
        · go_wp2_with (go_at_call 11; refine (awake_any _).mono ?_; rintro e w' ⟨rfl, hb⟩; have HAW := Lib.hid (HB5.out.trans (hb.mono HB5.out.size)); clear hb)
          go_ret
          exact ⟨rfl, HAW.out⟩
        · go_wp2_with (go_at_call 11; refine (awake_any _).mono ?_; rintro e w' ⟨rfl, hb⟩; have HAW := Lib.hid (HB5.out.trans (hb.mono HB5.out.size)); clear hb)
          go_ret
          exact ⟨rfl, HAW.out⟩
      · have hz1 : ∀ z, z ∈ r1 → z.size ≤ maxLen := fun z hz => by
          obtain ⟨i, hi, rfl⟩ := List.getElem_of_mem ((hr1.mem z).1 hz).1
          exact HX.out.size i hi
        obtain ⟨a1, b1, c1, rfl, ha1, hs1⟩ := own_arg ho1 hz1
        have HA1 := Lib.hid ha1
        have HS1 := Lib.hid hs1
        have HE1 := Lib.hid hE1
        have HR1 := Lib.hid hr1
        clear hE1 hr1 ho1 hz1 ha1 hs1
        go_wp2_with fail
        refine HN2.out.mono ?_
        clear HN2
        rintro e w5 ⟨hN2, hb5⟩
        have HTH5 := Lib.hid (HTH4.out.later hb5)
        have HB5 := Lib.hid (HB4.out.trans (hb5.mono HB4.out.size))
        have HW45 := Lib.hid hb5
        clear hb5
        rcases hN2 with ⟨hE2, rfl⟩ | ⟨hE2, v2, r2, rfl, hr2, ho2⟩
        · have q1 : (normErr cs y == 0) = false := by simpa using hE2
          have q2 : (normErr cs y != 0) = true := by simpa using hE2
          obtain ⟨E2, hE2e⟩ : ∃ E, normErr cs y = E := ⟨_, rfl⟩
          rw [hE2e] at q1 q2 ⊢
          clear hE2 hE2e
          go_wp2_with (go_at_call 11; refine (awake_any _).mono ?_; rintro e w' ⟨rfl, hb⟩; have HAW := Lib.hid (HB5.out.trans (hb.mono HB5.out.size)); clear hb)
          go_ret
          exact ⟨rfl, HAW.out⟩
        · have hz2 : ∀ z, z ∈ r2 → z.size ≤ maxLen := fun z hz => by
            obtain ⟨i, hi, rfl⟩ := List.getElem_of_mem ((hr2.mem z).1 hz).1
            exact HY.out.size i hi
          obtain ⟨a2, b2, c2, rfl, ha2, hs2⟩ := own_arg ho2 hz2
          have HA2 := Lib.hid ha2
          have HS2 := Lib.hid hs2
          have HS15 := Lib.hid (HS1.out.later HW45.out)
          have HE2 := Lib.hid hE2
          have HR2 := Lib.hid hr2
          have hlr1 : r1.length ≤ 25 := by have := HR1.out.len; omega
          have hlr2 : r2.length ≤ 25 := by have := HR2.out.len; omega
          clear hE2 hr2 ho2 hz2 ha2 hs2 g0 g1 g2 g3 g4 g5 g6 HS1 HTH4 HTH3 HB3
          go_wp2_with fail
          refine (clone_any xb xo xc xa x w5 HXA.out (HX.out.later HB5.out) (by omega)).mono ?_
          rintro e w6 ⟨v3, rfl, ho3, hb6⟩
          have HO3 := Lib.hid ho3
          have HTH6 := Lib.hid (HTH5.out.later hb6)
          have HB6 := Lib.hid (HB5.out.trans (hb6.mono HB5.out.size))
          have HW56 := Lib.hid hb6
          obtain ⟨a3, c3, rfl⟩ := own_slice ho3
          clear ho3 hb6
          go_wp2_with fail
          refine (reverse_any w5.heap.size _ x w6 HO3.out (by omega)).mono ?_
          rintro e w7 ⟨rfl, ho4, hb7⟩
          have hrl : x.reverse.length = x.length := List.length_reverse
          have hz4 : ∀ z, z ∈ x.reverse → z.size ≤ maxLen := fun z hz => by
            obtain ⟨i, hi, rfl⟩ := List.getElem_of_mem (List.mem_reverse.1 hz)
            exact HX.out.size i hi
          obtain ⟨a4, b4, c4, hv4, ha4, hs4⟩ := own_arg ho4 hz4
          rw [hrl] at hv4
          cases hv4
          have HB57 := Lib.hid (HW56.out.trans (hb7.mono (Nat.le_refl _)))
          have HTH7 := Lib.hid (HTH5.out.later HB57.out)
          have HB7 := Lib.hid (HB5.out.trans (HB57.out.mono HB5.out.size))
          have HA4 := Lib.hid ha4
          have HS4 := Lib.hid hs4
          have HRL := Lib.hid hrl
          clear ho4 hb7 hz4 ha4 hs4 hrl HTH6 HB6 HO3
          obtain ⟨g0, g1, g2, g3, g4, g5, g6⟩ := thy_cells HTH7.out.box
          have HE3 := Lib.hid (normErr_same HE1.out (s' := x.reverse) (by rw [HRL.out]; exact Nat.le_refl _) (fun c hc => List.mem_reverse.1 hc))
          have HN3 := sortNormal_any nm ca ta ra oa ya qa cc tn tc ars.length rc on oc yn yc qn qc cb co cs b4 0 c3 a3 x.reverse w7 HCA.out HTH7.out.cls hclm HA4.out HS4.out (by rw [HRL.out]; exact hlx)
          rw [HRL.out, HE3.out] at HN3
          have HN3' := Lib.hid HN3
          clear HN3
          go_wp2_with fail
          refine HN3'.out.mono ?_
          clear HN3'
          rintro e w8 ⟨(⟨hE, _⟩ | ⟨_, v5, r3, rfl, hr3, ho5⟩), hb8⟩
          · exact absurd rfl hE
          have hr31 : r1 = r3 := (hr3.unique ltS_irr ltS_trans HR1.out (fun c => isLeast_of_mem (fun c => List.mem_reverse) c)).symm
          subst hr31
          have hz1 : ∀ z, z ∈ r1 → z.size ≤ maxLen := fun z hz => by
            obtain ⟨i, hi, rfl⟩ := List.getElem_of_mem ((HR1.out.mem z).1 hz).1
            exact HX.out.size i hi
          obtain ⟨a5, b5, c5, rfl, ha5, hs5⟩ := own_arg ho5 hz1
          have HZ1 := Lib.hid hz1
          have HA5 := Lib.hid ha5
          have HS5 := Lib.hid hs5
          have HB58 := Lib.hid (HB57.out.trans (hb8.mono HB57.out.size))
          have HTH8 := Lib.hid (HTH7.out.later hb8)
          have HB8 := Lib.hid (HB7.out.trans (hb8.mono HB7.out.size))
          clear ho5 hb8 ha5 hs5 hr3 hz1 g0 g1 g2 g3 g4 g5 g6 HTH7 HB7
          obtain ⟨g0, g1, g2, g3, g4, g5, g6⟩ := thy_cells HTH8.out.box
          have HE4 := Lib.hid (normErr_same HE1.out (s' := r1) HR1.out.len (fun c hc => ((HR1.out.mem c).1 hc).1))
          have HN4 := sortNormal_any nm ca ta ra oa ya qa cc tn tc ars.length rc on oc yn yc qn qc cb co cs b1 0 c1 a1 r1 w8 HCA.out HTH8.out.cls hclm HA1.out (HS15.out.later HB58.out) (by omega)
          rw [HE4.out] at HN4
          have HN4' := Lib.hid HN4
          clear HN4
          go_wp2_with fail
          refine HN4'.out.mono ?_
          clear HN4'
          rintro e w9 ⟨(⟨hE, _⟩ | ⟨_, v6, r4, rfl, hr4, ho6⟩), hb9⟩
          · exact absurd rfl hE
          have hr41 : r1 = r4 := (hr4.unique ltS_irr ltS_trans HR1.out (fun c => isLeast_idem HR1.out c)).symm
          subst hr41
          obtain ⟨a6, b6, c6, rfl, ha6, hs6⟩ := own_arg ho6 HZ1.out
          have HA6 := Lib.hid ha6
          have HS6 := Lib.hid hs6
          have HB59 := Lib.hid (HB58.out.trans (hb9.mono HB58.out.size))
          have HTH9 := Lib.hid (HTH8.out.later hb9)
          have HB9 := Lib.hid (HB8.out.trans (hb9.mono HB8.out.size))
          have HS59 := Lib.hid (HS5.out.later hb9)
          clear ho6 hb9 ha6 hs6 hr4 g0 g1 g2 g3 g4 g5 g6 HTH8 HB8 HS5
          have HEQ1 := equal_any b5 0 c5 b1 0 c1 a5 a1 r1 r1 w9 HA5.out HS59.out (by omega) HA1.out (HS15.out.later HB59.out) (by omega)
          rw [decide_eq_true rfl] at HEQ1
          have HQ1 := Lib.hid HEQ1
          clear HEQ1
          go_wp2_with fail
          refine HQ1.out.mono ?_
          clear HQ1
          rintro e w10 ⟨rfl, hb10⟩
          have HB510 := Lib.hid (HB59.out.trans (hb10.mono HB59.out.size))
          have HTH10 := Lib.hid (HTH9.out.later hb10)
          have HB10 := Lib.hid (HB9.out.trans (hb10.mono HB9.out.size))
          have HEQ2 := equal_any b6 0 c6 b1 0 c1 a6 a1 r1 r1 w10 HA6.out (HS6.out.later hb10) (by omega) HA1.out (HS15.out.later HB510.out) (by omega)
          rw [decide_eq_true rfl] at HEQ2
          have HQ2 := Lib.hid HEQ2
          clear HEQ2 hb10 HTH9 HB9 HB59
          go_wp2_with fail
          refine HQ2.out.mono ?_
          clear HQ2
          rintro e w11 ⟨rfl, hb11⟩
          have HB511 := Lib.hid (HB510.out.trans (hb11.mono HB510.out.size))
          have HTH11 := Lib.hid (HTH10.out.later hb11)
          have HB11 := Lib.hid (HB10.out.trans (hb11.mono HB10.out.size))
          clear hb11 HTH10 HB10 HB510
          obtain ⟨g0, g1, g2, g3, g4, g5, g6⟩ := thy_cells HTH11.out.box
          have HO := Lib.hid (normErr_zero HE1.out).1
          have HKX := Lib.hid (normErr_zero HE1.out).2.2
          have HKY := Lib.hid (normErr_zero HE2.out).2.2
          have HIFF := Lib.hid (normal_eq_iff (classes_ord HO.out) ltS_irr ltS_trans HR1.out HR2.out HKX.out HKY.out)
          have HL1 := sortLess_any nm ca ta ra oa ya qa cc tn tc ars.length rc on oc yn yc qn qc cb co cs xb xo xc yb yo zc xa za x y w11 HCA.out HTH11.out.cls hclm HXA.out (HX.out.later HB11.out) (by unfold maxLen; omega) HYA.out (HY.out.later HB11.out) (by unfold maxLen; omega) HO.out
          obtain ⟨L1, hL1⟩ : ∃ L, lessB (knownB cs) (belowB cs) x y = L := ⟨_, rfl⟩
          obtain ⟨L2, hL2⟩ : ∃ L, lessB (knownB cs) (belowB cs) y x = L := ⟨_, rfl⟩
          rw [hL1] at HL1
          rw [hL1, hL2] at HIFF
          have HL1' := Lib.hid HL1
          have HL2 := Lib.hid hL2
          clear HL1 hL1 hL2
          go_wp2_with fail
          refine HL1'.out.mono ?_
          clear HL1'
          rintro e w12 ⟨rfl, hb12⟩
          have HB512 := Lib.hid (HB511.out.trans (hb12.mono HB511.out.size))
          have HTH12 := Lib.hid (HTH11.out.later hb12)
          have HB12 := Lib.hid (HB11.out.trans (hb12.mono HB11.out.size))
          clear hb12 HTH11 HB11 HB511 g0 g1 g2 g3 g4 g5 g6
          cases L1 with
          | false =>
            have HDEC : decide (r1 = r2) = false := decide_eq_false fun e => by
              have := (HIFF.out.2 e).1
              cases this
            have HQ := equal_any b1 0 c1 b2 0 c2 a1 a2 r1 r2 w12 HA1.out (HS15.out.later HB512.out) (by omega) HA2.out (HS2.out.later HB512.out) (by omega)
            rw [show decide (r1 = r2) = false from HDEC] at HQ
            have HQ' := Lib.hid HQ
            clear HQ HDEC
            go_wp2_with fail
            refine HQ'.out.mono ?_
            clear HQ'
            rintro e wl ⟨rfl, hbl⟩
            have HBL := Lib.hid (HB12.out.trans (hbl.mono HB12.out.size))
            clear hbl
            go_wp2_with (go_at_call 11; refine (awake_any _).mono ?_; rintro e w' ⟨rfl, hb⟩; have HAW := Lib.hid (HBL.out.trans (hb.mono HBL.out.size)); clear hb)
            go_ret
            exact ⟨rfl, HAW.out⟩
          | true =>
            obtain ⟨g0, g1, g2, g3, g4, g5, g6⟩ := thy_cells HTH12.out.box
            have HL3 := sortLess_any nm ca ta ra oa ya qa cc tn tc ars.length rc on oc yn yc qn qc cb co cs yb yo zc xb xo xc za xa y x w12 HCA.out HTH12.out.cls hclm HYA.out (HY.out.later HB12.out) (by unfold maxLen; omega) HXA.out (HX.out.later HB12.out) (by unfold maxLen; omega) HO.out
            rw [HL2.out] at HL3
            have HL3' := Lib.hid HL3
            clear HL3
            cases L2 with
            | false =>
              go_wp2_with fail
              refine HL3'.out.mono ?_
              clear HL3'
              rintro e w13 ⟨rfl, hb13⟩
              have HB513 := Lib.hid (HB512.out.trans (hb13.mono HB512.out.size))
              have HB13 := Lib.hid (HB12.out.trans (hb13.mono HB12.out.size))
              clear hb13 g0 g1 g2 g3 g4 g5 g6
              have HDEC : decide (r1 = r2) = false := decide_eq_false fun e => by
                have := (HIFF.out.2 e).2
                cases this
              have HQ := equal_any b1 0 c1 b2 0 c2 a1 a2 r1 r2 w13 HA1.out (HS15.out.later HB513.out) (by omega) HA2.out (HS2.out.later HB513.out) (by omega)
              rw [show decide (r1 = r2) = false from HDEC] at HQ
              have HQ' := Lib.hid HQ
              clear HQ HDEC
              go_wp2_with fail
              refine HQ'.out.mono ?_
              clear HQ'
              rintro e wl ⟨rfl, hbl⟩
              have HBL := Lib.hid (HB13.out.trans (hbl.mono HB13.out.size))
              clear hbl
              go_wp2_with (go_at_call 11; refine (awake_any _).mono ?_; rintro e w' ⟨rfl, hb⟩; have HAW := Lib.hid (HBL.out.trans (hb.mono HBL.out.size)); clear hb)
              go_ret
              exact ⟨rfl, HAW.out⟩
            | true =>
              go_wp2_with fail
              refine HL3'.out.mono ?_
              clear HL3'
              rintro e w13 ⟨rfl, hb13⟩
              have HB513 := Lib.hid (HB512.out.trans (hb13.mono HB512.out.size))
              have HB13 := Lib.hid (HB12.out.trans (hb13.mono HB12.out.size))
              clear hb13 g0 g1 g2 g3 g4 g5 g6
              have HDEC : decide (r1 = r2) = true := decide_eq_true (HIFF.out.1 (by simp))
              have HQ := equal_any b1 0 c1 b2 0 c2 a1 a2 r1 r2 w13 HA1.out (HS15.out.later HB513.out) (by omega) HA2.out (HS2.out.later HB513.out) (by omega)
              rw [show decide (r1 = r2) = true from HDEC] at HQ
              have HQ' := Lib.hid HQ
              clear HQ HDEC
              go_wp2_with fail
              refine HQ'.out.mono ?_
              clear HQ'
              rintro e wl ⟨rfl, hbl⟩
              have HBL := Lib.hid (HB13.out.trans (hbl.mono HB13.out.size))
              clear hbl
              go_wp2_with (go_at_call 11; refine (awake_any _).mono ?_; rintro e w' ⟨rfl, hb⟩; have HAW := Lib.hid (HBL.out.trans (hb.mono HBL.out.size)); clear hb)
              go_ret
              exact ⟨rfl, HAW.out⟩
end Go.Proofs.Ytlaibimdkamcfaa
