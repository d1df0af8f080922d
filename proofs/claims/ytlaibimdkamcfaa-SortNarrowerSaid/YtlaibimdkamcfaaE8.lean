import Derived.Test.YtlaibimdkamcfaaE6
import Derived.ProofKit
import Derived.Deep.Strs
import Derived.OpenShut
section
/-
  SortLeast: the statement's own walk.
-/
namespace Go.Proofs.Ytlaibimdkamcfaa
open Go.RowKit Go.Maps

theorem thy_cells {W : World} {g : Nat} {a0 a1 a2 a3 a4 a5 a6 : Value} (h : W.heap[g]? = some (.cells #[a0, a1, a2, a3, a4, a5, a6] 29 (0, 0))) :
    W.cell? ⟨g, 0, none⟩ = some a0 ∧ W.cell? ⟨g, 1, none⟩ = some a1 ∧ W.cell? ⟨g, 2, none⟩ = some a2 ∧ W.cell? ⟨g, 3, none⟩ = some a3 ∧ W.cell? ⟨g, 4, none⟩ = some a4 ∧ W.cell? ⟨g, 5, none⟩ = some a5 ∧ W.cell? ⟨g, 6, none⟩ = some a6 := by
  refine ⟨?_, ?_, ?_, ?_, ?_, ?_, ?_⟩ <;> (rw [Lib.cell_of_heap h]; rfl)

/-- What a statement on a theory and sorts has at hand: the theory's box, its classes. -/
structure Thy (cs : List Cls) (cb co g : Nat) (cells : Array Value) (W : World) : Prop where
  box : W.heap[g]? = some (.cells cells 29 (0, 0))
  cls : ClassesAt W cb co cs

theorem Thy.later {cs : List Cls} {cb co g : Nat} {cells : Array Value} {W W' : World} (h : Thy cs cb co g cells W) (hb : Below W.heap.size W W') : Thy cs cb co g cells W' :=
  ⟨(hb.block g (Array.getElem?_eq_some_iff.1 h.box).1).trans h.box, h.cls.later hb⟩

theorem normErr_zero {cs : List Cls} {s : List ByteArray} (h : normErr cs s = 0) : openErr cs = 0 ∧ s.length ≤ 20 ∧ ∀ c, c ∈ s → knownB cs c = true := by
  unfold normErr at h
  split at h
  · rename_i hO
    exact ⟨hO, sortErr_zero h⟩
  · rename_i hO; exact absurd h hO

theorem normErr_mk {cs : List Cls} {s : List ByteArray} (hO : openErr cs = 0) (hl : s.length ≤ 20) (hk : ∀ c, c ∈ s → knownB cs c = true) : normErr cs s = 0 := by
  unfold normErr sortErr
  rw [if_pos hO, if_neg (by omega), if_pos (List.all_eq_true.2 hk)]

theorem normErr_same {cs : List Cls} {s s' : List ByteArray} (h : normErr cs s = 0) (hl : s'.length ≤ s.length) (hm : ∀ c, c ∈ s' → c ∈ s) : normErr cs s' = 0 := by
  obtain ⟨h1, h2, h3⟩ := normErr_zero h
  exact normErr_mk h1 (by omega) fun c hc => h3 c (hm c hc)

theorem short_two {n m : Nat} : shortB [n, m] = true ↔ n ≤ 25 ∧ m ≤ 25 := by
  unfold shortB
  simp [List.any_cons]

set_option maxRecDepth 100000 in
set_option maxHeartbeats 8000000 in
theorem sortLeast_walk (nm : ByteArray) (ca ta ra oa ya qa : Option Addr) (cc tn tc rc on oc yn yc qn qc cb co rb ro : Nat) (cs : List Cls) (ars : List (List Nat)) (xb xo xc yb yo zc : Nat) (xa za : Option Addr) (x y : List ByteArray) (w : World)
    (hca : cs ≠ [] → ca = some ⟨cb, co, none⟩) (hcs : ClassesAt w cb co cs) (hcl : cs.length ≤ 9223372036854775807) (htn : tn ≤ 9223372036854775807) (hra : ars ≠ [] → ra = some ⟨rb, ro, none⟩) (has : AritiesAt w rb ro ars) (hal : ars.length ≤ 9223372036854775807)
    (hxa : x ≠ [] → xa = some ⟨xb, xo, none⟩) (hx : StrsAt w xb xo x) (hlx : x.length ≤ 9223372036854775807) (hya : y ≠ [] → za = some ⟨yb, yo, none⟩) (hy : StrsAt w yb yo y) (hly : y.length ≤ 9223372036854775807) :
    Calls Try.prog 7 #[.agg #[.string nm, .slice ca cs.length cc, .slice ta tn tc, .slice ra ars.length rc, .slice oa on oc, .slice ya yn yc, .slice qa qn qc], .slice xa x.length xc, .slice za y.length zc] w fun e w' => e = .returned (.bool true) ∧ Below w.heap.size w w' := by
  have HCA := Lib.hid hca
  have HX := Lib.hid hx
  have HXA := Lib.hid hxa
  have HY := Lib.hid hy
  have HYA := Lib.hid hya
  have hclm : cs.length ≤ maxLen := by unfold maxLen; omega
  have hb0 : Below w.heap.size w (w.alloc (.cells #[.string nm, .slice ca cs.length cc, .slice ta tn tc, .slice ra ars.length rc, .slice oa on oc, .slice ya yn yc, .slice qa qn qc] 29)) := (Below.refl _ w).alloc (Nat.le_refl _) _
  have HTH := Lib.hid (Thy.mk (heap_alloc_new w (.cells #[.string nm, .slice ca cs.length cc, .slice ta tn tc, .slice ra ars.length rc, .slice oa on oc, .slice ya yn yc, .slice qa qn qc] 29)) (hcs.later hb0))
  have HFEW := Lib.hid (few_any nm ca ta ra oa ya qa cc tn tc rc on oc yn yc qn qc cb co rb ro cs ars _ hca (hcs.later hb0) hcl htn hra (has.later hb0) hal)
  have HB0 := Lib.hid hb0
  clear hb0 hca hcs hra has hx hxa hy hya
  go_enter Try.func7, Try.ntmps7
  go_wp2_with fail
  generalize (w.alloc (.cells #[.string nm, .slice ca cs.length cc, .slice ta tn tc, .slice ra ars.length rc, .slice oa on oc, .slice ya yn yc, .slice qa qn qc] 29)) = w1 at *
  refine HFEW.out.mono ?_
  rintro e w2 ⟨f, rfl, hb2⟩
  have HTH2 := Lib.hid (HTH.out.later hb2)
  have HB2 := Lib.hid (HB0.out.trans (hb2.mono HB0.out.size))
  clear hb2 HFEW
  cases f with
  | false =>
    go_wp2_with (go_at_call 11; refine (awake_any _).mono ?_; rintro e w' ⟨rfl, hb⟩; have HAW := Lib.hid (HB2.out.trans (hb.mono HB2.out.size)); clear hb)
    go_ret
    exact ⟨rfl, HAW.out⟩
  | true =>
    go_wp2_with fail
    have b3 : Below w2.heap.size w2 (w2.alloc (.cells #[.slice xa x.length xc, .slice za y.length zc] 27)) := (Below.refl _ _).alloc (Nat.le_refl _) _
    have n3 := heap_alloc_new w2 (.cells #[.slice xa x.length xc, .slice za y.length zc] 27)
    have z3 : (w2.alloc (.cells #[.slice xa x.length xc, .slice za y.length zc] 27)).heap.size = w2.heap.size + 1 := by simp
    have HTH3 := Lib.hid (HTH2.out.later b3)
    have HB3 := Lib.hid (HB2.out.trans (b3.mono HB2.out.size))
    generalize (w2.alloc (.cells #[.slice xa x.length xc, .slice za y.length zc] 27)) = w3 at *
    refine (fewSorts_any w2.heap.size 0 2 (some ⟨w2.heap.size, 0, none⟩) [x.length, y.length] w3 (fun _ => rfl) (fun i hi => ?_) (show (2 : Nat) ≤ 9223372036854775807 by decide)).mono ?_
    · refine ⟨by omega, ?_⟩
      rw [Lib.cell_of_heap n3, Nat.zero_add]
      match i, hi with
      | 0, _ => exact ⟨hlx, xa, xc, rfl⟩
      | 1, _ => exact ⟨hly, za, zc, rfl⟩
    rintro e w' ⟨rfl, rfl⟩
    cases hsh : shortB [x.length, y.length] with
    | false =>
      clear hsh b3 n3 z3
      go_wp2_with (go_at_call 11; refine (awake_any _).mono ?_; rintro e w' ⟨rfl, hb⟩; have HAW := Lib.hid (HB3.out.trans (hb.mono HB3.out.size)); clear hb)
      go_ret
      exact ⟨rfl, HAW.out⟩
    | true =>
      obtain ⟨hx25, hy25⟩ := short_two.1 hsh
      obtain ⟨g0, g1, g2, g3, g4, g5, g6⟩ := thy_cells HTH3.out.box
      have HN1 := Lib.hid (sortNormal_any nm ca ta ra oa ya qa cc tn tc ars.length rc on oc yn yc qn qc cb co cs xb xo xc xa x w3 HCA.out HTH3.out.cls hclm HXA.out (HX.out.later HB3.out) hlx)
      clear hsh b3 n3 z3 HTH2 HB2
      go_wp2_with fail
      refine HN1.out.mono ?_
      clear HN1
      rintro e w4 ⟨hN1, hb4⟩
      have HTH4 := Lib.hid (HTH3.out.later hb4)
      have HB4 := Lib.hid (HB3.out.trans (hb4.mono HB3.out.size))
      have HW34 := Lib.hid hb4.size
      clear g0 g1 g2 g3 g4 g5 g6 hb4
      obtain ⟨g0, g1, g2, g3, g4, g5, g6⟩ := thy_cells HTH4.out.box
      have HN2 := Lib.hid (sortNormal_any nm ca ta ra oa ya qa cc tn tc ars.length rc on oc yn yc qn qc cb co cs yb yo zc za y w4 HCA.out HTH4.out.cls hclm HYA.out (HY.out.later HB4.out) hly)
      rcases hN1 with ⟨hE1, rfl⟩ | ⟨hE1, v1, r1, rfl, hr1, ho1⟩
      · have q1 : (normErr cs x == 0) = false := by simpa using hE1
        have q2 : (normErr cs x != 0) = true := by simpa using hE1
        obtain ⟨E1, hE1e⟩ : ∃ E, normErr cs x = E := ⟨_, rfl⟩
        rw [hE1e] at q1 q2 ⊢
        clear hE1 hE1e
        go_wp2_with fail
        refine HN2.out.mono ?_
        clear HN2
        rintro e w5 ⟨hN2, hb5⟩
        have HB5 := Lib.hid (HB4.out.trans (hb5.mono HB4.out.size))
        clear hb5
        rcases hN2 with ⟨_, rfl⟩ | ⟨_, v2, r2, rfl, _, _⟩
        · go_wp2_with (go_at_call 11; refine (awake_any _).mono ?_; rintro e w' ⟨rfl, hb⟩; have HAW := Lib.hid (HB5.out.trans (hb.mono HB5.out.size)); clear hb)
          go_ret
          exact ⟨rfl, HAW.out⟩
        · go_wp2_with (go_at_call 11; refine (awake_any _).mono ?_; rintro e w' ⟨rfl, hb⟩; have HAW := Lib.hid (HB5.out.trans (hb.mono HB5.out.size)); clear hb)
          go_ret
          exact ⟨rfl, HAW.out⟩
      · have hz1 : ∀ z, z ∈ r1 → z.size ≤ maxLen := fun z hz => by
          obtain ⟨i, hi, rfl⟩ := List.getElem_of_mem ((hr1.mem z).1 hz).1
          exact HX.out.size i hi
        obtain ⟨a1, b1, c1, rfl, ha1, hs1⟩ := own_arg ho1 hz1
        have HA1 := Lib.hid ha1
        have HS1 := Lib.hid hs1
        have HE1 := Lib.hid hE1
        have HR1 := Lib.hid hr1
        clear hE1 hr1 ho1 hz1 ha1 hs1
        go_wp2_with fail
        refine HN2.out.mono ?_
        clear HN2
        rintro e w5 ⟨hN2, hb5⟩
        have HTH5 := Lib.hid (HTH4.out.later hb5)
        have HB5 := Lib.hid (HB4.out.trans (hb5.mono HB4.out.size))
        have HW45 := Lib.hid hb5
        clear hb5
        rcases hN2 with ⟨hE2, rfl⟩ | ⟨hE2, v2, r2, rfl, hr2, ho2⟩
        · have q1 : (normErr cs y == 0) = false := by simpa using hE2
          have q2 : (normErr cs y != 0) = true := by simpa using hE2
          obtain ⟨E2, hE2e⟩ : ∃ E, normErr cs y = E := ⟨_, rfl⟩
          rw [hE2e] at q1 q2 ⊢
          clear hE2 hE2e
          go_wp2_with (go_at_call 11; refine (awake_any _).mono ?_; rintro e w' ⟨rfl, hb⟩; have HAW := Lib.hid (HB5.out.trans (hb.mono HB5.out.size)); clear hb)
          go_ret
          exact ⟨rfl, HAW.out⟩
        · have hz2 : ∀ z, z ∈ r2 → z.size ≤ maxLen := fun z hz => by
            obtain ⟨i, hi, rfl⟩ := List.getElem_of_mem ((hr2.mem z).1 hz).1
            exact HY.out.size i hi
          obtain ⟨a2, b2, c2, rfl, ha2, hs2⟩ := own_arg ho2 hz2
          have HA2 := Lib.hid ha2
          have HS2 := Lib.hid hs2
          have HS15 := Lib.hid (HS1.out.later HW45.out)
          have HE2 := Lib.hid hE2
          have HR2 := Lib.hid hr2
          have hlr1 : r1.length ≤ 25 := by have := HR1.out.len; omega
          have hlr2 : r2.length ≤ 25 := by have := HR2.out.len; omega
          clear hE2 hr2 ho2 hz2 ha2 hs2 g0 g1 g2 g3 g4 g5 g6 HS1 HTH4 HTH3 HB3
          go_wp2_with fail
          refine (clone_any xb xo xc xa x w5 HXA.out (HX.out.later HB5.out) (by omega)).mono ?_
          rintro e w6 ⟨v3, rfl, ho3, hb6⟩
          have HO3 := Lib.hid ho3
          have HTH6 := Lib.hid (HTH5.out.later hb6)
          have HB6 := Lib.hid (HB5.out.trans (hb6.mono HB5.out.size))
          have HW56 := Lib.hid hb6
          obtain ⟨a3, c3, rfl⟩ := own_slice ho3
          clear ho3 hb6
          go_wp2_with fail
          refine (reverse_any w5.heap.size _ x w6 HO3.out (by omega)).mono ?_
          rintro e w7 ⟨rfl, ho4, hb7⟩
          have hrl : x.reverse.length = x.length := List.length_reverse
          have hz4 : ∀ z, z ∈ x.reverse → z.size ≤ maxLen := fun z hz => by
            obtain ⟨i, hi, rfl⟩ := List.getElem_of_mem (List.mem_reverse.1 hz)
            exact HX.out.size i hi
          obtain ⟨a4, b4, c4, hv4, ha4, hs4⟩ := own_arg ho4 hz4
          rw [hrl] at hv4
          cases hv4
          have HB57 := Lib.hid (HW56.out.trans (hb7.mono (Nat.le_refl _)))
          have HTH7 := Lib.hid (HTH5.out.later HB57.out)
          have HB7 := Lib.hid (HB5.out.trans (HB57.out.mono HB5.out.size))
          have HA4 := Lib.hid ha4
          have HS4 := Lib.hid hs4
          have HRL := Lib.hid hrl
          clear ho4 hb7 hz4 ha4 hs4 hrl HTH6 HB6 HO3
          obtain ⟨g0, g1, g2, g3, g4, g5, g6⟩ := thy_cells HTH7.out.box
          have HE3 := Lib.hid (normErr_same HE1.out (s' := x.reverse) (by rw [HRL.out]; exact Nat.le_refl _) (fun c hc => List.mem_reverse.1 hc))
          have HN3 := sortNormal_any nm ca ta ra oa ya qa cc tn tc ars.length rc on oc yn yc qn qc cb co cs b4 0 c3 a3 x.reverse w7 HCA.out HTH7.out.cls hclm HA4.out HS4.out (by rw [HRL.out]; exact hlx)
          rw [HRL.out, HE3.out] at HN3
          have HN3' := Lib.hid HN3
          clear HN3
          go_wp2_with fail
          refine HN3'.out.mono ?_
          clear HN3'
          rintro e w8 ⟨(⟨hE, _⟩ | ⟨_, v5, r3, rfl, hr3, ho5⟩), hb8⟩
          · exact absurd rfl hE
          have hr31 : r1 = r3 := (hr3.unique ltS_irr ltS_trans HR1.out (fun c => isLeast_of_mem (fun c => List.mem_reverse) c)).symm
          subst hr31
          have hz1 : ∀ z, z ∈ r1 → z.size ≤ maxLen := fun z hz => by
            obtain ⟨i, hi, rfl⟩ := List.getElem_of_mem ((HR1.out.mem z).1 hz).1
            exact HX.out.size i hi
          obtain ⟨a5, b5, c5, rfl, ha5, hs5⟩ := own_arg ho5 hz1
          have HZ1 := Lib.hid hz1
          have HA5 := Lib.hid ha5
          have HS5 := Lib.hid hs5
          have HB58 := Lib.hid (HB57.out.trans (hb8.mono HB57.out.size))
          have HTH8 := Lib.hid (HTH7.out.later hb8)
          have HB8 := Lib.hid (HB7.out.trans (hb8.mono HB7.out.size))
          clear ho5 hb8 ha5 hs5 hr3 hz1 g0 g1 g2 g3 g4 g5 g6 HTH7 HB7
          obtain ⟨g0, g1, g2, g3, g4, g5, g6⟩ := thy_cells HTH8.out.box
          have HE4 := Lib.hid (normErr_same HE1.out (s' := r1) HR1.out.len (fun c hc => ((HR1.out.mem c).1 hc).1))
          have HN4 := sortNormal_any nm ca ta ra oa ya qa cc tn tc ars.length rc on oc yn yc qn qc cb co cs b1 0 c1 a1 r1 w8 HCA.out HTH8.out.cls hclm HA1.out (HS15.out.later HB58.out) (by omega)
          rw [HE4.out] at HN4
          have HN4' := Lib.hid HN4
          clear HN4
          go_wp2_with fail
          refine HN4'.out.mono ?_
          clear HN4'
          rintro e w9 ⟨(⟨hE, _⟩ | ⟨_, v6, r4, rfl, hr4, ho6⟩), hb9⟩
          · exact absurd rfl hE
          have hr41 : r1 = r4 := (hr4.unique ltS_irr ltS_trans HR1.out (fun c => isLeast_idem HR1.out c)).symm
          subst hr41
          obtain ⟨a6, b6, c6, rfl, ha6, hs6⟩ := own_arg ho6 HZ1.out
          have HA6 := Lib.hid ha6
          have HS6 := Lib.hid hs6
          have HB59 := Lib.hid (HB58.out.trans (hb9.mono HB58.out.size))
          have HTH9 := Lib.hid (HTH8.out.later hb9)
          have HB9 := Lib.hid (HB8.out.trans (hb9.mono HB8.out.size))
          have HS59 := Lib.hid (HS5.out.later hb9)
          clear ho6 hb9 ha6 hs6 hr4 g0 g1 g2 g3 g4 g5 g6 HTH8 HB8 HS5
          have HEQ1 := equal_any b5 0 c5 b1 0 c1 a5 a1 r1 r1 w9 HA5.out HS59.out (by omega) HA1.out (HS15.out.later HB59.out) (by omega)
          rw [decide_eq_true rfl] at HEQ1
          have HQ1 := Lib.hid HEQ1
          clear HEQ1
          go_wp2_with fail
          refine HQ1.out.mono ?_
          clear HQ1
          rintro e w10 ⟨rfl, hb10⟩
          have HB510 := Lib.hid (HB59.out.trans (hb10.mono HB59.out.size))
          have HTH10 := Lib.hid (HTH9.out.later hb10)
          have HB10 := Lib.hid (HB9.out.trans (hb10.mono HB9.out.size))
          have HEQ2 := equal_any b6 0 c6 b1 0 c1 a6 a1 r1 r1 w10 HA6.out (HS6.out.later hb10) (by omega) HA1.out (HS15.out.later HB510.out) (by omega)
          rw [decide_eq_true rfl] at HEQ2
          have HQ2 := Lib.hid HEQ2
          clear HEQ2 hb10 HTH9 HB9 HB59
          go_wp2_with fail
          refine HQ2.out.mono ?_
          clear HQ2
          rintro e w11 ⟨rfl, hb11⟩
          have HB511 := Lib.hid (HB510.out.trans (hb11.mono HB510.out.size))
          have HTH11 := Lib.hid (HTH10.out.later hb11)
          have HB11 := Lib.hid (HB10.out.trans (hb11.mono HB10.out.size))
          clear hb11 HTH10 HB10 HB510
          obtain ⟨g0, g1, g2, g3, g4, g5, g6⟩ := thy_cells HTH11.out.box
          have HO := Lib.hid (normErr_zero HE1.out).1
          have HKX := Lib.hid (normErr_zero HE1.out).2.2
          have HKY := Lib.hid (normErr_zero HE2.out).2.2
          have HIFF := Lib.hid (normal_eq_iff (classes_ord HO.out) ltS_irr ltS_trans HR1.out HR2.out HKX.out HKY.out)
          have HL1 := sortLess_any nm ca ta ra oa ya qa cc tn tc ars.length rc on oc yn yc qn qc cb co cs xb xo xc yb yo zc xa za x y w11 HCA.out HTH11.out.cls hclm HXA.out (HX.out.later HB11.out) (by unfold maxLen; omega) HYA.out (HY.out.later HB11.out) (by unfold maxLen; omega) HO.out
          obtain ⟨L1, hL1⟩ : ∃ L, lessB (knownB cs) (belowB cs) x y = L := ⟨_, rfl⟩
          obtain ⟨L2, hL2⟩ : ∃ L, lessB (knownB cs) (belowB cs) y x = L := ⟨_, rfl⟩
          rw [hL1] at HL1
          rw [hL1, hL2] at HIFF
          have HL1' := Lib.hid HL1
          have HL2 := Lib.hid hL2
          clear HL1 hL1 hL2
          go_wp2_with fail
          refine HL1'.out.mono ?_
          clear HL1'
          rintro e w12 ⟨rfl, hb12⟩
          have HB512 := Lib.hid (HB511.out.trans (hb12.mono HB511.out.size))
          have HTH12 := Lib.hid (HTH11.out.later hb12)
          have HB12 := Lib.hid (HB11.out.trans (hb12.mono HB11.out.size))
          clear hb12 HTH11 HB11 HB511 g0 g1 g2 g3 g4 g5 g6
          cases L1 with
          | false =>
            have HDEC : decide (r1 = r2) = false := decide_eq_false fun e => by
              have := (HIFF.out.2 e).1
              cases this
            have HQ := equal_any b1 0 c1 b2 0 c2 a1 a2 r1 r2 w12 HA1.out (HS15.out.later HB512.out) (by omega) HA2.out (HS2.out.later HB512.out) (by omega)
            rw [show decide (r1 = r2) = false from HDEC] at HQ
            have HQ' := Lib.hid HQ
            clear HQ HDEC
            go_wp2_with fail
            refine HQ'.out.mono ?_
            clear HQ'
            rintro e wl ⟨rfl, hbl⟩
            have HBL := Lib.hid (HB12.out.trans (hbl.mono HB12.out.size))
            clear hbl
            go_wp2_with (go_at_call 11; refine (awake_any _).mono ?_; rintro e w' ⟨rfl, hb⟩; have HAW := Lib.hid (HBL.out.trans (hb.mono HBL.out.size)); clear hb)
            go_ret
            exact ⟨rfl, HAW.out⟩
          | true =>
            obtain ⟨g0, g1, g2, g3, g4, g5, g6⟩ := thy_cells HTH12.out.box
            have HL3 := sortLess_any nm ca ta ra oa ya qa cc tn tc ars.length rc on oc yn yc qn qc cb co cs yb yo zc xb xo xc za xa y x w12 HCA.out HTH12.out.cls hclm HYA.out (HY.out.later HB12.out) (by unfold maxLen; omega) HXA.out (HX.out.later HB12.out) (by unfold maxLen; omega) HO.out
            rw [HL2.out] at HL3
            have HL3' := Lib.hid HL3
            clear HL3
            cases L2 with
            | false =>
              go_wp2_with fail
              refine HL3'.out.mono ?_
              clear HL3'
              rintro e w13 ⟨rfl, hb13⟩
              have HB513 := Lib.hid (HB512.out.trans (hb13.mono HB512.out.size))
              have HB13 := Lib.hid (HB12.out.trans (hb13.mono HB12.out.size))
              clear hb13 g0 g1 g2 g3 g4 g5 g6
              have HDEC : decide (r1 = r2) = false := decide_eq_false fun e => by
                have := (HIFF.out.2 e).2
                cases this
              have HQ := equal_any b1 0 c1 b2 0 c2 a1 a2 r1 r2 w13 HA1.out (HS15.out.later HB513.out) (by omega) HA2.out (HS2.out.later HB513.out) (by omega)
              rw [show decide (r1 = r2) = false from HDEC] at HQ
              have HQ' := Lib.hid HQ
              clear HQ HDEC
              go_wp2_with fail
              refine HQ'.out.mono ?_
              clear HQ'
              rintro e wl ⟨rfl, hbl⟩
              have HBL := Lib.hid (HB13.out.trans (hbl.mono HB13.out.size))
              clear hbl
              go_wp2_with (go_at_call 11; refine (awake_any _).mono ?_; rintro e w' ⟨rfl, hb⟩; have HAW := Lib.hid (HBL.out.trans (hb.mono HBL.out.size)); clear hb)
              go_ret
              exact ⟨rfl, HAW.out⟩
            | true =>
              go_wp2_with fail
              refine HL3'.out.mono ?_
              clear HL3'
              rintro e w13 ⟨rfl, hb13⟩
              have HB513 := Lib.hid (HB512.out.trans (hb13.mono HB512.out.size))
              have HB13 := Lib.hid (HB12.out.trans (hb13.mono HB12.out.size))
              clear hb13 g0 g1 g2 g3 g4 g5 g6
              have HDEC : decide (r1 = r2) = true := decide_eq_true (HIFF.out.1 (by simp))
              have HQ := equal_any b1 0 c1 b2 0 c2 a1 a2 r1 r2 w13 HA1.out (HS15.out.later HB513.out) (by omega) HA2.out (HS2.out.later HB513.out) (by omega)
              rw [show decide (r1 = r2) = true from HDEC] at HQ
              have HQ' := Lib.hid HQ
              clear HQ HDEC
              go_wp2_with fail
              refine HQ'.out.mono ?_
              clear HQ'
              rintro e wl ⟨rfl, hbl⟩
              have HBL := Lib.hid (HB13.out.trans (hbl.mono HB13.out.size))
              clear hbl
              go_wp2_with (go_at_call 11; refine (awake_any _).mono ?_; rintro e w' ⟨rfl, hb⟩; have HAW := Lib.hid (HBL.out.trans (hb.mono HBL.out.size)); clear hb)
              go_ret
              exact ⟨rfl, HAW.out⟩
end Go.Proofs.Ytlaibimdkamcfaa
end

section
/-
  Arguments that read as data: a slice of strings, a theory with its classes and arities.
-/
namespace Go.Proofs.Ytlaibimdkamcfaa
open Go.RowKit Go.Deep

theorem list1 {α : Type} {l : List α} (h : l.length = 1) : ∃ a, l = [a] := by
  match l, h with
  | [a], _ => exact ⟨a, rfl⟩
theorem list2 {α : Type} {l : List α} (h : l.length = 2) : ∃ a b, l = [a, b] := by
  match l, h with
  | [a, b], _ => exact ⟨a, b, rfl⟩
theorem list3 {α : Type} {l : List α} (h : l.length = 3) : ∃ a b c, l = [a, b, c] := by
  match l, h with
  | [a, b, c], _ => exact ⟨a, b, c, rfl⟩
theorem list7 {α : Type} {l : List α} (h : l.length = 7) : ∃ a b c d e f g, l = [a, b, c, d, e, f, g] := by
  match l, h with
  | [a, b, c, d, e, f, g], _ => exact ⟨a, b, c, d, e, f, g, rfl⟩

section
variable {H : Type} {enc : TypeId × Value → H} {w : World} {base : Nat} {spare : Nat → Bool} {held : Bool}

theorem block_of_cell {W : World} {a : Addr} {v : Value} (h : W.cell? a = some v) : a.block < W.heap.size := by
  unfold World.cell? at h
  split at h
  · rename_i e; exact (Array.getElem?_eq_some_iff.1 e).1
  · simp at h

/-- A slice of things of k cells each. -/
theorem elems_of_trod {P : Program} {t e : TypeId} {k : Nat} {Q : Nat → Nat → Prop} (ht : P.underlying t = some (.slice e)) (hk : P.cellsOf e = k) (h0 : 0 < k)
    (hel : ∀ (n b o : Nat) (cs : List Value) (x : DataW H × List MemPlace), (∀ j, j < k → w.cell? ⟨b, o + j, none⟩ = cs[j]?) → cs.length = k → b < w.heap.size → DataW.trod enc P w base spare held n e cs = some x → Q b o)
    {fuel : Nat} {v : Value} {x : DataW H × List MemPlace} (h : DataW.trod enc P w base spare held fuel t [v] = some x) :
    ∃ (n : Nat) (a : Option Addr) (cap b o : Nat), v = .slice a n cap ∧ n ≤ 9223372036854775807 ∧ (0 < n → a = some ⟨b, o, none⟩ ∧ b < w.heap.size) ∧ ∀ i, i < n → Q b (o + i * k) := by
  rcases DataW.trod_slice ht h with ⟨h0, _⟩ | ⟨a, len, cap, elems, rest, m, rfl, hv, _, hb, hle, hcap, hlen, hee, _, _⟩
  · simp only [List.cons.injEq, and_true] at h0
    subst h0
    exact ⟨0, none, 0, 0, 0, rfl, by omega, fun h => by omega, fun i hi => by omega⟩
  · simp only [List.cons.injEq, and_true] at hv
    subst hv
    have hmax : len ≤ 9223372036854775807 := by have := hcap; unfold maxLen at this; omega
    by_cases hl0 : len = 0
    · subst hl0
      exact ⟨0, some a, cap, 0, 0, rfl, by omega, fun h => by omega, fun i hi => by omega⟩
    · have hcell : ∀ i, i < len → ∃ (cs : List Value) (y : DataW H × List MemPlace), (∀ j, j < k → w.cell? ((a.add (i * k)).add j) = cs[j]?) ∧ cs.length = k ∧ DataW.trod enc P w base spare held m e cs = some y := by
        intro i hi
        have := hee i hi
        rw [List.getElem?_eq_getElem (by omega), hk] at this
        obtain ⟨cs, h1, h2⟩ := Option.bind_eq_some_iff.1 this
        obtain ⟨_, h3, h4⟩ := World.cells?_some h1
        exact ⟨cs, _, h4, h3, h2⟩
      obtain ⟨cs0, y0, hc0, hl0', _⟩ := hcell 0 (by omega)
      have hc00 := hc0 0 h0
      rw [List.getElem?_eq_getElem (by omega)] at hc00
      have hs : a.spot = none := by simpa [Addr.add] using World.cell?_spot hc00
      have hblk : a.block < w.heap.size := by simpa [Addr.add] using block_of_cell hc00
      obtain ⟨b, o, sp⟩ := a
      simp only at hs hblk
      subst hs
      refine ⟨len, _, cap, b, o, rfl, hmax, fun _ => ⟨rfl, hblk⟩, fun i hi => ?_⟩
      obtain ⟨cs, y, h4, h5, h6⟩ := hcell i hi
      refine hel m b (o + i * k) cs y (fun j hj => ?_) h5 hblk h6
      have := h4 j hj
      rwa [Go.WideShapes.add_plain, Go.WideShapes.add_plain] at this

theorem slice_of_trod {P : Program} {t e : TypeId} (ht : P.underlying t = some (.slice e)) {fuel : Nat} {v : Value} {x : DataW H × List MemPlace} (h : DataW.trod enc P w base spare held fuel t [v] = some x) : ∃ (n : Nat) (a : Option Addr) (cap : Nat), v = .slice a n cap ∧ n ≤ 9223372036854775807 := by
  rcases DataW.trod_slice ht h with ⟨h0, _⟩ | ⟨a, len, cap, elems, rest, m, rfl, hv, _, hb, hle, hcap, hlen, hee, _, _⟩
  · simp only [List.cons.injEq, and_true] at h0
    subst h0
    exact ⟨0, none, 0, rfl, by omega⟩
  · simp only [List.cons.injEq, and_true] at hv
    subst hv
    exact ⟨len, _, cap, rfl, by unfold maxLen at hcap; omega⟩

/-- A slice of strings as an argument. -/
def HasStrs (W : World) (v : Value) (l : List ByteArray) : Prop :=
  ∃ (a : Option Addr) (cap b o : Nat), v = .slice a l.length cap ∧ l.length ≤ 9223372036854775807 ∧ (l ≠ [] → a = some ⟨b, o, none⟩) ∧ StrsAt W b o l

theorem cells9 : Try.prog.cellsOf 9 = 1 := by kernel_rfl
theorem cells27 : Try.prog.cellsOf 27 = 1 := by kernel_rfl
theorem cells44 : Try.prog.cellsOf 44 = 1 := by kernel_rfl
theorem cells60 : Try.prog.cellsOf 60 = 2 := by kernel_rfl
theorem cells62 : Try.prog.cellsOf 62 = 3 := by kernel_rfl
theorem cells22 : Try.prog.cellsOf 22 = 1 := by kernel_rfl
theorem cells23 : Try.prog.cellsOf 23 = 1 := by kernel_rfl
theorem cells24 : Try.prog.cellsOf 24 = 1 := by kernel_rfl
theorem cells25 : Try.prog.cellsOf 25 = 1 := by kernel_rfl
theorem cells26 : Try.prog.cellsOf 26 = 1 := by kernel_rfl
theorem cells29 : Try.prog.cellsOf 29 = 7 := by kernel_rfl

/-- Choose a list out of what holds at each place. -/
theorem choose_list {α : Type} {n : Nat} {Q : Nat → α → Prop} (h : ∀ i, i < n → ∃ c, Q i c) : ∃ l : List α, l.length = n ∧ ∀ i (hi : i < l.length), Q i l[i] := by
  induction n with
  | zero => exact ⟨[], rfl, fun i hi => by simp at hi⟩
  | succ n ih =>
    obtain ⟨l, hl, hq⟩ := ih (fun i hi => h i (by omega))
    obtain ⟨c, hc⟩ := h n (by omega)
    refine ⟨l ++ [c], by simp [hl], fun i hi => ?_⟩
    by_cases hin : i < l.length
    · rw [List.getElem_append_left hin]; exact hq i hin
    · have : i = l.length := by simp at hi; omega
      subst this
      rw [List.getElem_append_right (Nat.le_refl _)]
      simpa [hl] using hc

theorem strs_arg {fuel : Nat} {v : Value} {x : DataW H × List MemPlace} (h : DataW.trod enc Try.prog w base spare held fuel 27 [v] = some x) : ∃ l, HasStrs w v l := by
  obtain ⟨n, a, cap, b, o, rfl, hn, ha, hq⟩ := elems_of_trod (Q := fun b o => ∃ s : ByteArray, w.cell? ⟨b, o, none⟩ = some (.string s) ∧ s.size ≤ maxLen) Try.underlying27 cells9 (by decide) (fun n b o cs x hc hl hb ht => by
    obtain ⟨v0, rfl⟩ := list1 hl
    obtain ⟨s, e1, _, w1⟩ := DataW.trod_string Try.underlying9 ht
    simp only [List.cons.injEq, and_true] at e1
    subst e1
    exact ⟨s, hc 0 (by decide), w1⟩) h
  obtain ⟨l, hl, hl2⟩ := choose_list (n := n) (Q := fun i s => w.cell? ⟨b, o + i * 1, none⟩ = some (.string s) ∧ s.size ≤ maxLen) hq
  subst hl
  refine ⟨l, a, cap, b, o, rfl, hn, fun hne => (ha (List.length_pos_iff.2 hne)).1, fun hne => (ha (List.length_pos_iff.2 hne)).2, fun i hi => ?_, fun i hi => (hl2 i hi).2⟩
  have := (hl2 i hi).1
  rwa [Nat.mul_one] at this

set_option maxRecDepth 100000 in
theorem class_of_trod {n b o : Nat} {cs : List Value} {x : DataW H × List MemPlace} (hc : ∀ j, j < 2 → w.cell? ⟨b, o + j, none⟩ = cs[j]?) (hl : cs.length = 2) (ht : DataW.trod enc Try.prog w base spare held n 60 cs = some x) : ∃ c : Cls, ClsAt w b o c := by
  obtain ⟨xs, m, rfl, rfl, hlen, hxs, hf⟩ := DataW.trod_struct Try.underlying60 ht
  have hx2 : xs.length = 2 := by simpa using hxs
  obtain ⟨v0, v1, rfl⟩ := list2 hl
  have g0 : DataW.trod enc Try.prog w base spare held m 9 (List.take (Try.prog.cellsOf 9) (List.drop 0 [v0, v1])) = xs[0]? := hf 0 _ rfl
  have g1 : DataW.trod enc Try.prog w base spare held m 27 (List.take (Try.prog.cellsOf 27) (List.drop 1 [v0, v1])) = xs[1]? := hf 1 _ rfl
  simp only [cells9, cells27] at g0 g1
  rw [List.getElem?_eq_getElem (by omega)] at g0 g1
  simp only [List.drop_succ_cons, List.drop_zero, List.take_succ_cons, List.take_zero] at g0 g1
  obtain ⟨s, e1, _, w1⟩ := DataW.trod_string Try.underlying9 g0
  obtain ⟨l, a, cap, sb, so, e2, hl9, ha, hst⟩ := strs_arg g1
  simp only [List.cons.injEq, and_true] at e1
  subst e1 e2
  exact ⟨⟨s, l⟩, a, sb, so, cap, hc 0 (by decide), hc 1 (by decide), ha, hst, w1, by unfold maxLen; exact hl9⟩

set_option maxRecDepth 100000 in
theorem arity_of_trod {n b o : Nat} {cs : List Value} {x : DataW H × List MemPlace} (hc : ∀ j, j < 3 → w.cell? ⟨b, o + j, none⟩ = cs[j]?) (hl : cs.length = 3) (ht : DataW.trod enc Try.prog w base spare held n 62 cs = some x) :
    ∃ ns : List Nat, ns.length ≤ 9223372036854775807 ∧ ∃ (t k : ByteArray) (a : Option Addr) (sb so c : Nat), w.cell? ⟨b, o, none⟩ = some (.string t) ∧ w.cell? ⟨b, o + 1, none⟩ = some (.string k) ∧ w.cell? ⟨b, o + 2, none⟩ = some (.slice a ns.length c) ∧ (ns ≠ [] → a = some ⟨sb, so, none⟩) ∧ LensAt w sb so ns := by
  obtain ⟨xs, m, rfl, rfl, hlen, hxs, hf⟩ := DataW.trod_struct Try.underlying62 ht
  have hx3 : xs.length = 3 := by simpa using hxs
  obtain ⟨v0, v1, v2, rfl⟩ := list3 hl
  have g0 : DataW.trod enc Try.prog w base spare held m 9 (List.take (Try.prog.cellsOf 9) (List.drop 0 [v0, v1, v2])) = xs[0]? := hf 0 _ rfl
  have g1 : DataW.trod enc Try.prog w base spare held m 9 (List.take (Try.prog.cellsOf 9) (List.drop 1 [v0, v1, v2])) = xs[1]? := hf 1 _ rfl
  have g2 : DataW.trod enc Try.prog w base spare held m 44 (List.take (Try.prog.cellsOf 44) (List.drop 2 [v0, v1, v2])) = xs[2]? := hf 2 _ rfl
  simp only [cells9, cells44] at g0 g1 g2
  rw [List.getElem?_eq_getElem (by omega)] at g0 g1 g2
  simp only [List.drop_succ_cons, List.drop_zero, List.take_succ_cons, List.take_zero] at g0 g1 g2
  obtain ⟨s, e1, _, w1⟩ := DataW.trod_string Try.underlying9 g0
  obtain ⟨s', e2, _, w2⟩ := DataW.trod_string Try.underlying9 g1
  obtain ⟨k, a, cap, sb, so, e3, hn, ha, hq⟩ := elems_of_trod (Q := fun b o => b < w.heap.size ∧ ∃ (n : Nat) (a : Option Addr) (c : Nat), n ≤ 9223372036854775807 ∧ w.cell? ⟨b, o, none⟩ = some (.slice a n c)) Try.underlying44 cells27 (by decide) (fun n b o cs x hc hl hb ht => by
    obtain ⟨v0, rfl⟩ := list1 hl
    obtain ⟨n', a', c', rfl, hn'⟩ := slice_of_trod Try.underlying27 ht
    exact ⟨hb, n', a', c', hn', hc 0 (by decide)⟩) g2
  obtain ⟨l, hl, hl2⟩ := choose_list (n := k) (Q := fun i n => sb < w.heap.size ∧ ∃ (a : Option Addr) (c : Nat), n ≤ 9223372036854775807 ∧ w.cell? ⟨sb, so + i * 1, none⟩ = some (.slice a n c)) (fun i hi => by
    obtain ⟨hb, n, a, c, h1, h2⟩ := hq i hi
    exact ⟨n, hb, a, c, h1, h2⟩)
  subst hl
  simp only [List.cons.injEq, and_true] at e1 e2
  subst e1 e2 e3
  refine ⟨l, hn, s, s', a, sb, so, cap, hc 0 (by decide), hc 1 (by decide), hc 2 (by decide), fun hne => (ha (List.length_pos_iff.2 hne)).1, fun i hi => ?_⟩
  obtain ⟨hb, a', c', h1, h2⟩ := hl2 i hi
  rw [Nat.mul_one] at h2
  exact ⟨hb, h1, a', c', h2⟩

/-- A theory as an argument. -/
def HasThy (W : World) (v : Value) : Prop :=
  ∃ (nm : ByteArray) (ca ta ra oa ya qa : Option Addr) (cc tn tc rc on oc yn yc qn qc cb co rb ro : Nat) (cs : List Cls) (ars : List (List Nat)),
    v = .agg #[.string nm, .slice ca cs.length cc, .slice ta tn tc, .slice ra ars.length rc, .slice oa on oc, .slice ya yn yc, .slice qa qn qc] ∧ (cs ≠ [] → ca = some ⟨cb, co, none⟩) ∧ ClassesAt W cb co cs ∧ cs.length ≤ 9223372036854775807 ∧
    tn ≤ 9223372036854775807 ∧ (ars ≠ [] → ra = some ⟨rb, ro, none⟩) ∧ AritiesAt W rb ro ars ∧ ars.length ≤ 9223372036854775807

set_option maxRecDepth 100000 in
theorem thy_arg {fuel : Nat} {cs : List Value} {x : DataW H × List MemPlace} (h : DataW.trod enc Try.prog w base spare held fuel 29 cs = some x) : HasThy w (.agg cs.toArray) := by
  obtain ⟨xs, m, rfl, rfl, hlen, hxs, hf⟩ := DataW.trod_struct Try.underlying29 h
  rw [cells29] at hlen
  have hx7 : xs.length = 7 := by simpa using hxs
  obtain ⟨v0, v1, v2, v3, v4, v5, v6, rfl⟩ := list7 hlen
  have g0 : DataW.trod enc Try.prog w base spare held m 9 (List.take (Try.prog.cellsOf 9) (List.drop 0 [v0, v1, v2, v3, v4, v5, v6])) = xs[0]? := hf 0 _ rfl
  have g1 : DataW.trod enc Try.prog w base spare held m 22 (List.take (Try.prog.cellsOf 22) (List.drop 1 [v0, v1, v2, v3, v4, v5, v6])) = xs[1]? := hf 1 _ rfl
  have g2 : DataW.trod enc Try.prog w base spare held m 23 (List.take (Try.prog.cellsOf 23) (List.drop 2 [v0, v1, v2, v3, v4, v5, v6])) = xs[2]? := hf 2 _ rfl
  have g3 : DataW.trod enc Try.prog w base spare held m 24 (List.take (Try.prog.cellsOf 24) (List.drop 3 [v0, v1, v2, v3, v4, v5, v6])) = xs[3]? := hf 3 _ rfl
  have g4 : DataW.trod enc Try.prog w base spare held m 25 (List.take (Try.prog.cellsOf 25) (List.drop 4 [v0, v1, v2, v3, v4, v5, v6])) = xs[4]? := hf 4 _ rfl
  have g5 : DataW.trod enc Try.prog w base spare held m 26 (List.take (Try.prog.cellsOf 26) (List.drop 5 [v0, v1, v2, v3, v4, v5, v6])) = xs[5]? := hf 5 _ rfl
  have g6 : DataW.trod enc Try.prog w base spare held m 27 (List.take (Try.prog.cellsOf 27) (List.drop 6 [v0, v1, v2, v3, v4, v5, v6])) = xs[6]? := hf 6 _ rfl
  simp only [cells9, cells22, cells23, cells24, cells25, cells26, cells27] at g0 g1 g2 g3 g4 g5 g6
  rw [List.getElem?_eq_getElem (by omega)] at g0 g1 g2 g3 g4 g5 g6
  simp only [List.drop_succ_cons, List.drop_zero, List.take_succ_cons, List.take_zero] at g0 g1 g2 g3 g4 g5 g6
  obtain ⟨nm, e0, _, w0⟩ := DataW.trod_string Try.underlying9 g0
  obtain ⟨tn, ta, tc, e2, htn⟩ := slice_of_trod Try.underlying23 g2
  obtain ⟨on, oa, oc, e4, _⟩ := slice_of_trod Try.underlying25 g4
  obtain ⟨yn, ya, yc, e5, _⟩ := slice_of_trod Try.underlying26 g5
  obtain ⟨qn, qa, qc, e6, _⟩ := slice_of_trod Try.underlying27 g6
  obtain ⟨cn, ca, cc, cb, co, e1, hcn, hca, hcq⟩ := elems_of_trod (Q := fun b o => b < w.heap.size ∧ ∃ c : Cls, ClsAt w b o c) Try.underlying22 cells60 (by decide) (fun n b o cs x hc hl hb ht => ⟨hb, class_of_trod hc hl ht⟩) g1
  obtain ⟨rn, ra, rc, rb, ro, e3, hrn, hra, hrq⟩ := elems_of_trod (Q := fun b o => b < w.heap.size ∧ ∃ ns : List Nat, ns.length ≤ 9223372036854775807 ∧ ∃ (t k : ByteArray) (a : Option Addr) (sb so c : Nat), w.cell? ⟨b, o, none⟩ = some (.string t) ∧ w.cell? ⟨b, o + 1, none⟩ = some (.string k) ∧ w.cell? ⟨b, o + 2, none⟩ = some (.slice a ns.length c) ∧ (ns ≠ [] → a = some ⟨sb, so, none⟩) ∧ LensAt w sb so ns) Try.underlying24 cells62 (by decide) (fun n b o cs x hc hl hb ht => ⟨hb, arity_of_trod hc hl ht⟩) g3
  obtain ⟨cs, hcl, hcs⟩ := choose_list (n := cn) (Q := fun i c => cb < w.heap.size ∧ ClsAt w cb (co + i * 2) c) (fun i hi => by obtain ⟨hb, c, hc⟩ := hcq i hi; exact ⟨c, hb, hc⟩)
  obtain ⟨ars, hal, has⟩ := choose_list (n := rn) (Q := fun i (ns : List Nat) => rb < w.heap.size ∧ ns.length ≤ 9223372036854775807 ∧ ∃ (t k : ByteArray) (a : Option Addr) (sb so c : Nat), w.cell? ⟨rb, ro + i * 3, none⟩ = some (.string t) ∧ w.cell? ⟨rb, ro + i * 3 + 1, none⟩ = some (.string k) ∧ w.cell? ⟨rb, ro + i * 3 + 2, none⟩ = some (.slice a ns.length c) ∧ (ns ≠ [] → a = some ⟨sb, so, none⟩) ∧ LensAt w sb so ns)
    (fun i hi => by obtain ⟨hb, ns, hns⟩ := hrq i hi; exact ⟨ns, hb, hns⟩)
  subst hcl hal
  simp only [List.cons.injEq, and_true] at e0
  subst e0 e1 e2 e3 e4 e5 e6
  exact ⟨nm, ca, ta, ra, oa, ya, qa, cc, tn, tc, rc, on, oc, yn, yc, qn, qc, cb, co, rb, ro, cs, ars, rfl, fun hne => (hca (List.length_pos_iff.2 hne)).1, hcs, hcn, htn, fun hne => (hra (List.length_pos_iff.2 hne)).1, has, hrn⟩
end
end Go.Proofs.Ytlaibimdkamcfaa
end

