/-
  SortOrder: the statement's own walk.
-/
import Derived.Test.YtlaibimdkamcfaaE12
import Derived.Outline
namespace Go.Proofs.Ytlaibimdkamcfaa
open Go.RowKit Go.Maps

/-- What a question of Less answers. -/
structure Is (b A : Bool) : Prop where
  eq : b = A

theorem pick {b L A : Bool} (h : Hid (b = L)) (h' : Is b A) : L = A := h.out.symm.trans h'.eq

set_option maxRecDepth 100000 in
set_option maxHeartbeats 8000000 in
theorem sortOrder_walk (nm : ByteArray) (ca ta ra oa ya qa : Option Addr) (cc tn tc rc on oc yn yc qn qc cb co rb ro : Nat) (cs : List Cls) (ars : List (List Nat)) (xc yc' zc : Nat) (xa ya' za : Option Addr) (x y z : List ByteArray) (w : World)
    (hca : cs ≠ [] → ca = some ⟨cb, co, none⟩) (hcs : ClassesAt w cb co cs) (hcl : cs.length ≤ 9223372036854775807) (htn : tn ≤ 9223372036854775807) (hra : ars ≠ [] → ra = some ⟨rb, ro, none⟩) (has : AritiesAt w rb ro ars) (hal : ars.length ≤ 9223372036854775807)
    (hx : SortAt w xa x) (hy : SortAt w ya' y) (hz : SortAt w za z) :
    Calls Try.prog 6 #[.agg #[.string nm, .slice ca cs.length cc, .slice ta tn tc, .slice ra ars.length rc, .slice oa on oc, .slice ya yn yc, .slice qa qn qc], .slice xa x.length xc, .slice ya' y.length yc', .slice za z.length zc] w fun e w' => e = .returned (.bool true) ∧ Below w.heap.size w w' := by
  have hclm : cs.length ≤ maxLen := by unfold maxLen; omega
  have hb0 : Below w.heap.size w (w.alloc (.cells #[.string nm, .slice ca cs.length cc, .slice ta tn tc, .slice ra ars.length rc, .slice oa on oc, .slice ya yn yc, .slice qa qn qc] 29)) := (Below.refl _ w).alloc (Nat.le_refl _) _
  have HTH := Lib.hid (ThyAt.mk (Thy.mk (heap_alloc_new w (.cells #[.string nm, .slice ca cs.length cc, .slice ta tn tc, .slice ra ars.length rc, .slice oa on oc, .slice ya yn yc, .slice qa qn qc] 29)) (hcs.later hb0)) hca hclm : ThyAt nm ca ta ra oa ya qa cc tn tc ars.length rc on oc yn yc qn qc cb co cs w.heap.size _)
  have HFEW := Lib.hid (few_any nm ca ta ra oa ya qa cc tn tc rc on oc yn yc qn qc cb co rb ro cs ars _ hca (hcs.later hb0) hcl htn hra (has.later hb0) hal)
  have HX := Lib.hid (hx.later hb0)
  have HY := Lib.hid (hy.later hb0)
  have HZ := Lib.hid (hz.later hb0)
  have hlx : x.length ≤ 9223372036854775807 := hx.choose_spec.choose_spec.2.2
  have hly : y.length ≤ 9223372036854775807 := hy.choose_spec.choose_spec.2.2
  have hlz : z.length ≤ 9223372036854775807 := hz.choose_spec.choose_spec.2.2
  have HB0 := Lib.hid hb0
  clear hb0 hca hcs hra has hx hy hz
  go_enter Try.func6, Try.ntmps6
  go_wp2_with fail
  generalize (w.alloc (.cells #[.string nm, .slice ca cs.length cc, .slice ta tn tc, .slice ra ars.length rc, .slice oa on oc, .slice ya yn yc, .slice qa qn qc] 29)) = w1 at *
  refine HFEW.out.mono ?_
  rintro e w2 ⟨f, rfl, hb2⟩
  have HTH2 := Lib.hid (HTH.out.later hb2)
  have HX2 := Lib.hid (HX.out.later hb2)
  have HY2 := Lib.hid (HY.out.later hb2)
  have HZ2 := Lib.hid (HZ.out.later hb2)
  have HB2 := Lib.hid (HB0.out.trans (hb2.mono HB0.out.size))
  clear hb2 HFEW HTH HX HY HZ
  cases f with
  | false =>
    go_wp2_with (go_at_call 11; refine (awake_any _).mono ?_; rintro e w' ⟨rfl, hb⟩; have HAW := Lib.hid (HB2.out.trans (hb.mono HB2.out.size)); clear hb)
    go_ret
    exact ⟨rfl, HAW.out⟩
  | true =>
    go_wp2_with fail
    have b3 : Below w2.heap.size w2 (w2.alloc (.cells #[.slice xa x.length xc, .slice ya' y.length yc', .slice za z.length zc] 27)) := (Below.refl _ _).alloc (Nat.le_refl _) _
    have n3 := heap_alloc_new w2 (.cells #[.slice xa x.length xc, .slice ya' y.length yc', .slice za z.length zc] 27)
    have z3 : (w2.alloc (.cells #[.slice xa x.length xc, .slice ya' y.length yc', .slice za z.length zc] 27)).heap.size = w2.heap.size + 1 := by simp
    have HTH3 := Lib.hid (HTH2.out.later b3)
    have HX3 := Lib.hid (HX2.out.later b3)
    have HY3 := Lib.hid (HY2.out.later b3)
    have HZ3 := Lib.hid (HZ2.out.later b3)
    have HB3 := Lib.hid (HB2.out.trans (b3.mono HB2.out.size))
    generalize (w2.alloc (.cells #[.slice xa x.length xc, .slice ya' y.length yc', .slice za z.length zc] 27)) = w3 at *
    refine (fewSorts_any w2.heap.size 0 3 (some ⟨w2.heap.size, 0, none⟩) [x.length, y.length, z.length] w3 (fun _ => rfl) (fun i hi => ?_) (show (3 : Nat) ≤ 9223372036854775807 by decide)).mono ?_
    · refine ⟨by omega, ?_⟩
      rw [Lib.cell_of_heap n3, Nat.zero_add]
      match i, hi with
      | 0, _ => exact ⟨hlx, xa, xc, rfl⟩
      | 1, _ => exact ⟨hly, ya', yc', rfl⟩
      | 2, _ => exact ⟨hlz, za, zc, rfl⟩
    rintro e w' ⟨rfl, rfl⟩
    cases hsh : shortB [x.length, y.length, z.length] with
    | false =>
      clear hsh b3 n3 z3
      go_wp2_with (go_at_call 11; refine (awake_any _).mono ?_; rintro e w' ⟨rfl, hb⟩; have HAW := Lib.hid (HB3.out.trans (hb.mono HB3.out.size)); clear hb)
      go_ret
      exact ⟨rfl, HAW.out⟩
    | true =>
      obtain ⟨g0, g1, g2, g3, g4, g5, g6⟩ := HTH3.out.cells
      clear hsh b3 n3 z3 HTH2 HB2 HX2 HY2 HZ2
      go_wp2_with fail
      refine (normal_uni HTH3.out HX3.out).mono ?_
      rintro e w4 ⟨a1, r1, c1, E1, rfl, h1, hb⟩
      have HN1 := Lib.hid h1
      have HB34 := Lib.hid hb
      have HTH4 := Lib.hid (HTH3.out.later hb)
      have HX4 := Lib.hid (HX3.out.later hb)
      have HY4 := Lib.hid (HY3.out.later hb)
      have HZ4 := Lib.hid (HZ3.out.later hb)
      have HB4 := Lib.hid (HB3.out.trans (hb.mono HB3.out.size))
      clear h1 hb g0 g1 g2 g3 g4 g5 g6 HTH3 HX3 HY3 HZ3 HB3 HB34
      obtain ⟨g0, g1, g2, g3, g4, g5, g6⟩ := HTH4.out.cells
      go_wp2_with fail
      refine (normal_uni HTH4.out HY4.out).mono ?_
      rintro e w5 ⟨a2, r2, c2, E2, rfl, h1, hb⟩
      have HN2 := Lib.hid (fun h => (h1 h).1)
      have HB45 := Lib.hid hb
      have HTH5 := Lib.hid (HTH4.out.later hb)
      have HX5 := Lib.hid (HX4.out.later hb)
      have HY5 := Lib.hid (HY4.out.later hb)
      have HZ5 := Lib.hid (HZ4.out.later hb)
      have HB5 := Lib.hid (HB4.out.trans (hb.mono HB4.out.size))
      clear h1 hb g0 g1 g2 g3 g4 g5 g6 HTH4 HX4 HY4 HZ4 HB4
      obtain ⟨g0, g1, g2, g3, g4, g5, g6⟩ := HTH5.out.cells
      go_wp2_with fail
      refine (normal_uni HTH5.out HZ5.out).mono ?_
      rintro e w6 ⟨a3, r3, c3, E3, rfl, h1, hb⟩
      have HN3 := Lib.hid (fun h => (h1 h).1)
      have HB46 := Lib.hid (HB45.out.trans (hb.mono HB45.out.size))
      have HTH6 := Lib.hid (HTH5.out.later hb)
      have HX6 := Lib.hid (HX5.out.later hb)
      have HY6 := Lib.hid (HY5.out.later hb)
      have HZ6 := Lib.hid (HZ5.out.later hb)
      have HB6 := Lib.hid (HB5.out.trans (hb.mono HB5.out.size))
      clear h1 hb g0 g1 g2 g3 g4 g5 g6 HTH5 HX5 HY5 HZ5 HB5 HB45
      obtain ⟨g0, g1, g2, g3, g4, g5, g6⟩ := HTH6.out.cells
      go_wp2_with fail
      refine (meet_uni HTH6.out HX6.out HY6.out).mono ?_
      rintro e w7 ⟨a4, r4, c4, E4, rfl, h1, hb⟩
      have HN4 := Lib.hid h1
      have HB47 := Lib.hid (HB46.out.trans (hb.mono HB46.out.size))
      have HTH7 := Lib.hid (HTH6.out.later hb)
      have HX7 := Lib.hid (HX6.out.later hb)
      have HY7 := Lib.hid (HY6.out.later hb)
      have HZ7 := Lib.hid (HZ6.out.later hb)
      have HB7 := Lib.hid (HB6.out.trans (hb.mono HB6.out.size))
      clear h1 hb g0 g1 g2 g3 g4 g5 g6 HTH6 HX6 HY6 HZ6 HB6 HB46
      by_cases e1 : E1 = 0
      case neg =>
        have q1 : (E1 == 0) = false := by simpa using e1
        have q2 : (E1 != 0) = true := by simpa using e1
        clear e1
        go_wp2_with (go_at_call 11; refine (awake_any _).mono ?_; rintro e w' ⟨rfl, hb⟩; have HAW := Lib.hid (HB7.out.trans (hb.mono HB7.out.size)); clear hb)
        go_ret
        exact ⟨rfl, HAW.out⟩
      case pos =>
      subst e1
      by_cases e2 : E2 = 0
      case neg =>
        have q1 : (E2 == 0) = false := by simpa using e2
        have q2 : (E2 != 0) = true := by simpa using e2
        clear e2
        go_wp2_with (go_at_call 11; refine (awake_any _).mono ?_; rintro e w' ⟨rfl, hb⟩; have HAW := Lib.hid (HB7.out.trans (hb.mono HB7.out.size)); clear hb)
        go_ret
        exact ⟨rfl, HAW.out⟩
      case pos =>
      subst e2
      by_cases e3 : E3 = 0
      case neg =>
        have q1 : (E3 == 0) = false := by simpa using e3
        have q2 : (E3 != 0) = true := by simpa using e3
        clear e3
        go_wp2_with (go_at_call 11; refine (awake_any _).mono ?_; rintro e w' ⟨rfl, hb⟩; have HAW := Lib.hid (HB7.out.trans (hb.mono HB7.out.size)); clear hb)
        go_ret
        exact ⟨rfl, HAW.out⟩
      case pos =>
      subst e3
      by_cases e4 : E4 = 0
      case neg =>
        have q1 : (E4 == 0) = false := by simpa using e4
        have q2 : (E4 != 0) = true := by simpa using e4
        clear e4
        go_wp2_with (go_at_call 11; refine (awake_any _).mono ?_; rintro e w' ⟨rfl, hb⟩; have HAW := Lib.hid (HB7.out.trans (hb.mono HB7.out.size)); clear hb)
        go_ret
        exact ⟨rfl, HAW.out⟩
      case pos =>
      subst e4
      obtain ⟨k1, hn1, hs1⟩ := HN1.out rfl
      have k2 := HN2.out rfl
      have k3 := HN3.out rfl
      obtain ⟨p, q, hp, hq, hr4, hs4⟩ := HN4.out rfl
      have hO := (normErr_zero k1).1
      have o := classes_ord hO
      have HS1 := Lib.hid (hs1.later HB47.out)
      have HS4 := Lib.hid hs4
      have HO := Lib.hid hO
      have ka := (normErr_zero k1).2.2
      have kb := (normErr_zero k2).2.2
      obtain ⟨m1, m2, m3⟩ := meet_greatest o hp hq hr4 ka kb (c := z)
      have L1 := Is.mk (less_refl o ka)
      have L2 := Is.mk (less_normal_left o hn1 ka)
      have L3 := Is.mk (less_normal_right o hn1 ka)
      have L4 := Is.mk m1
      have L5 := Is.mk m2
      have hcases : ∀ (P : Prop), (∀ A B C : Bool, Is (lessB (knownB cs) (belowB cs) x y) A → Is (lessB (knownB cs) (belowB cs) y z) B → Is (lessB (knownB cs) (belowB cs) x z) C → (A = true → B = true → C = true) → ∀ D E F : Bool, Is (lessB (knownB cs) (belowB cs) z r4) F → Is (lessB (knownB cs) (belowB cs) z x) D → Is (lessB (knownB cs) (belowB cs) z y) E → F = (D && E) → P) → P := fun P h =>
        h _ _ _ ⟨rfl⟩ ⟨rfl⟩ ⟨rfl⟩ (fun h1 h2 => less_trans o h1 h2) _ _ _ ⟨rfl⟩ ⟨rfl⟩ ⟨rfl⟩ m3
      clear m1 m2 m3 ka kb o hO hs1 hs4 hp hq hr4 hn1 k1 k2 k3 HN1 HN2 HN3 HN4 p q HB47
      have HBR := Lib.hid (Below.refl w7.heap.size w7)
      obtain ⟨g0, g1, g2, g3, g4, g5, g6⟩ := HTH7.out.cells
      refine hcases _ fun A B C HA HB HC hABC D E F HF HD HE hF => ?_
      subst hF
      clear hcases g0 g1 g2 g3 g4 g5 g6
      obtain ⟨g0, g1, g2, g3, g4, g5, g6⟩ := HTH7.out.cells
      cases A with
      | false =>
        clear hABC
        cases D with
        | false =>
          go_wp2_with (go_at_call 16; refine (less_uni HTH7.out HO.out _ (by assumption) (by assumption) (by assumption)).mono ?_; rintro e w' ⟨L, rfl, hL, hb, k0, k1, k2, k3, k4, k5, k6⟩; obtain rfl := pick hL (by assumption))
          have HBD := Lib.hid (Below.drew hb.out)
          have j0 : w'.drew.cell? ⟨w.heap.size, 0, none⟩ = _ := k0
          have j1 : w'.drew.cell? ⟨w.heap.size, 1, none⟩ = _ := k1
          have j2 : w'.drew.cell? ⟨w.heap.size, 2, none⟩ = _ := k2
          have j3 : w'.drew.cell? ⟨w.heap.size, 3, none⟩ = _ := k3
          have j4 : w'.drew.cell? ⟨w.heap.size, 4, none⟩ = _ := k4
          have j5 : w'.drew.cell? ⟨w.heap.size, 5, none⟩ = _ := k5
          have j6 : w'.drew.cell? ⟨w.heap.size, 6, none⟩ = _ := k6
          refine wp_region_noPanic ?_
          refine wp_region_held_drew (S := (fun W => W.cell? ⟨w.heap.size, 0, none⟩ = some (.string nm) ∧ W.cell? ⟨w.heap.size, 1, none⟩ = some (.slice ca cs.length cc) ∧ W.cell? ⟨w.heap.size, 2, none⟩ = some (.slice ta tn tc) ∧ W.cell? ⟨w.heap.size, 3, none⟩ = some (.slice ra ars.length rc) ∧ W.cell? ⟨w.heap.size, 4, none⟩ = some (.slice oa on oc) ∧ W.cell? ⟨w.heap.size, 5, none⟩ = some (.slice ya yn yc) ∧ W.cell? ⟨w.heap.size, 6, none⟩ = some (.slice qa qn qc))) (by kernel_rfl) (by refine ⟨?_, ?_, ?_, ?_, ?_, ?_, ?_⟩ <;> assumption) (fun hHeld => ?_)
          refine wpAnyH_take (i := 0) (oi := { dst := some 107, op := Op.load 29 (Operand.tmp 4), type := 29, pos := "law.go:106", after := #[], guard := none }) (v := ?vn1x0) rfl (by kernel_rfl) (by kernel_rfl) (by kernel_rfl) (fun _ _ _ h => h) (Or.inl ⟨by rfl, ?hyn1x0⟩) (by assumption) ?restn1x0
          case hyn1x0 => (intro w hSw; (try dsimp only at hSw); go_simp; (try with_reducible rfl))
          case' restn1x0 => skip
          try simp only [Act.put, List.setIfInBounds_toArray, List.set_cons_zero, List.set_cons_succ]
          refine wpAnyH_take (i := 1) (oi := { dst := some 108, op := Op.move (Operand.tmp 15), type := 27, pos := "law.go:106", after := #[], guard := none }) (v := ?vn1x1) rfl (by kernel_rfl) (by kernel_rfl) (by kernel_rfl) (fun _ _ _ h => h) (Or.inl ⟨by rfl, ?hyn1x1⟩) (by assumption) ?restn1x1
          case hyn1x1 => (intro w hSw; (try dsimp only at hSw); go_simp; (try with_reducible rfl))
          case' restn1x1 => skip
          try simp only [Act.put, List.setIfInBounds_toArray, List.set_cons_zero, List.set_cons_succ]
          refine wpAnyH_take (i := 2) (oi := { dst := some 109, op := Op.move (Operand.tmp 1), type := 27, pos := "law.go:106", after := #[], guard := none }) (v := ?vn1x2) rfl (by kernel_rfl) (by kernel_rfl) (by kernel_rfl) (fun _ _ _ h => h) (Or.inl ⟨by rfl, ?hyn1x2⟩) (by assumption) ?restn1x2
          case hyn1x2 => (intro w hSw; (try dsimp only at hSw); go_simp; (try with_reducible rfl))
          case' restn1x2 => skip
          try simp only [Act.put, List.setIfInBounds_toArray, List.set_cons_zero, List.set_cons_succ]
          refine wpAnyH_ready (rs := [3]) (by kernel_rfl) (by simp) ?_
          refine AllReadyH.cons (o := { dst := some 110, op := Op.call { callee := Callee.value (Operand.func 16), args := #[Operand.tmp 107, Operand.tmp 108, Operand.tmp 109], argTypes := #[29, 27, 27] }, type := 4, pos := "law.go:106", after := #[{ on := 0, ground := Ground.data }, { on := 1, ground := Ground.data }, { on := 2, ground := Ground.data }], guard := none }) rfl (fun K hK => ?_) AllReadyH.nil
          go_simp
          (go_at_call 16; refine (less_uni HTH7.out HO.out _ (by assumption) (by assumption) (by assumption)).mono ?_; rintro e w' ⟨L, rfl, hL, hb, k0, k1, k2, k3, k4, k5, k6⟩; obtain rfl := pick hL (by assumption))
          refine hK.out _ _ ?_ (fun hHeld => ?_)
          · refine ⟨?_, ?_, ?_, ?_, ?_, ?_, ?_⟩ <;> assumption
          clear hK K
          try simp only [Act.put, List.setIfInBounds_toArray, List.set_cons_zero, List.set_cons_succ]
          refine wpAnyH_take (i := 4) (oi := { dst := some 111, op := Op.move (Operand.tmp 110), type := 4, pos := "law.go:106", after := #[{ on := 3, ground := Ground.data }, { on := 3, ground := Ground.chain }], guard := none }) (v := ?vn1x4) rfl (by kernel_rfl) (by kernel_rfl) (by kernel_rfl) (fun _ _ _ h => h) (Or.inl ⟨by rfl, ?hyn1x4⟩) (by assumption) ?restn1x4
          case hyn1x4 => (intro w hSw; (try dsimp only at hSw); go_simp; (try with_reducible rfl))
          case' restn1x4 => skip
          try simp only [Act.put, List.setIfInBounds_toArray, List.set_cons_zero, List.set_cons_succ]
          refine wpAnyH_take (i := 5) (oi := { dst := some 112, op := Op.load 29 (Operand.tmp 4), type := 29, pos := "law.go:106", after := #[{ on := 4, ground := Ground.guard }], guard := some (4, true) }) (v := ?vn1x5) rfl (by kernel_rfl) (by kernel_rfl) (by kernel_rfl) (fun _ _ _ h => h) (Or.inl ⟨by rfl, ?hyn1x5⟩) (by assumption) ?restn1x5
          case hyn1x5 => (intro w hSw; (try dsimp only at hSw); go_simp; (try with_reducible rfl))
          case' restn1x5 => skip
          try simp only [Act.put, List.setIfInBounds_toArray, List.set_cons_zero, List.set_cons_succ]
          refine wpAnyH_take (i := 6) (oi := { dst := some 113, op := Op.move (Operand.tmp 15), type := 27, pos := "law.go:106", after := #[{ on := 4, ground := Ground.guard }], guard := some (4, true) }) (v := ?vn1x6) rfl (by kernel_rfl) (by kernel_rfl) (by kernel_rfl) (fun _ _ _ h => h) (Or.inl ⟨by rfl, ?hyn1x6⟩) (by assumption) ?restn1x6
          case hyn1x6 => (intro w hSw; (try dsimp only at hSw); go_simp; (try with_reducible rfl))
          case' restn1x6 => skip
          try simp only [Act.put, List.setIfInBounds_toArray, List.set_cons_zero, List.set_cons_succ]
          refine wpAnyH_take (i := 7) (oi := { dst := some 114, op := Op.move (Operand.tmp 2), type := 27, pos := "law.go:106", after := #[{ on := 4, ground := Ground.guard }], guard := some (4, true) }) (v := ?vn1x7) rfl (by kernel_rfl) (by kernel_rfl) (by kernel_rfl) (fun _ _ _ h => h) (Or.inl ⟨by rfl, ?hyn1x7⟩) (by assumption) ?restn1x7
          case hyn1x7 => (intro w hSw; (try dsimp only at hSw); go_simp; (try with_reducible rfl))
          case' restn1x7 => skip
          try simp only [Act.put, List.setIfInBounds_toArray, List.set_cons_zero, List.set_cons_succ]
          refine wpAnyH_ready (rs := [8]) (by kernel_rfl) (by simp) ?_
          refine AllReadyH.cons (o := { dst := some 115, op := Op.call { callee := Callee.value (Operand.func 16), args := #[Operand.tmp 112, Operand.tmp 113, Operand.tmp 114], argTypes := #[29, 27, 27] }, type := 4, pos := "law.go:106", after := #[{ on := 5, ground := Ground.data }, { on := 6, ground := Ground.data }, { on := 7, ground := Ground.data }, { on := 4, ground := Ground.chain }, { on := 4, ground := Ground.guard }], guard := some (4, true) }) rfl (fun K hK => ?_) AllReadyH.nil
          go_simp
          (go_at_call 16; refine (less_uni HTH7.out HO.out _ (by assumption) (by assumption) (by assumption)).mono ?_; rintro e w' ⟨L, rfl, hL, hb, k0, k1, k2, k3, k4, k5, k6⟩; obtain rfl := pick hL (by assumption))
          refine hK.out _ _ ?_ (fun hHeld => ?_)
          · refine ⟨?_, ?_, ?_, ?_, ?_, ?_, ?_⟩ <;> assumption
          clear hK K
          try simp only [Act.put, List.setIfInBounds_toArray, List.set_cons_zero, List.set_cons_succ]
          refine wpAnyH_take (i := 9) (oi := { dst := some 116, op := Op.pick (Operand.tmp 111) (Operand.tmp 115) (Operand.const (Value.bool false)), type := 4, pos := "law.go:106", after := #[{ on := 4, ground := Ground.data }, { on := 8, ground := Ground.data }], guard := none }) (v := ?vn1x9) rfl (by kernel_rfl) (by kernel_rfl) (by kernel_rfl) (fun _ _ _ h => h) (Or.inl ⟨by rfl, ?hyn1x9⟩) (by assumption) ?restn1x9
          case hyn1x9 => (intro w hSw; (try dsimp only at hSw); go_simp; (try with_reducible rfl))
          case' restn1x9 => skip
          try simp only [Act.put, List.setIfInBounds_toArray, List.set_cons_zero, List.set_cons_succ]
          refine wpAnyH_take (i := 10) (oi := { dst := some 117, op := Op.move (Operand.tmp 116), type := 4, pos := "law.go:106", after := #[{ on := 9, ground := Ground.data }, { on := 8, ground := Ground.chain }], guard := none }) (v := ?vn1x10) rfl (by kernel_rfl) (by kernel_rfl) (by kernel_rfl) (fun _ _ _ h => h) (Or.inl ⟨by rfl, ?hyn1x10⟩) (by assumption) ?restn1x10
          case hyn1x10 => (intro w hSw; (try dsimp only at hSw); go_simp; (try with_reducible rfl))
          case' restn1x10 => skip
          try simp only [Act.put, List.setIfInBounds_toArray, List.set_cons_zero, List.set_cons_succ]
          refine wpAnyH_take (i := 11) (oi := { dst := some 118, op := Op.load 29 (Operand.tmp 4), type := 29, pos := "law.go:106", after := #[{ on := 10, ground := Ground.guard }], guard := some (10, true) }) (v := ?vn1x11) rfl (by kernel_rfl) (by kernel_rfl) (by kernel_rfl) (fun _ _ _ h => h) (Or.inl ⟨by rfl, ?hyn1x11⟩) (by assumption) ?restn1x11
          case hyn1x11 => (intro w hSw; (try dsimp only at hSw); go_simp; (try with_reducible rfl))
          case' restn1x11 => skip
          try simp only [Act.put, List.setIfInBounds_toArray, List.set_cons_zero, List.set_cons_succ]
          refine wpAnyH_take (i := 12) (oi := { dst := some 119, op := Op.move (Operand.tmp 3), type := 27, pos := "law.go:106", after := #[{ on := 10, ground := Ground.guard }], guard := some (10, true) }) (v := ?vn1x12) rfl (by kernel_rfl) (by kernel_rfl) (by kernel_rfl) (fun _ _ _ h => h) (Or.inl ⟨by rfl, ?hyn1x12⟩) (by assumption) ?restn1x12
          case hyn1x12 => (intro w hSw; (try dsimp only at hSw); go_simp; (try with_reducible rfl))
          case' restn1x12 => skip
          try simp only [Act.put, List.setIfInBounds_toArray, List.set_cons_zero, List.set_cons_succ]
          refine wpAnyH_take (i := 13) (oi := { dst := some 120, op := Op.move (Operand.tmp 15), type := 27, pos := "law.go:106", after := #[{ on := 10, ground := Ground.guard }], guard := some (10, true) }) (v := ?vn1x13) rfl (by kernel_rfl) (by kernel_rfl) (by kernel_rfl) (fun _ _ _ h => h) (Or.inl ⟨by rfl, ?hyn1x13⟩) (by assumption) ?restn1x13
          case hyn1x13 => (intro w hSw; (try dsimp only at hSw); go_simp; (try with_reducible rfl))
          case' restn1x13 => skip
          try simp only [Act.put, List.setIfInBounds_toArray, List.set_cons_zero, List.set_cons_succ]
          refine wpAnyH_take (i := 15) (oi := { dst := some 122, op := Op.load 29 (Operand.tmp 4), type := 29, pos := "law.go:106", after := #[{ on := 10, ground := Ground.guard }], guard := some (10, true) }) (v := ?vn1x15) rfl (by kernel_rfl) (by kernel_rfl) (by kernel_rfl) (fun _ _ _ h => h) (Or.inl ⟨by rfl, ?hyn1x15⟩) (by assumption) ?restn1x15
          case hyn1x15 => (intro w hSw; (try dsimp only at hSw); go_simp; (try with_reducible rfl))
          case' restn1x15 => skip
          try simp only [Act.put, List.setIfInBounds_toArray, List.set_cons_zero, List.set_cons_succ]
          refine wpAnyH_take (i := 16) (oi := { dst := some 123, op := Op.move (Operand.tmp 3), type := 27, pos := "law.go:106", after := #[{ on := 10, ground := Ground.guard }], guard := some (10, true) }) (v := ?vn1x16) rfl (by kernel_rfl) (by kernel_rfl) (by kernel_rfl) (fun _ _ _ h => h) (Or.inl ⟨by rfl, ?hyn1x16⟩) (by assumption) ?restn1x16
          case hyn1x16 => (intro w hSw; (try dsimp only at hSw); go_simp; (try with_reducible rfl))
          case' restn1x16 => skip
          try simp only [Act.put, List.setIfInBounds_toArray, List.set_cons_zero, List.set_cons_succ]
          refine wpAnyH_take (i := 17) (oi := { dst := some 124, op := Op.move (Operand.tmp 1), type := 27, pos := "law.go:106", after := #[{ on := 10, ground := Ground.guard }], guard := some (10, true) }) (v := ?vn1x17) rfl (by kernel_rfl) (by kernel_rfl) (by kernel_rfl) (fun _ _ _ h => h) (Or.inl ⟨by rfl, ?hyn1x17⟩) (by assumption) ?restn1x17
          case hyn1x17 => (intro w hSw; (try dsimp only at hSw); go_simp; (try with_reducible rfl))
          case' restn1x17 => skip
          try simp only [Act.put, List.setIfInBounds_toArray, List.set_cons_zero, List.set_cons_succ]
          refine wpAnyH_ready (rs := [14]) (by kernel_rfl) (by simp) ?_
          refine AllReadyH.cons (o := { dst := some 121, op := Op.call { callee := Callee.value (Operand.func 16), args := #[Operand.tmp 118, Operand.tmp 119, Operand.tmp 120], argTypes := #[29, 27, 27] }, type := 4, pos := "law.go:106", after := #[{ on := 11, ground := Ground.data }, { on := 12, ground := Ground.data }, { on := 13, ground := Ground.data }, { on := 10, ground := Ground.chain }, { on := 10, ground := Ground.guard }], guard := some (10, true) }) rfl (fun K hK => ?_) AllReadyH.nil
          go_simp
          (go_at_call 16; refine (less_uni HTH7.out HO.out _ (by assumption) (by assumption) (by assumption)).mono ?_; rintro e w' ⟨L, rfl, hL, hb, k0, k1, k2, k3, k4, k5, k6⟩; obtain rfl := pick hL (by assumption))
          refine hK.out _ _ ?_ (fun hHeld => ?_)
          · refine ⟨?_, ?_, ?_, ?_, ?_, ?_, ?_⟩ <;> assumption
          clear hK K
          try simp only [Act.put, List.setIfInBounds_toArray, List.set_cons_zero, List.set_cons_succ]
          refine wpAnyH_ready (rs := [18]) (by kernel_rfl) (by simp) ?_
          refine AllReadyH.cons (o := { dst := some 125, op := Op.call { callee := Callee.value (Operand.func 16), args := #[Operand.tmp 122, Operand.tmp 123, Operand.tmp 124], argTypes := #[29, 27, 27] }, type := 4, pos := "law.go:106", after := #[{ on := 15, ground := Ground.data }, { on := 16, ground := Ground.data }, { on := 17, ground := Ground.data }, { on := 14, ground := Ground.chain }, { on := 10, ground := Ground.guard }], guard := some (10, true) }) rfl (fun K hK => ?_) AllReadyH.nil
          go_simp
          (go_at_call 16; refine (less_uni HTH7.out HO.out _ (by assumption) (by assumption) (by assumption)).mono ?_; rintro e w' ⟨L, rfl, hL, hb, k0, k1, k2, k3, k4, k5, k6⟩; obtain rfl := pick hL (by assumption))
          refine hK.out _ _ ?_ (fun hHeld => ?_)
          · refine ⟨?_, ?_, ?_, ?_, ?_, ?_, ?_⟩ <;> assumption
          clear hK K
          try simp only [Act.put, List.setIfInBounds_toArray, List.set_cons_zero, List.set_cons_succ]
          refine wpAnyH_take (i := 19) (oi := { dst := some 126, op := Op.move (Operand.tmp 125), type := 4, pos := "law.go:106", after := #[{ on := 18, ground := Ground.data }, { on := 18, ground := Ground.chain }, { on := 10, ground := Ground.guard }], guard := some (10, true) }) (v := ?vn1x19) rfl (by kernel_rfl) (by kernel_rfl) (by kernel_rfl) (fun _ _ _ h => h) (Or.inl ⟨by rfl, ?hyn1x19⟩) (by assumption) ?restn1x19
          case hyn1x19 => (intro w hSw; (try dsimp only at hSw); go_simp; (try with_reducible rfl))
          case' restn1x19 => skip
          try simp only [Act.put, List.setIfInBounds_toArray, List.set_cons_zero, List.set_cons_succ]
          refine wpAnyH_take (i := 20) (oi := { dst := some 127, op := Op.load 29 (Operand.tmp 4), type := 29, pos := "law.go:106", after := #[{ on := 19, ground := Ground.guard }], guard := some (19, true) }) (v := undef) rfl (by kernel_rfl) (by kernel_rfl) (by kernel_rfl) (fun _ _ _ h => h) (Or.inr ⟨by rfl, rfl⟩) (by assumption) ?_
          try simp only [Act.put, List.setIfInBounds_toArray, List.set_cons_zero, List.set_cons_succ]
          refine wpAnyH_take (i := 21) (oi := { dst := some 128, op := Op.move (Operand.tmp 3), type := 27, pos := "law.go:106", after := #[{ on := 19, ground := Ground.guard }], guard := some (19, true) }) (v := undef) rfl (by kernel_rfl) (by kernel_rfl) (by kernel_rfl) (fun _ _ _ h => h) (Or.inr ⟨by rfl, rfl⟩) (by assumption) ?_
          try simp only [Act.put, List.setIfInBounds_toArray, List.set_cons_zero, List.set_cons_succ]
          refine wpAnyH_take (i := 22) (oi := { dst := some 129, op := Op.move (Operand.tmp 2), type := 27, pos := "law.go:106", after := #[{ on := 19, ground := Ground.guard }], guard := some (19, true) }) (v := undef) rfl (by kernel_rfl) (by kernel_rfl) (by kernel_rfl) (fun _ _ _ h => h) (Or.inr ⟨by rfl, rfl⟩) (by assumption) ?_
          try simp only [Act.put, List.setIfInBounds_toArray, List.set_cons_zero, List.set_cons_succ]
          refine wpAnyH_take (i := 23) (oi := { dst := some 130, op := Op.call { callee := Callee.value (Operand.func 16), args := #[Operand.tmp 127, Operand.tmp 128, Operand.tmp 129], argTypes := #[29, 27, 27] }, type := 4, pos := "law.go:106", after := #[{ on := 20, ground := Ground.data }, { on := 21, ground := Ground.data }, { on := 22, ground := Ground.data }, { on := 19, ground := Ground.chain }, { on := 19, ground := Ground.guard }], guard := some (19, true) }) (v := undef) rfl (by kernel_rfl) (by kernel_rfl) (by kernel_rfl) (fun _ _ _ h => h) (Or.inr ⟨by rfl, rfl⟩) (by assumption) ?_
          try simp only [Act.put, List.setIfInBounds_toArray, List.set_cons_zero, List.set_cons_succ]
          refine wpAnyH_take (i := 24) (oi := { dst := some 131, op := Op.pick (Operand.tmp 126) (Operand.tmp 130) (Operand.const (Value.bool false)), type := 4, pos := "law.go:106", after := #[{ on := 19, ground := Ground.data }, { on := 23, ground := Ground.data }, { on := 10, ground := Ground.guard }], guard := some (10, true) }) (v := ?vn1x24) rfl (by kernel_rfl) (by kernel_rfl) (by kernel_rfl) (fun _ _ _ h => h) (Or.inl ⟨by rfl, ?hyn1x24⟩) (by assumption) ?restn1x24
          case hyn1x24 => (intro w hSw; (try dsimp only at hSw); go_simp; (try with_reducible rfl))
          case' restn1x24 => skip
          try simp only [Act.put, List.setIfInBounds_toArray, List.set_cons_zero, List.set_cons_succ]
          refine wpAnyH_take (i := 25) (oi := { dst := some 132, op := Op.binOp BinOp.eql 4 (Operand.tmp 121) (Operand.tmp 131) 4, type := 4, pos := "law.go:106", after := #[{ on := 14, ground := Ground.data }, { on := 24, ground := Ground.data }, { on := 10, ground := Ground.guard }], guard := some (10, true) }) (v := ?vn1x25) rfl (by kernel_rfl) (by kernel_rfl) (by kernel_rfl) (fun _ _ _ h => h) (Or.inl ⟨by rfl, ?hyn1x25⟩) (by assumption) ?restn1x25
          case hyn1x25 => (intro w hSw; (try dsimp only at hSw); go_simp; (try with_reducible rfl))
          case' restn1x25 => skip
          try simp only [Act.put, List.setIfInBounds_toArray, List.set_cons_zero, List.set_cons_succ]
          refine wpAnyH_take (i := 26) (oi := { dst := some 133, op := Op.pick (Operand.tmp 117) (Operand.tmp 132) (Operand.const (Value.bool false)), type := 4, pos := "law.go:106", after := #[{ on := 10, ground := Ground.data }, { on := 25, ground := Ground.data }], guard := none }) (v := ?vn1x26) rfl (by kernel_rfl) (by kernel_rfl) (by kernel_rfl) (fun _ _ _ h => h) (Or.inl ⟨by rfl, ?hyn1x26⟩) (by assumption) ?restn1x26
          case hyn1x26 => (intro w hSw; (try dsimp only at hSw); go_simp; (try with_reducible rfl))
          case' restn1x26 => skip
          try simp only [Act.put, List.setIfInBounds_toArray, List.set_cons_zero, List.set_cons_succ]
          refine wpAnyH_take (i := 27) (oi := { dst := some 134, op := Op.move (Operand.tmp 133), type := 4, pos := "law.go:106", after := #[{ on := 26, ground := Ground.data }, { on := 23, ground := Ground.chain }], guard := none }) (v := ?vn1x27) rfl (by kernel_rfl) (by kernel_rfl) (by kernel_rfl) (fun _ _ _ h => h) (Or.inl ⟨by rfl, ?hyn1x27⟩) (by assumption) ?restn1x27
          case hyn1x27 => (intro w hSw; (try dsimp only at hSw); go_simp; (try with_reducible rfl))
          case' restn1x27 => skip
          try simp only [Act.put, List.setIfInBounds_toArray, List.set_cons_zero, List.set_cons_succ]
          refine wpAnyH_ready (rs := [28]) (by kernel_rfl) (by simp) ?_
          refine AllReadyH.cons (o := { dst := some 135, op := Op.call { callee := Callee.value (Operand.func 11), args := #[], argTypes := #[] }, type := 4, pos := "law.go:106", after := #[{ on := 27, ground := Ground.chain }, { on := 27, ground := Ground.guard }], guard := some (27, true) }) rfl (fun K hK => ?_) AllReadyH.nil
          go_simp
          (go_at_call 11; refine (awake_uni HTH7.out _ (by assumption)).mono ?_; rintro e w' ⟨rfl, hb, k0, k1, k2, k3, k4, k5, k6⟩)
          refine hK.out _ _ ?_ (fun hHeld => ?_)
          · refine ⟨?_, ?_, ?_, ?_, ?_, ?_, ?_⟩ <;> assumption
          clear hK K
          try simp only [Act.put, List.setIfInBounds_toArray, List.set_cons_zero, List.set_cons_succ]
          refine wpAnyH_take (i := 29) (oi := { dst := some 136, op := Op.pick (Operand.tmp 134) (Operand.tmp 135) (Operand.const (Value.bool false)), type := 4, pos := "law.go:106", after := #[{ on := 27, ground := Ground.data }, { on := 28, ground := Ground.data }], guard := none }) (v := ?vn1x29) rfl (by kernel_rfl) (by kernel_rfl) (by kernel_rfl) (fun _ _ _ h => h) (Or.inl ⟨by rfl, ?hyn1x29⟩) (by assumption) ?restn1x29
          case hyn1x29 => (intro w hSw; (try dsimp only at hSw); go_simp; (try with_reducible rfl))
          case' restn1x29 => skip
          try simp only [Act.put, List.setIfInBounds_toArray, List.set_cons_zero, List.set_cons_succ]
          refine wpAnyH_take (i := 30) (oi := { dst := some 8, op := Op.assign (Operand.tmp 136), type := 4, pos := "law.go:106", after := #[{ on := 29, ground := Ground.data }, { on := 28, ground := Ground.chain }, { on := 0, ground := Ground.phase }, { on := 1, ground := Ground.phase }, { on := 2, ground := Ground.phase }, { on := 3, ground := Ground.phase }, { on := 4, ground := Ground.phase }, { on := 5, ground := Ground.phase }, { on := 6, ground := Ground.phase }, { on := 7, ground := Ground.phase }, { on := 8, ground := Ground.phase }, { on := 9, ground := Ground.phase }, { on := 10, ground := Ground.phase }, { on := 11, ground := Ground.phase }, { on := 12, ground := Ground.phase }, { on := 13, ground := Ground.phase }, { on := 14, ground := Ground.phase }, { on := 15, ground := Ground.phase }, { on := 16, ground := Ground.phase }, { on := 17, ground := Ground.phase }, { on := 18, ground := Ground.phase }, { on := 19, ground := Ground.phase }, { on := 20, ground := Ground.phase }, { on := 21, ground := Ground.phase }, { on := 22, ground := Ground.phase }, { on := 23, ground := Ground.phase }, { on := 24, ground := Ground.phase }, { on := 25, ground := Ground.phase }, { on := 26, ground := Ground.phase }, { on := 27, ground := Ground.phase }, { on := 28, ground := Ground.phase }, { on := 29, ground := Ground.phase }], guard := none }) (v := ?vn1x30) rfl (by kernel_rfl) (by kernel_rfl) (by kernel_rfl) (fun _ _ _ h => h) (Or.inl ⟨by rfl, ?hyn1x30⟩) (by assumption) ?restn1x30
          case hyn1x30 => (intro w hSw; (try dsimp only at hSw); go_simp; (try with_reducible rfl))
          case' restn1x30 => skip
          try simp only [Act.put, List.setIfInBounds_toArray, List.set_cons_zero, List.set_cons_succ]
          refine wpAnyH_done (by kernel_rfl) ?_ _
          refine NoPanic.normal ?_
          go_wp2_with fail
          go_ret
          exact ⟨rfl, HB7.out.trans (hb.out.mono HB7.out.size)⟩
        | true =>
          cases E with
          | false =>
            go_wp2_with (go_at_call 16; refine (less_uni HTH7.out HO.out _ (by assumption) (by assumption) (by assumption)).mono ?_; rintro e w' ⟨L, rfl, hL, hb, k0, k1, k2, k3, k4, k5, k6⟩; obtain rfl := pick hL (by assumption))
            have HBD := Lib.hid (Below.drew hb.out)
            have j0 : w'.drew.cell? ⟨w.heap.size, 0, none⟩ = _ := k0
            have j1 : w'.drew.cell? ⟨w.heap.size, 1, none⟩ = _ := k1
            have j2 : w'.drew.cell? ⟨w.heap.size, 2, none⟩ = _ := k2
            have j3 : w'.drew.cell? ⟨w.heap.size, 3, none⟩ = _ := k3
            have j4 : w'.drew.cell? ⟨w.heap.size, 4, none⟩ = _ := k4
            have j5 : w'.drew.cell? ⟨w.heap.size, 5, none⟩ = _ := k5
            have j6 : w'.drew.cell? ⟨w.heap.size, 6, none⟩ = _ := k6
            go_region_held3 (fun W => W.cell? ⟨w.heap.size, 0, none⟩ = some (.string nm) ∧ W.cell? ⟨w.heap.size, 1, none⟩ = some (.slice ca cs.length cc) ∧ W.cell? ⟨w.heap.size, 2, none⟩ = some (.slice ta tn tc) ∧ W.cell? ⟨w.heap.size, 3, none⟩ = some (.slice ra ars.length rc) ∧ W.cell? ⟨w.heap.size, 4, none⟩ = some (.slice oa on oc) ∧ W.cell? ⟨w.heap.size, 5, none⟩ = some (.slice ya yn yc) ∧ W.cell? ⟨w.heap.size, 6, none⟩ = some (.slice qa qn qc))
              (refine ⟨?_, ?_, ?_, ?_, ?_, ?_, ?_⟩ <;> assumption)
              ((first
                | (go_at_call 16; refine (less_uni HTH7.out HO.out _ (by assumption) (by assumption) (by assumption)).mono ?_; rintro e w' ⟨L, rfl, hL, hb, k0, k1, k2, k3, k4, k5, k6⟩; obtain rfl := pick hL (by assumption))
                | (go_at_call 11; refine (awake_uni HTH7.out _ (by assumption)).mono ?_; rintro e w' ⟨rfl, hb, k0, k1, k2, k3, k4, k5, k6⟩)))
            go_wp2_with fail
            go_ret
            exact ⟨rfl, HB7.out.trans (hb.out.mono HB7.out.size)⟩
          | true =>
            go_wp2_with (go_at_call 16; refine (less_uni HTH7.out HO.out _ (by assumption) (by assumption) (by assumption)).mono ?_; rintro e w' ⟨L, rfl, hL, hb, k0, k1, k2, k3, k4, k5, k6⟩; obtain rfl := pick hL (by assumption))
            have HBD := Lib.hid (Below.drew hb.out)
            have j0 : w'.drew.cell? ⟨w.heap.size, 0, none⟩ = _ := k0
            have j1 : w'.drew.cell? ⟨w.heap.size, 1, none⟩ = _ := k1
            have j2 : w'.drew.cell? ⟨w.heap.size, 2, none⟩ = _ := k2
            have j3 : w'.drew.cell? ⟨w.heap.size, 3, none⟩ = _ := k3
            have j4 : w'.drew.cell? ⟨w.heap.size, 4, none⟩ = _ := k4
            have j5 : w'.drew.cell? ⟨w.heap.size, 5, none⟩ = _ := k5
            have j6 : w'.drew.cell? ⟨w.heap.size, 6, none⟩ = _ := k6
            go_region_held3 (fun W => W.cell? ⟨w.heap.size, 0, none⟩ = some (.string nm) ∧ W.cell? ⟨w.heap.size, 1, none⟩ = some (.slice ca cs.length cc) ∧ W.cell? ⟨w.heap.size, 2, none⟩ = some (.slice ta tn tc) ∧ W.cell? ⟨w.heap.size, 3, none⟩ = some (.slice ra ars.length rc) ∧ W.cell? ⟨w.heap.size, 4, none⟩ = some (.slice oa on oc) ∧ W.cell? ⟨w.heap.size, 5, none⟩ = some (.slice ya yn yc) ∧ W.cell? ⟨w.heap.size, 6, none⟩ = some (.slice qa qn qc))
              (refine ⟨?_, ?_, ?_, ?_, ?_, ?_, ?_⟩ <;> assumption)
              ((first
                | (go_at_call 16; refine (less_uni HTH7.out HO.out _ (by assumption) (by assumption) (by assumption)).mono ?_; rintro e w' ⟨L, rfl, hL, hb, k0, k1, k2, k3, k4, k5, k6⟩; obtain rfl := pick hL (by assumption))
                | (go_at_call 11; refine (awake_uni HTH7.out _ (by assumption)).mono ?_; rintro e w' ⟨rfl, hb, k0, k1, k2, k3, k4, k5, k6⟩)))
            go_wp2_with fail
            go_ret
            exact ⟨rfl, HB7.out.trans (hb.out.mono HB7.out.size)⟩
      | true =>
        cases B with
        | false =>
          clear hABC
          cases D with
          | false =>
            go_wp2_with (go_at_call 16; refine (less_uni HTH7.out HO.out _ (by assumption) (by assumption) (by assumption)).mono ?_; rintro e w' ⟨L, rfl, hL, hb, k0, k1, k2, k3, k4, k5, k6⟩; obtain rfl := pick hL (by assumption))
            have HBD := Lib.hid (Below.drew hb.out)
            have j0 : w'.drew.cell? ⟨w.heap.size, 0, none⟩ = _ := k0
            have j1 : w'.drew.cell? ⟨w.heap.size, 1, none⟩ = _ := k1
            have j2 : w'.drew.cell? ⟨w.heap.size, 2, none⟩ = _ := k2
            have j3 : w'.drew.cell? ⟨w.heap.size, 3, none⟩ = _ := k3
            have j4 : w'.drew.cell? ⟨w.heap.size, 4, none⟩ = _ := k4
            have j5 : w'.drew.cell? ⟨w.heap.size, 5, none⟩ = _ := k5
            have j6 : w'.drew.cell? ⟨w.heap.size, 6, none⟩ = _ := k6
            refine wp_region_noPanic ?_
            refine wp_region_held_drew (S := (fun W => W.cell? ⟨w.heap.size, 0, none⟩ = some (.string nm) ∧ W.cell? ⟨w.heap.size, 1, none⟩ = some (.slice ca cs.length cc) ∧ W.cell? ⟨w.heap.size, 2, none⟩ = some (.slice ta tn tc) ∧ W.cell? ⟨w.heap.size, 3, none⟩ = some (.slice ra ars.length rc) ∧ W.cell? ⟨w.heap.size, 4, none⟩ = some (.slice oa on oc) ∧ W.cell? ⟨w.heap.size, 5, none⟩ = some (.slice ya yn yc) ∧ W.cell? ⟨w.heap.size, 6, none⟩ = some (.slice qa qn qc))) (by kernel_rfl) (by refine ⟨?_, ?_, ?_, ?_, ?_, ?_, ?_⟩ <;> assumption) (fun hHeld => ?_)
            refine wpAnyH_take (i := 0) (oi := { dst := some 107, op := Op.load 29 (Operand.tmp 4), type := 29, pos := "law.go:106", after := #[], guard := none }) (v := ?vn2x0) rfl (by kernel_rfl) (by kernel_rfl) (by kernel_rfl) (fun _ _ _ h => h) (Or.inl ⟨by rfl, ?hyn2x0⟩) (by assumption) ?restn2x0
            case hyn2x0 => (intro w hSw; (try dsimp only at hSw); go_simp; (try with_reducible rfl))
            case' restn2x0 => skip
            try simp only [Act.put, List.setIfInBounds_toArray, List.set_cons_zero, List.set_cons_succ]
            refine wpAnyH_take (i := 1) (oi := { dst := some 108, op := Op.move (Operand.tmp 15), type := 27, pos := "law.go:106", after := #[], guard := none }) (v := ?vn2x1) rfl (by kernel_rfl) (by kernel_rfl) (by kernel_rfl) (fun _ _ _ h => h) (Or.inl ⟨by rfl, ?hyn2x1⟩) (by assumption) ?restn2x1
            case hyn2x1 => (intro w hSw; (try dsimp only at hSw); go_simp; (try with_reducible rfl))
            case' restn2x1 => skip
            try simp only [Act.put, List.setIfInBounds_toArray, List.set_cons_zero, List.set_cons_succ]
            refine wpAnyH_take (i := 2) (oi := { dst := some 109, op := Op.move (Operand.tmp 1), type := 27, pos := "law.go:106", after := #[], guard := none }) (v := ?vn2x2) rfl (by kernel_rfl) (by kernel_rfl) (by kernel_rfl) (fun _ _ _ h => h) (Or.inl ⟨by rfl, ?hyn2x2⟩) (by assumption) ?restn2x2
            case hyn2x2 => (intro w hSw; (try dsimp only at hSw); go_simp; (try with_reducible rfl))
            case' restn2x2 => skip
            try simp only [Act.put, List.setIfInBounds_toArray, List.set_cons_zero, List.set_cons_succ]
            refine wpAnyH_ready (rs := [3]) (by kernel_rfl) (by simp) ?_
            refine AllReadyH.cons (o := { dst := some 110, op := Op.call { callee := Callee.value (Operand.func 16), args := #[Operand.tmp 107, Operand.tmp 108, Operand.tmp 109], argTypes := #[29, 27, 27] }, type := 4, pos := "law.go:106", after := #[{ on := 0, ground := Ground.data }, { on := 1, ground := Ground.data }, { on := 2, ground := Ground.data }], guard := none }) rfl (fun K hK => ?_) AllReadyH.nil
            go_simp
            (go_at_call 16; refine (less_uni HTH7.out HO.out _ (by assumption) (by assumption) (by assumption)).mono ?_; rintro e w' ⟨L, rfl, hL, hb, k0, k1, k2, k3, k4, k5, k6⟩; obtain rfl := pick hL (by assumption))
            refine hK.out _ _ ?_ (fun hHeld => ?_)
            · refine ⟨?_, ?_, ?_, ?_, ?_, ?_, ?_⟩ <;> assumption
            clear hK K
            try simp only [Act.put, List.setIfInBounds_toArray, List.set_cons_zero, List.set_cons_succ]
            refine wpAnyH_take (i := 4) (oi := { dst := some 111, op := Op.move (Operand.tmp 110), type := 4, pos := "law.go:106", after := #[{ on := 3, ground := Ground.data }, { on := 3, ground := Ground.chain }], guard := none }) (v := ?vn2x4) rfl (by kernel_rfl) (by kernel_rfl) (by kernel_rfl) (fun _ _ _ h => h) (Or.inl ⟨by rfl, ?hyn2x4⟩) (by assumption) ?restn2x4
            case hyn2x4 => (intro w hSw; (try dsimp only at hSw); go_simp; (try with_reducible rfl))
            case' restn2x4 => skip
            try simp only [Act.put, List.setIfInBounds_toArray, List.set_cons_zero, List.set_cons_succ]
            refine wpAnyH_take (i := 5) (oi := { dst := some 112, op := Op.load 29 (Operand.tmp 4), type := 29, pos := "law.go:106", after := #[{ on := 4, ground := Ground.guard }], guard := some (4, true) }) (v := ?vn2x5) rfl (by kernel_rfl) (by kernel_rfl) (by kernel_rfl) (fun _ _ _ h => h) (Or.inl ⟨by rfl, ?hyn2x5⟩) (by assumption) ?restn2x5
            case hyn2x5 => (intro w hSw; (try dsimp only at hSw); go_simp; (try with_reducible rfl))
            case' restn2x5 => skip
            try simp only [Act.put, List.setIfInBounds_toArray, List.set_cons_zero, List.set_cons_succ]
            refine wpAnyH_take (i := 6) (oi := { dst := some 113, op := Op.move (Operand.tmp 15), type := 27, pos := "law.go:106", after := #[{ on := 4, ground := Ground.guard }], guard := some (4, true) }) (v := ?vn2x6) rfl (by kernel_rfl) (by kernel_rfl) (by kernel_rfl) (fun _ _ _ h => h) (Or.inl ⟨by rfl, ?hyn2x6⟩) (by assumption) ?restn2x6
            case hyn2x6 => (intro w hSw; (try dsimp only at hSw); go_simp; (try with_reducible rfl))
            case' restn2x6 => skip
            try simp only [Act.put, List.setIfInBounds_toArray, List.set_cons_zero, List.set_cons_succ]
            refine wpAnyH_take (i := 7) (oi := { dst := some 114, op := Op.move (Operand.tmp 2), type := 27, pos := "law.go:106", after := #[{ on := 4, ground := Ground.guard }], guard := some (4, true) }) (v := ?vn2x7) rfl (by kernel_rfl) (by kernel_rfl) (by kernel_rfl) (fun _ _ _ h => h) (Or.inl ⟨by rfl, ?hyn2x7⟩) (by assumption) ?restn2x7
            case hyn2x7 => (intro w hSw; (try dsimp only at hSw); go_simp; (try with_reducible rfl))
            case' restn2x7 => skip
            try simp only [Act.put, List.setIfInBounds_toArray, List.set_cons_zero, List.set_cons_succ]
            refine wpAnyH_ready (rs := [8]) (by kernel_rfl) (by simp) ?_
            refine AllReadyH.cons (o := { dst := some 115, op := Op.call { callee := Callee.value (Operand.func 16), args := #[Operand.tmp 112, Operand.tmp 113, Operand.tmp 114], argTypes := #[29, 27, 27] }, type := 4, pos := "law.go:106", after := #[{ on := 5, ground := Ground.data }, { on := 6, ground := Ground.data }, { on := 7, ground := Ground.data }, { on := 4, ground := Ground.chain }, { on := 4, ground := Ground.guard }], guard := some (4, true) }) rfl (fun K hK => ?_) AllReadyH.nil
            go_simp
            (go_at_call 16; refine (less_uni HTH7.out HO.out _ (by assumption) (by assumption) (by assumption)).mono ?_; rintro e w' ⟨L, rfl, hL, hb, k0, k1, k2, k3, k4, k5, k6⟩; obtain rfl := pick hL (by assumption))
            refine hK.out _ _ ?_ (fun hHeld => ?_)
            · refine ⟨?_, ?_, ?_, ?_, ?_, ?_, ?_⟩ <;> assumption
            clear hK K
            try simp only [Act.put, List.setIfInBounds_toArray, List.set_cons_zero, List.set_cons_succ]
            refine wpAnyH_take (i := 9) (oi := { dst := some 116, op := Op.pick (Operand.tmp 111) (Operand.tmp 115) (Operand.const (Value.bool false)), type := 4, pos := "law.go:106", after := #[{ on := 4, ground := Ground.data }, { on := 8, ground := Ground.data }], guard := none }) (v := ?vn2x9) rfl (by kernel_rfl) (by kernel_rfl) (by kernel_rfl) (fun _ _ _ h => h) (Or.inl ⟨by rfl, ?hyn2x9⟩) (by assumption) ?restn2x9
            case hyn2x9 => (intro w hSw; (try dsimp only at hSw); go_simp; (try with_reducible rfl))
            case' restn2x9 => skip
            try simp only [Act.put, List.setIfInBounds_toArray, List.set_cons_zero, List.set_cons_succ]
            refine wpAnyH_take (i := 10) (oi := { dst := some 117, op := Op.move (Operand.tmp 116), type := 4, pos := "law.go:106", after := #[{ on := 9, ground := Ground.data }, { on := 8, ground := Ground.chain }], guard := none }) (v := ?vn2x10) rfl (by kernel_rfl) (by kernel_rfl) (by kernel_rfl) (fun _ _ _ h => h) (Or.inl ⟨by rfl, ?hyn2x10⟩) (by assumption) ?restn2x10
            case hyn2x10 => (intro w hSw; (try dsimp only at hSw); go_simp; (try with_reducible rfl))
            case' restn2x10 => skip
            try simp only [Act.put, List.setIfInBounds_toArray, List.set_cons_zero, List.set_cons_succ]
            refine wpAnyH_take (i := 11) (oi := { dst := some 118, op := Op.load 29 (Operand.tmp 4), type := 29, pos := "law.go:106", after := #[{ on := 10, ground := Ground.guard }], guard := some (10, true) }) (v := ?vn2x11) rfl (by kernel_rfl) (by kernel_rfl) (by kernel_rfl) (fun _ _ _ h => h) (Or.inl ⟨by rfl, ?hyn2x11⟩) (by assumption) ?restn2x11
            case hyn2x11 => (intro w hSw; (try dsimp only at hSw); go_simp; (try with_reducible rfl))
            case' restn2x11 => skip
            try simp only [Act.put, List.setIfInBounds_toArray, List.set_cons_zero, List.set_cons_succ]
            refine wpAnyH_take (i := 12) (oi := { dst := some 119, op := Op.move (Operand.tmp 3), type := 27, pos := "law.go:106", after := #[{ on := 10, ground := Ground.guard }], guard := some (10, true) }) (v := ?vn2x12) rfl (by kernel_rfl) (by kernel_rfl) (by kernel_rfl) (fun _ _ _ h => h) (Or.inl ⟨by rfl, ?hyn2x12⟩) (by assumption) ?restn2x12
            case hyn2x12 => (intro w hSw; (try dsimp only at hSw); go_simp; (try with_reducible rfl))
            case' restn2x12 => skip
            try simp only [Act.put, List.setIfInBounds_toArray, List.set_cons_zero, List.set_cons_succ]
            refine wpAnyH_take (i := 13) (oi := { dst := some 120, op := Op.move (Operand.tmp 15), type := 27, pos := "law.go:106", after := #[{ on := 10, ground := Ground.guard }], guard := some (10, true) }) (v := ?vn2x13) rfl (by kernel_rfl) (by kernel_rfl) (by kernel_rfl) (fun _ _ _ h => h) (Or.inl ⟨by rfl, ?hyn2x13⟩) (by assumption) ?restn2x13
            case hyn2x13 => (intro w hSw; (try dsimp only at hSw); go_simp; (try with_reducible rfl))
            case' restn2x13 => skip
            try simp only [Act.put, List.setIfInBounds_toArray, List.set_cons_zero, List.set_cons_succ]
            refine wpAnyH_take (i := 15) (oi := { dst := some 122, op := Op.load 29 (Operand.tmp 4), type := 29, pos := "law.go:106", after := #[{ on := 10, ground := Ground.guard }], guard := some (10, true) }) (v := ?vn2x15) rfl (by kernel_rfl) (by kernel_rfl) (by kernel_rfl) (fun _ _ _ h => h) (Or.inl ⟨by rfl, ?hyn2x15⟩) (by assumption) ?restn2x15
            case hyn2x15 => (intro w hSw; (try dsimp only at hSw); go_simp; (try with_reducible rfl))
            case' restn2x15 => skip
            try simp only [Act.put, List.setIfInBounds_toArray, List.set_cons_zero, List.set_cons_succ]
            refine wpAnyH_take (i := 16) (oi := { dst := some 123, op := Op.move (Operand.tmp 3), type := 27, pos := "law.go:106", after := #[{ on := 10, ground := Ground.guard }], guard := some (10, true) }) (v := ?vn2x16) rfl (by kernel_rfl) (by kernel_rfl) (by kernel_rfl) (fun _ _ _ h => h) (Or.inl ⟨by rfl, ?hyn2x16⟩) (by assumption) ?restn2x16
            case hyn2x16 => (intro w hSw; (try dsimp only at hSw); go_simp; (try with_reducible rfl))
            case' restn2x16 => skip
            try simp only [Act.put, List.setIfInBounds_toArray, List.set_cons_zero, List.set_cons_succ]
            refine wpAnyH_take (i := 17) (oi := { dst := some 124, op := Op.move (Operand.tmp 1), type := 27, pos := "law.go:106", after := #[{ on := 10, ground := Ground.guard }], guard := some (10, true) }) (v := ?vn2x17) rfl (by kernel_rfl) (by kernel_rfl) (by kernel_rfl) (fun _ _ _ h => h) (Or.inl ⟨by rfl, ?hyn2x17⟩) (by assumption) ?restn2x17
            case hyn2x17 => (intro w hSw; (try dsimp only at hSw); go_simp; (try with_reducible rfl))
            case' restn2x17 => skip
            try simp only [Act.put, List.setIfInBounds_toArray, List.set_cons_zero, List.set_cons_succ]
            refine wpAnyH_ready (rs := [14]) (by kernel_rfl) (by simp) ?_
            refine AllReadyH.cons (o := { dst := some 121, op := Op.call { callee := Callee.value (Operand.func 16), args := #[Operand.tmp 118, Operand.tmp 119, Operand.tmp 120], argTypes := #[29, 27, 27] }, type := 4, pos := "law.go:106", after := #[{ on := 11, ground := Ground.data }, { on := 12, ground := Ground.data }, { on := 13, ground := Ground.data }, { on := 10, ground := Ground.chain }, { on := 10, ground := Ground.guard }], guard := some (10, true) }) rfl (fun K hK => ?_) AllReadyH.nil
            go_simp
            (go_at_call 16; refine (less_uni HTH7.out HO.out _ (by assumption) (by assumption) (by assumption)).mono ?_; rintro e w' ⟨L, rfl, hL, hb, k0, k1, k2, k3, k4, k5, k6⟩; obtain rfl := pick hL (by assumption))
            refine hK.out _ _ ?_ (fun hHeld => ?_)
            · refine ⟨?_, ?_, ?_, ?_, ?_, ?_, ?_⟩ <;> assumption
            clear hK K
            try simp only [Act.put, List.setIfInBounds_toArray, List.set_cons_zero, List.set_cons_succ]
            refine wpAnyH_ready (rs := [18]) (by kernel_rfl) (by simp) ?_
            refine AllReadyH.cons (o := { dst := some 125, op := Op.call { callee := Callee.value (Operand.func 16), args := #[Operand.tmp 122, Operand.tmp 123, Operand.tmp 124], argTypes := #[29, 27, 27] }, type := 4, pos := "law.go:106", after := #[{ on := 15, ground := Ground.data }, { on := 16, ground := Ground.data }, { on := 17, ground := Ground.data }, { on := 14, ground := Ground.chain }, { on := 10, ground := Ground.guard }], guard := some (10, true) }) rfl (fun K hK => ?_) AllReadyH.nil
            go_simp
            (go_at_call 16; refine (less_uni HTH7.out HO.out _ (by assumption) (by assumption) (by assumption)).mono ?_; rintro e w' ⟨L, rfl, hL, hb, k0, k1, k2, k3, k4, k5, k6⟩; obtain rfl := pick hL (by assumption))
            refine hK.out _ _ ?_ (fun hHeld => ?_)
            · refine ⟨?_, ?_, ?_, ?_, ?_, ?_, ?_⟩ <;> assumption
            clear hK K
            try simp only [Act.put, List.setIfInBounds_toArray, List.set_cons_zero, List.set_cons_succ]
            refine wpAnyH_take (i := 19) (oi := { dst := some 126, op := Op.move (Operand.tmp 125), type := 4, pos := "law.go:106", after := #[{ on := 18, ground := Ground.data }, { on := 18, ground := Ground.chain }, { on := 10, ground := Ground.guard }], guard := some (10, true) }) (v := ?vn2x19) rfl (by kernel_rfl) (by kernel_rfl) (by kernel_rfl) (fun _ _ _ h => h) (Or.inl ⟨by rfl, ?hyn2x19⟩) (by assumption) ?restn2x19
            case hyn2x19 => (intro w hSw; (try dsimp only at hSw); go_simp; (try with_reducible rfl))
            case' restn2x19 => skip
            try simp only [Act.put, List.setIfInBounds_toArray, List.set_cons_zero, List.set_cons_succ]
            refine wpAnyH_take (i := 20) (oi := { dst := some 127, op := Op.load 29 (Operand.tmp 4), type := 29, pos := "law.go:106", after := #[{ on := 19, ground := Ground.guard }], guard := some (19, true) }) (v := undef) rfl (by kernel_rfl) (by kernel_rfl) (by kernel_rfl) (fun _ _ _ h => h) (Or.inr ⟨by rfl, rfl⟩) (by assumption) ?_
            try simp only [Act.put, List.setIfInBounds_toArray, List.set_cons_zero, List.set_cons_succ]
            refine wpAnyH_take (i := 21) (oi := { dst := some 128, op := Op.move (Operand.tmp 3), type := 27, pos := "law.go:106", after := #[{ on := 19, ground := Ground.guard }], guard := some (19, true) }) (v := undef) rfl (by kernel_rfl) (by kernel_rfl) (by kernel_rfl) (fun _ _ _ h => h) (Or.inr ⟨by rfl, rfl⟩) (by assumption) ?_
            try simp only [Act.put, List.setIfInBounds_toArray, List.set_cons_zero, List.set_cons_succ]
            refine wpAnyH_take (i := 22) (oi := { dst := some 129, op := Op.move (Operand.tmp 2), type := 27, pos := "law.go:106", after := #[{ on := 19, ground := Ground.guard }], guard := some (19, true) }) (v := undef) rfl (by kernel_rfl) (by kernel_rfl) (by kernel_rfl) (fun _ _ _ h => h) (Or.inr ⟨by rfl, rfl⟩) (by assumption) ?_
            try simp only [Act.put, List.setIfInBounds_toArray, List.set_cons_zero, List.set_cons_succ]
            refine wpAnyH_take (i := 23) (oi := { dst := some 130, op := Op.call { callee := Callee.value (Operand.func 16), args := #[Operand.tmp 127, Operand.tmp 128, Operand.tmp 129], argTypes := #[29, 27, 27] }, type := 4, pos := "law.go:106", after := #[{ on := 20, ground := Ground.data }, { on := 21, ground := Ground.data }, { on := 22, ground := Ground.data }, { on := 19, ground := Ground.chain }, { on := 19, ground := Ground.guard }], guard := some (19, true) }) (v := undef) rfl (by kernel_rfl) (by kernel_rfl) (by kernel_rfl) (fun _ _ _ h => h) (Or.inr ⟨by rfl, rfl⟩) (by assumption) ?_
            try simp only [Act.put, List.setIfInBounds_toArray, List.set_cons_zero, List.set_cons_succ]
            refine wpAnyH_take (i := 24) (oi := { dst := some 131, op := Op.pick (Operand.tmp 126) (Operand.tmp 130) (Operand.const (Value.bool false)), type := 4, pos := "law.go:106", after := #[{ on := 19, ground := Ground.data }, { on := 23, ground := Ground.data }, { on := 10, ground := Ground.guard }], guard := some (10, true) }) (v := ?vn2x24) rfl (by kernel_rfl) (by kernel_rfl) (by kernel_rfl) (fun _ _ _ h => h) (Or.inl ⟨by rfl, ?hyn2x24⟩) (by assumption) ?restn2x24
            case hyn2x24 => (intro w hSw; (try dsimp only at hSw); go_simp; (try with_reducible rfl))
            case' restn2x24 => skip
            try simp only [Act.put, List.setIfInBounds_toArray, List.set_cons_zero, List.set_cons_succ]
            refine wpAnyH_take (i := 25) (oi := { dst := some 132, op := Op.binOp BinOp.eql 4 (Operand.tmp 121) (Operand.tmp 131) 4, type := 4, pos := "law.go:106", after := #[{ on := 14, ground := Ground.data }, { on := 24, ground := Ground.data }, { on := 10, ground := Ground.guard }], guard := some (10, true) }) (v := ?vn2x25) rfl (by kernel_rfl) (by kernel_rfl) (by kernel_rfl) (fun _ _ _ h => h) (Or.inl ⟨by rfl, ?hyn2x25⟩) (by assumption) ?restn2x25
            case hyn2x25 => (intro w hSw; (try dsimp only at hSw); go_simp; (try with_reducible rfl))
            case' restn2x25 => skip
            try simp only [Act.put, List.setIfInBounds_toArray, List.set_cons_zero, List.set_cons_succ]
            refine wpAnyH_take (i := 26) (oi := { dst := some 133, op := Op.pick (Operand.tmp 117) (Operand.tmp 132) (Operand.const (Value.bool false)), type := 4, pos := "law.go:106", after := #[{ on := 10, ground := Ground.data }, { on := 25, ground := Ground.data }], guard := none }) (v := ?vn2x26) rfl (by kernel_rfl) (by kernel_rfl) (by kernel_rfl) (fun _ _ _ h => h) (Or.inl ⟨by rfl, ?hyn2x26⟩) (by assumption) ?restn2x26
            case hyn2x26 => (intro w hSw; (try dsimp only at hSw); go_simp; (try with_reducible rfl))
            case' restn2x26 => skip
            try simp only [Act.put, List.setIfInBounds_toArray, List.set_cons_zero, List.set_cons_succ]
            refine wpAnyH_take (i := 27) (oi := { dst := some 134, op := Op.move (Operand.tmp 133), type := 4, pos := "law.go:106", after := #[{ on := 26, ground := Ground.data }, { on := 23, ground := Ground.chain }], guard := none }) (v := ?vn2x27) rfl (by kernel_rfl) (by kernel_rfl) (by kernel_rfl) (fun _ _ _ h => h) (Or.inl ⟨by rfl, ?hyn2x27⟩) (by assumption) ?restn2x27
            case hyn2x27 => (intro w hSw; (try dsimp only at hSw); go_simp; (try with_reducible rfl))
            case' restn2x27 => skip
            try simp only [Act.put, List.setIfInBounds_toArray, List.set_cons_zero, List.set_cons_succ]
            refine wpAnyH_ready (rs := [28]) (by kernel_rfl) (by simp) ?_
            refine AllReadyH.cons (o := { dst := some 135, op := Op.call { callee := Callee.value (Operand.func 11), args := #[], argTypes := #[] }, type := 4, pos := "law.go:106", after := #[{ on := 27, ground := Ground.chain }, { on := 27, ground := Ground.guard }], guard := some (27, true) }) rfl (fun K hK => ?_) AllReadyH.nil
            go_simp
            (go_at_call 11; refine (awake_uni HTH7.out _ (by assumption)).mono ?_; rintro e w' ⟨rfl, hb, k0, k1, k2, k3, k4, k5, k6⟩)
            refine hK.out _ _ ?_ (fun hHeld => ?_)
            · refine ⟨?_, ?_, ?_, ?_, ?_, ?_, ?_⟩ <;> assumption
            clear hK K
            try simp only [Act.put, List.setIfInBounds_toArray, List.set_cons_zero, List.set_cons_succ]
            refine wpAnyH_take (i := 29) (oi := { dst := some 136, op := Op.pick (Operand.tmp 134) (Operand.tmp 135) (Operand.const (Value.bool false)), type := 4, pos := "law.go:106", after := #[{ on := 27, ground := Ground.data }, { on := 28, ground := Ground.data }], guard := none }) (v := ?vn2x29) rfl (by kernel_rfl) (by kernel_rfl) (by kernel_rfl) (fun _ _ _ h => h) (Or.inl ⟨by rfl, ?hyn2x29⟩) (by assumption) ?restn2x29
            case hyn2x29 => (intro w hSw; (try dsimp only at hSw); go_simp; (try with_reducible rfl))
            case' restn2x29 => skip
            try simp only [Act.put, List.setIfInBounds_toArray, List.set_cons_zero, List.set_cons_succ]
            refine wpAnyH_take (i := 30) (oi := { dst := some 8, op := Op.assign (Operand.tmp 136), type := 4, pos := "law.go:106", after := #[{ on := 29, ground := Ground.data }, { on := 28, ground := Ground.chain }, { on := 0, ground := Ground.phase }, { on := 1, ground := Ground.phase }, { on := 2, ground := Ground.phase }, { on := 3, ground := Ground.phase }, { on := 4, ground := Ground.phase }, { on := 5, ground := Ground.phase }, { on := 6, ground := Ground.phase }, { on := 7, ground := Ground.phase }, { on := 8, ground := Ground.phase }, { on := 9, ground := Ground.phase }, { on := 10, ground := Ground.phase }, { on := 11, ground := Ground.phase }, { on := 12, ground := Ground.phase }, { on := 13, ground := Ground.phase }, { on := 14, ground := Ground.phase }, { on := 15, ground := Ground.phase }, { on := 16, ground := Ground.phase }, { on := 17, ground := Ground.phase }, { on := 18, ground := Ground.phase }, { on := 19, ground := Ground.phase }, { on := 20, ground := Ground.phase }, { on := 21, ground := Ground.phase }, { on := 22, ground := Ground.phase }, { on := 23, ground := Ground.phase }, { on := 24, ground := Ground.phase }, { on := 25, ground := Ground.phase }, { on := 26, ground := Ground.phase }, { on := 27, ground := Ground.phase }, { on := 28, ground := Ground.phase }, { on := 29, ground := Ground.phase }], guard := none }) (v := ?vn2x30) rfl (by kernel_rfl) (by kernel_rfl) (by kernel_rfl) (fun _ _ _ h => h) (Or.inl ⟨by rfl, ?hyn2x30⟩) (by assumption) ?restn2x30
            case hyn2x30 => (intro w hSw; (try dsimp only at hSw); go_simp; (try with_reducible rfl))
            case' restn2x30 => skip
            try simp only [Act.put, List.setIfInBounds_toArray, List.set_cons_zero, List.set_cons_succ]
            refine wpAnyH_done (by kernel_rfl) ?_ _
            refine NoPanic.normal ?_
            go_wp2_with fail
            go_ret
            exact ⟨rfl, HB7.out.trans (hb.out.mono HB7.out.size)⟩
          | true =>
            cases E with
            | false =>
              go_wp2_with (go_at_call 16; refine (less_uni HTH7.out HO.out _ (by assumption) (by assumption) (by assumption)).mono ?_; rintro e w' ⟨L, rfl, hL, hb, k0, k1, k2, k3, k4, k5, k6⟩; obtain rfl := pick hL (by assumption))
              have HBD := Lib.hid (Below.drew hb.out)
              have j0 : w'.drew.cell? ⟨w.heap.size, 0, none⟩ = _ := k0
              have j1 : w'.drew.cell? ⟨w.heap.size, 1, none⟩ = _ := k1
              have j2 : w'.drew.cell? ⟨w.heap.size, 2, none⟩ = _ := k2
              have j3 : w'.drew.cell? ⟨w.heap.size, 3, none⟩ = _ := k3
              have j4 : w'.drew.cell? ⟨w.heap.size, 4, none⟩ = _ := k4
              have j5 : w'.drew.cell? ⟨w.heap.size, 5, none⟩ = _ := k5
              have j6 : w'.drew.cell? ⟨w.heap.size, 6, none⟩ = _ := k6
              go_region_held3 (fun W => W.cell? ⟨w.heap.size, 0, none⟩ = some (.string nm) ∧ W.cell? ⟨w.heap.size, 1, none⟩ = some (.slice ca cs.length cc) ∧ W.cell? ⟨w.heap.size, 2, none⟩ = some (.slice ta tn tc) ∧ W.cell? ⟨w.heap.size, 3, none⟩ = some (.slice ra ars.length rc) ∧ W.cell? ⟨w.heap.size, 4, none⟩ = some (.slice oa on oc) ∧ W.cell? ⟨w.heap.size, 5, none⟩ = some (.slice ya yn yc) ∧ W.cell? ⟨w.heap.size, 6, none⟩ = some (.slice qa qn qc))
                (refine ⟨?_, ?_, ?_, ?_, ?_, ?_, ?_⟩ <;> assumption)
                ((first
                  | (go_at_call 16; refine (less_uni HTH7.out HO.out _ (by assumption) (by assumption) (by assumption)).mono ?_; rintro e w' ⟨L, rfl, hL, hb, k0, k1, k2, k3, k4, k5, k6⟩; obtain rfl := pick hL (by assumption))
                  | (go_at_call 11; refine (awake_uni HTH7.out _ (by assumption)).mono ?_; rintro e w' ⟨rfl, hb, k0, k1, k2, k3, k4, k5, k6⟩)))
              go_wp2_with fail
              go_ret
              exact ⟨rfl, HB7.out.trans (hb.out.mono HB7.out.size)⟩
            | true =>
              go_wp2_with (go_at_call 16; refine (less_uni HTH7.out HO.out _ (by assumption) (by assumption) (by assumption)).mono ?_; rintro e w' ⟨L, rfl, hL, hb, k0, k1, k2, k3, k4, k5, k6⟩; obtain rfl := pick hL (by assumption))
              have HBD := Lib.hid (Below.drew hb.out)
              have j0 : w'.drew.cell? ⟨w.heap.size, 0, none⟩ = _ := k0
              have j1 : w'.drew.cell? ⟨w.heap.size, 1, none⟩ = _ := k1
              have j2 : w'.drew.cell? ⟨w.heap.size, 2, none⟩ = _ := k2
              have j3 : w'.drew.cell? ⟨w.heap.size, 3, none⟩ = _ := k3
              have j4 : w'.drew.cell? ⟨w.heap.size, 4, none⟩ = _ := k4
              have j5 : w'.drew.cell? ⟨w.heap.size, 5, none⟩ = _ := k5
              have j6 : w'.drew.cell? ⟨w.heap.size, 6, none⟩ = _ := k6
              go_region_held3 (fun W => W.cell? ⟨w.heap.size, 0, none⟩ = some (.string nm) ∧ W.cell? ⟨w.heap.size, 1, none⟩ = some (.slice ca cs.length cc) ∧ W.cell? ⟨w.heap.size, 2, none⟩ = some (.slice ta tn tc) ∧ W.cell? ⟨w.heap.size, 3, none⟩ = some (.slice ra ars.length rc) ∧ W.cell? ⟨w.heap.size, 4, none⟩ = some (.slice oa on oc) ∧ W.cell? ⟨w.heap.size, 5, none⟩ = some (.slice ya yn yc) ∧ W.cell? ⟨w.heap.size, 6, none⟩ = some (.slice qa qn qc))
                (refine ⟨?_, ?_, ?_, ?_, ?_, ?_, ?_⟩ <;> assumption)
                ((first
                  | (go_at_call 16; refine (less_uni HTH7.out HO.out _ (by assumption) (by assumption) (by assumption)).mono ?_; rintro e w' ⟨L, rfl, hL, hb, k0, k1, k2, k3, k4, k5, k6⟩; obtain rfl := pick hL (by assumption))
                  | (go_at_call 11; refine (awake_uni HTH7.out _ (by assumption)).mono ?_; rintro e w' ⟨rfl, hb, k0, k1, k2, k3, k4, k5, k6⟩)))
              go_wp2_with fail
              go_ret
              exact ⟨rfl, HB7.out.trans (hb.out.mono HB7.out.size)⟩
        | true =>
          obtain rfl : C = true := hABC rfl rfl
          clear hABC
          cases D with
          | false =>
            go_wp2_with (go_at_call 16; refine (less_uni HTH7.out HO.out _ (by assumption) (by assumption) (by assumption)).mono ?_; rintro e w' ⟨L, rfl, hL, hb, k0, k1, k2, k3, k4, k5, k6⟩; obtain rfl := pick hL (by assumption))
            have HBD := Lib.hid (Below.drew hb.out)
            have j0 : w'.drew.cell? ⟨w.heap.size, 0, none⟩ = _ := k0
            have j1 : w'.drew.cell? ⟨w.heap.size, 1, none⟩ = _ := k1
            have j2 : w'.drew.cell? ⟨w.heap.size, 2, none⟩ = _ := k2
            have j3 : w'.drew.cell? ⟨w.heap.size, 3, none⟩ = _ := k3
            have j4 : w'.drew.cell? ⟨w.heap.size, 4, none⟩ = _ := k4
            have j5 : w'.drew.cell? ⟨w.heap.size, 5, none⟩ = _ := k5
            have j6 : w'.drew.cell? ⟨w.heap.size, 6, none⟩ = _ := k6
            refine wp_region_noPanic ?_
            refine wp_region_held_drew (S := (fun W => W.cell? ⟨w.heap.size, 0, none⟩ = some (.string nm) ∧ W.cell? ⟨w.heap.size, 1, none⟩ = some (.slice ca cs.length cc) ∧ W.cell? ⟨w.heap.size, 2, none⟩ = some (.slice ta tn tc) ∧ W.cell? ⟨w.heap.size, 3, none⟩ = some (.slice ra ars.length rc) ∧ W.cell? ⟨w.heap.size, 4, none⟩ = some (.slice oa on oc) ∧ W.cell? ⟨w.heap.size, 5, none⟩ = some (.slice ya yn yc) ∧ W.cell? ⟨w.heap.size, 6, none⟩ = some (.slice qa qn qc))) (by kernel_rfl) (by refine ⟨?_, ?_, ?_, ?_, ?_, ?_, ?_⟩ <;> assumption) (fun hHeld => ?_)
            refine wpAnyH_take (i := 0) (oi := { dst := some 107, op := Op.load 29 (Operand.tmp 4), type := 29, pos := "law.go:106", after := #[], guard := none }) (v := ?vn3x0) rfl (by kernel_rfl) (by kernel_rfl) (by kernel_rfl) (fun _ _ _ h => h) (Or.inl ⟨by rfl, ?hyn3x0⟩) (by assumption) ?restn3x0
            case hyn3x0 => (intro w hSw; (try dsimp only at hSw); go_simp; (try with_reducible rfl))
            case' restn3x0 => skip
            try simp only [Act.put, List.setIfInBounds_toArray, List.set_cons_zero, List.set_cons_succ]
            refine wpAnyH_take (i := 1) (oi := { dst := some 108, op := Op.move (Operand.tmp 15), type := 27, pos := "law.go:106", after := #[], guard := none }) (v := ?vn3x1) rfl (by kernel_rfl) (by kernel_rfl) (by kernel_rfl) (fun _ _ _ h => h) (Or.inl ⟨by rfl, ?hyn3x1⟩) (by assumption) ?restn3x1
            case hyn3x1 => (intro w hSw; (try dsimp only at hSw); go_simp; (try with_reducible rfl))
            case' restn3x1 => skip
            try simp only [Act.put, List.setIfInBounds_toArray, List.set_cons_zero, List.set_cons_succ]
            refine wpAnyH_take (i := 2) (oi := { dst := some 109, op := Op.move (Operand.tmp 1), type := 27, pos := "law.go:106", after := #[], guard := none }) (v := ?vn3x2) rfl (by kernel_rfl) (by kernel_rfl) (by kernel_rfl) (fun _ _ _ h => h) (Or.inl ⟨by rfl, ?hyn3x2⟩) (by assumption) ?restn3x2
            case hyn3x2 => (intro w hSw; (try dsimp only at hSw); go_simp; (try with_reducible rfl))
            case' restn3x2 => skip
            try simp only [Act.put, List.setIfInBounds_toArray, List.set_cons_zero, List.set_cons_succ]
            refine wpAnyH_ready (rs := [3]) (by kernel_rfl) (by simp) ?_
            refine AllReadyH.cons (o := { dst := some 110, op := Op.call { callee := Callee.value (Operand.func 16), args := #[Operand.tmp 107, Operand.tmp 108, Operand.tmp 109], argTypes := #[29, 27, 27] }, type := 4, pos := "law.go:106", after := #[{ on := 0, ground := Ground.data }, { on := 1, ground := Ground.data }, { on := 2, ground := Ground.data }], guard := none }) rfl (fun K hK => ?_) AllReadyH.nil
            go_simp
            (go_at_call 16; refine (less_uni HTH7.out HO.out _ (by assumption) (by assumption) (by assumption)).mono ?_; rintro e w' ⟨L, rfl, hL, hb, k0, k1, k2, k3, k4, k5, k6⟩; obtain rfl := pick hL (by assumption))
            refine hK.out _ _ ?_ (fun hHeld => ?_)
            · refine ⟨?_, ?_, ?_, ?_, ?_, ?_, ?_⟩ <;> assumption
            clear hK K
            try simp only [Act.put, List.setIfInBounds_toArray, List.set_cons_zero, List.set_cons_succ]
            refine wpAnyH_take (i := 4) (oi := { dst := some 111, op := Op.move (Operand.tmp 110), type := 4, pos := "law.go:106", after := #[{ on := 3, ground := Ground.data }, { on := 3, ground := Ground.chain }], guard := none }) (v := ?vn3x4) rfl (by kernel_rfl) (by kernel_rfl) (by kernel_rfl) (fun _ _ _ h => h) (Or.inl ⟨by rfl, ?hyn3x4⟩) (by assumption) ?restn3x4
            case hyn3x4 => (intro w hSw; (try dsimp only at hSw); go_simp; (try with_reducible rfl))
            case' restn3x4 => skip
            try simp only [Act.put, List.setIfInBounds_toArray, List.set_cons_zero, List.set_cons_succ]
            refine wpAnyH_take (i := 5) (oi := { dst := some 112, op := Op.load 29 (Operand.tmp 4), type := 29, pos := "law.go:106", after := #[{ on := 4, ground := Ground.guard }], guard := some (4, true) }) (v := ?vn3x5) rfl (by kernel_rfl) (by kernel_rfl) (by kernel_rfl) (fun _ _ _ h => h) (Or.inl ⟨by rfl, ?hyn3x5⟩) (by assumption) ?restn3x5
            case hyn3x5 => (intro w hSw; (try dsimp only at hSw); go_simp; (try with_reducible rfl))
            case' restn3x5 => skip
            try simp only [Act.put, List.setIfInBounds_toArray, List.set_cons_zero, List.set_cons_succ]
            refine wpAnyH_take (i := 6) (oi := { dst := some 113, op := Op.move (Operand.tmp 15), type := 27, pos := "law.go:106", after := #[{ on := 4, ground := Ground.guard }], guard := some (4, true) }) (v := ?vn3x6) rfl (by kernel_rfl) (by kernel_rfl) (by kernel_rfl) (fun _ _ _ h => h) (Or.inl ⟨by rfl, ?hyn3x6⟩) (by assumption) ?restn3x6
            case hyn3x6 => (intro w hSw; (try dsimp only at hSw); go_simp; (try with_reducible rfl))
            case' restn3x6 => skip
            try simp only [Act.put, List.setIfInBounds_toArray, List.set_cons_zero, List.set_cons_succ]
            refine wpAnyH_take (i := 7) (oi := { dst := some 114, op := Op.move (Operand.tmp 2), type := 27, pos := "law.go:106", after := #[{ on := 4, ground := Ground.guard }], guard := some (4, true) }) (v := ?vn3x7) rfl (by kernel_rfl) (by kernel_rfl) (by kernel_rfl) (fun _ _ _ h => h) (Or.inl ⟨by rfl, ?hyn3x7⟩) (by assumption) ?restn3x7
            case hyn3x7 => (intro w hSw; (try dsimp only at hSw); go_simp; (try with_reducible rfl))
            case' restn3x7 => skip
            try simp only [Act.put, List.setIfInBounds_toArray, List.set_cons_zero, List.set_cons_succ]
            refine wpAnyH_ready (rs := [8]) (by kernel_rfl) (by simp) ?_
            refine AllReadyH.cons (o := { dst := some 115, op := Op.call { callee := Callee.value (Operand.func 16), args := #[Operand.tmp 112, Operand.tmp 113, Operand.tmp 114], argTypes := #[29, 27, 27] }, type := 4, pos := "law.go:106", after := #[{ on := 5, ground := Ground.data }, { on := 6, ground := Ground.data }, { on := 7, ground := Ground.data }, { on := 4, ground := Ground.chain }, { on := 4, ground := Ground.guard }], guard := some (4, true) }) rfl (fun K hK => ?_) AllReadyH.nil
            go_simp
            (go_at_call 16; refine (less_uni HTH7.out HO.out _ (by assumption) (by assumption) (by assumption)).mono ?_; rintro e w' ⟨L, rfl, hL, hb, k0, k1, k2, k3, k4, k5, k6⟩; obtain rfl := pick hL (by assumption))
            refine hK.out _ _ ?_ (fun hHeld => ?_)
            · refine ⟨?_, ?_, ?_, ?_, ?_, ?_, ?_⟩ <;> assumption
            clear hK K
            try simp only [Act.put, List.setIfInBounds_toArray, List.set_cons_zero, List.set_cons_succ]
            refine wpAnyH_take (i := 9) (oi := { dst := some 116, op := Op.pick (Operand.tmp 111) (Operand.tmp 115) (Operand.const (Value.bool false)), type := 4, pos := "law.go:106", after := #[{ on := 4, ground := Ground.data }, { on := 8, ground := Ground.data }], guard := none }) (v := ?vn3x9) rfl (by kernel_rfl) (by kernel_rfl) (by kernel_rfl) (fun _ _ _ h => h) (Or.inl ⟨by rfl, ?hyn3x9⟩) (by assumption) ?restn3x9
            case hyn3x9 => (intro w hSw; (try dsimp only at hSw); go_simp; (try with_reducible rfl))
            case' restn3x9 => skip
            try simp only [Act.put, List.setIfInBounds_toArray, List.set_cons_zero, List.set_cons_succ]
            refine wpAnyH_take (i := 10) (oi := { dst := some 117, op := Op.move (Operand.tmp 116), type := 4, pos := "law.go:106", after := #[{ on := 9, ground := Ground.data }, { on := 8, ground := Ground.chain }], guard := none }) (v := ?vn3x10) rfl (by kernel_rfl) (by kernel_rfl) (by kernel_rfl) (fun _ _ _ h => h) (Or.inl ⟨by rfl, ?hyn3x10⟩) (by assumption) ?restn3x10
            case hyn3x10 => (intro w hSw; (try dsimp only at hSw); go_simp; (try with_reducible rfl))
            case' restn3x10 => skip
            try simp only [Act.put, List.setIfInBounds_toArray, List.set_cons_zero, List.set_cons_succ]
            refine wpAnyH_take (i := 11) (oi := { dst := some 118, op := Op.load 29 (Operand.tmp 4), type := 29, pos := "law.go:106", after := #[{ on := 10, ground := Ground.guard }], guard := some (10, true) }) (v := ?vn3x11) rfl (by kernel_rfl) (by kernel_rfl) (by kernel_rfl) (fun _ _ _ h => h) (Or.inl ⟨by rfl, ?hyn3x11⟩) (by assumption) ?restn3x11
            case hyn3x11 => (intro w hSw; (try dsimp only at hSw); go_simp; (try with_reducible rfl))
            case' restn3x11 => skip
            try simp only [Act.put, List.setIfInBounds_toArray, List.set_cons_zero, List.set_cons_succ]
            refine wpAnyH_take (i := 12) (oi := { dst := some 119, op := Op.move (Operand.tmp 3), type := 27, pos := "law.go:106", after := #[{ on := 10, ground := Ground.guard }], guard := some (10, true) }) (v := ?vn3x12) rfl (by kernel_rfl) (by kernel_rfl) (by kernel_rfl) (fun _ _ _ h => h) (Or.inl ⟨by rfl, ?hyn3x12⟩) (by assumption) ?restn3x12
            case hyn3x12 => (intro w hSw; (try dsimp only at hSw); go_simp; (try with_reducible rfl))
            case' restn3x12 => skip
            try simp only [Act.put, List.setIfInBounds_toArray, List.set_cons_zero, List.set_cons_succ]
            refine wpAnyH_take (i := 13) (oi := { dst := some 120, op := Op.move (Operand.tmp 15), type := 27, pos := "law.go:106", after := #[{ on := 10, ground := Ground.guard }], guard := some (10, true) }) (v := ?vn3x13) rfl (by kernel_rfl) (by kernel_rfl) (by kernel_rfl) (fun _ _ _ h => h) (Or.inl ⟨by rfl, ?hyn3x13⟩) (by assumption) ?restn3x13
            case hyn3x13 => (intro w hSw; (try dsimp only at hSw); go_simp; (try with_reducible rfl))
            case' restn3x13 => skip
            try simp only [Act.put, List.setIfInBounds_toArray, List.set_cons_zero, List.set_cons_succ]
            refine wpAnyH_take (i := 15) (oi := { dst := some 122, op := Op.load 29 (Operand.tmp 4), type := 29, pos := "law.go:106", after := #[{ on := 10, ground := Ground.guard }], guard := some (10, true) }) (v := ?vn3x15) rfl (by kernel_rfl) (by kernel_rfl) (by kernel_rfl) (fun _ _ _ h => h) (Or.inl ⟨by rfl, ?hyn3x15⟩) (by assumption) ?restn3x15
            case hyn3x15 => (intro w hSw; (try dsimp only at hSw); go_simp; (try with_reducible rfl))
            case' restn3x15 => skip
            try simp only [Act.put, List.setIfInBounds_toArray, List.set_cons_zero, List.set_cons_succ]
            refine wpAnyH_take (i := 16) (oi := { dst := some 123, op := Op.move (Operand.tmp 3), type := 27, pos := "law.go:106", after := #[{ on := 10, ground := Ground.guard }], guard := some (10, true) }) (v := ?vn3x16) rfl (by kernel_rfl) (by kernel_rfl) (by kernel_rfl) (fun _ _ _ h => h) (Or.inl ⟨by rfl, ?hyn3x16⟩) (by assumption) ?restn3x16
            case hyn3x16 => (intro w hSw; (try dsimp only at hSw); go_simp; (try with_reducible rfl))
            case' restn3x16 => skip
            try simp only [Act.put, List.setIfInBounds_toArray, List.set_cons_zero, List.set_cons_succ]
            refine wpAnyH_take (i := 17) (oi := { dst := some 124, op := Op.move (Operand.tmp 1), type := 27, pos := "law.go:106", after := #[{ on := 10, ground := Ground.guard }], guard := some (10, true) }) (v := ?vn3x17) rfl (by kernel_rfl) (by kernel_rfl) (by kernel_rfl) (fun _ _ _ h => h) (Or.inl ⟨by rfl, ?hyn3x17⟩) (by assumption) ?restn3x17
            case hyn3x17 => (intro w hSw; (try dsimp only at hSw); go_simp; (try with_reducible rfl))
            case' restn3x17 => skip
            try simp only [Act.put, List.setIfInBounds_toArray, List.set_cons_zero, List.set_cons_succ]
            refine wpAnyH_ready (rs := [14]) (by kernel_rfl) (by simp) ?_
            refine AllReadyH.cons (o := { dst := some 121, op := Op.call { callee := Callee.value (Operand.func 16), args := #[Operand.tmp 118, Operand.tmp 119, Operand.tmp 120], argTypes := #[29, 27, 27] }, type := 4, pos := "law.go:106", after := #[{ on := 11, ground := Ground.data }, { on := 12, ground := Ground.data }, { on := 13, ground := Ground.data }, { on := 10, ground := Ground.chain }, { on := 10, ground := Ground.guard }], guard := some (10, true) }) rfl (fun K hK => ?_) AllReadyH.nil
            go_simp
            (go_at_call 16; refine (less_uni HTH7.out HO.out _ (by assumption) (by assumption) (by assumption)).mono ?_; rintro e w' ⟨L, rfl, hL, hb, k0, k1, k2, k3, k4, k5, k6⟩; obtain rfl := pick hL (by assumption))
            refine hK.out _ _ ?_ (fun hHeld => ?_)
            · refine ⟨?_, ?_, ?_, ?_, ?_, ?_, ?_⟩ <;> assumption
            clear hK K
            try simp only [Act.put, List.setIfInBounds_toArray, List.set_cons_zero, List.set_cons_succ]
            refine wpAnyH_ready (rs := [18]) (by kernel_rfl) (by simp) ?_
            refine AllReadyH.cons (o := { dst := some 125, op := Op.call { callee := Callee.value (Operand.func 16), args := #[Operand.tmp 122, Operand.tmp 123, Operand.tmp 124], argTypes := #[29, 27, 27] }, type := 4, pos := "law.go:106", after := #[{ on := 15, ground := Ground.data }, { on := 16, ground := Ground.data }, { on := 17, ground := Ground.data }, { on := 14, ground := Ground.chain }, { on := 10, ground := Ground.guard }], guard := some (10, true) }) rfl (fun K hK => ?_) AllReadyH.nil
            go_simp
            (go_at_call 16; refine (less_uni HTH7.out HO.out _ (by assumption) (by assumption) (by assumption)).mono ?_; rintro e w' ⟨L, rfl, hL, hb, k0, k1, k2, k3, k4, k5, k6⟩; obtain rfl := pick hL (by assumption))
            refine hK.out _ _ ?_ (fun hHeld => ?_)
            · refine ⟨?_, ?_, ?_, ?_, ?_, ?_, ?_⟩ <;> assumption
            clear hK K
            try simp only [Act.put, List.setIfInBounds_toArray, List.set_cons_zero, List.set_cons_succ]
            refine wpAnyH_take (i := 19) (oi := { dst := some 126, op := Op.move (Operand.tmp 125), type := 4, pos := "law.go:106", after := #[{ on := 18, ground := Ground.data }, { on := 18, ground := Ground.chain }, { on := 10, ground := Ground.guard }], guard := some (10, true) }) (v := ?vn3x19) rfl (by kernel_rfl) (by kernel_rfl) (by kernel_rfl) (fun _ _ _ h => h) (Or.inl ⟨by rfl, ?hyn3x19⟩) (by assumption) ?restn3x19
            case hyn3x19 => (intro w hSw; (try dsimp only at hSw); go_simp; (try with_reducible rfl))
            case' restn3x19 => skip
            try simp only [Act.put, List.setIfInBounds_toArray, List.set_cons_zero, List.set_cons_succ]
            refine wpAnyH_take (i := 20) (oi := { dst := some 127, op := Op.load 29 (Operand.tmp 4), type := 29, pos := "law.go:106", after := #[{ on := 19, ground := Ground.guard }], guard := some (19, true) }) (v := undef) rfl (by kernel_rfl) (by kernel_rfl) (by kernel_rfl) (fun _ _ _ h => h) (Or.inr ⟨by rfl, rfl⟩) (by assumption) ?_
            try simp only [Act.put, List.setIfInBounds_toArray, List.set_cons_zero, List.set_cons_succ]
            refine wpAnyH_take (i := 21) (oi := { dst := some 128, op := Op.move (Operand.tmp 3), type := 27, pos := "law.go:106", after := #[{ on := 19, ground := Ground.guard }], guard := some (19, true) }) (v := undef) rfl (by kernel_rfl) (by kernel_rfl) (by kernel_rfl) (fun _ _ _ h => h) (Or.inr ⟨by rfl, rfl⟩) (by assumption) ?_
            try simp only [Act.put, List.setIfInBounds_toArray, List.set_cons_zero, List.set_cons_succ]
            refine wpAnyH_take (i := 22) (oi := { dst := some 129, op := Op.move (Operand.tmp 2), type := 27, pos := "law.go:106", after := #[{ on := 19, ground := Ground.guard }], guard := some (19, true) }) (v := undef) rfl (by kernel_rfl) (by kernel_rfl) (by kernel_rfl) (fun _ _ _ h => h) (Or.inr ⟨by rfl, rfl⟩) (by assumption) ?_
            try simp only [Act.put, List.setIfInBounds_toArray, List.set_cons_zero, List.set_cons_succ]
            refine wpAnyH_take (i := 23) (oi := { dst := some 130, op := Op.call { callee := Callee.value (Operand.func 16), args := #[Operand.tmp 127, Operand.tmp 128, Operand.tmp 129], argTypes := #[29, 27, 27] }, type := 4, pos := "law.go:106", after := #[{ on := 20, ground := Ground.data }, { on := 21, ground := Ground.data }, { on := 22, ground := Ground.data }, { on := 19, ground := Ground.chain }, { on := 19, ground := Ground.guard }], guard := some (19, true) }) (v := undef) rfl (by kernel_rfl) (by kernel_rfl) (by kernel_rfl) (fun _ _ _ h => h) (Or.inr ⟨by rfl, rfl⟩) (by assumption) ?_
            try simp only [Act.put, List.setIfInBounds_toArray, List.set_cons_zero, List.set_cons_succ]
            refine wpAnyH_take (i := 24) (oi := { dst := some 131, op := Op.pick (Operand.tmp 126) (Operand.tmp 130) (Operand.const (Value.bool false)), type := 4, pos := "law.go:106", after := #[{ on := 19, ground := Ground.data }, { on := 23, ground := Ground.data }, { on := 10, ground := Ground.guard }], guard := some (10, true) }) (v := ?vn3x24) rfl (by kernel_rfl) (by kernel_rfl) (by kernel_rfl) (fun _ _ _ h => h) (Or.inl ⟨by rfl, ?hyn3x24⟩) (by assumption) ?restn3x24
            case hyn3x24 => (intro w hSw; (try dsimp only at hSw); go_simp; (try with_reducible rfl))
            case' restn3x24 => skip
            try simp only [Act.put, List.setIfInBounds_toArray, List.set_cons_zero, List.set_cons_succ]
            refine wpAnyH_take (i := 25) (oi := { dst := some 132, op := Op.binOp BinOp.eql 4 (Operand.tmp 121) (Operand.tmp 131) 4, type := 4, pos := "law.go:106", after := #[{ on := 14, ground := Ground.data }, { on := 24, ground := Ground.data }, { on := 10, ground := Ground.guard }], guard := some (10, true) }) (v := ?vn3x25) rfl (by kernel_rfl) (by kernel_rfl) (by kernel_rfl) (fun _ _ _ h => h) (Or.inl ⟨by rfl, ?hyn3x25⟩) (by assumption) ?restn3x25
            case hyn3x25 => (intro w hSw; (try dsimp only at hSw); go_simp; (try with_reducible rfl))
            case' restn3x25 => skip
            try simp only [Act.put, List.setIfInBounds_toArray, List.set_cons_zero, List.set_cons_succ]
            refine wpAnyH_take (i := 26) (oi := { dst := some 133, op := Op.pick (Operand.tmp 117) (Operand.tmp 132) (Operand.const (Value.bool false)), type := 4, pos := "law.go:106", after := #[{ on := 10, ground := Ground.data }, { on := 25, ground := Ground.data }], guard := none }) (v := ?vn3x26) rfl (by kernel_rfl) (by kernel_rfl) (by kernel_rfl) (fun _ _ _ h => h) (Or.inl ⟨by rfl, ?hyn3x26⟩) (by assumption) ?restn3x26
            case hyn3x26 => (intro w hSw; (try dsimp only at hSw); go_simp; (try with_reducible rfl))
            case' restn3x26 => skip
            try simp only [Act.put, List.setIfInBounds_toArray, List.set_cons_zero, List.set_cons_succ]
            refine wpAnyH_take (i := 27) (oi := { dst := some 134, op := Op.move (Operand.tmp 133), type := 4, pos := "law.go:106", after := #[{ on := 26, ground := Ground.data }, { on := 23, ground := Ground.chain }], guard := none }) (v := ?vn3x27) rfl (by kernel_rfl) (by kernel_rfl) (by kernel_rfl) (fun _ _ _ h => h) (Or.inl ⟨by rfl, ?hyn3x27⟩) (by assumption) ?restn3x27
            case hyn3x27 => (intro w hSw; (try dsimp only at hSw); go_simp; (try with_reducible rfl))
            case' restn3x27 => skip
            try simp only [Act.put, List.setIfInBounds_toArray, List.set_cons_zero, List.set_cons_succ]
            refine wpAnyH_ready (rs := [28]) (by kernel_rfl) (by simp) ?_
            refine AllReadyH.cons (o := { dst := some 135, op := Op.call { callee := Callee.value (Operand.func 11), args := #[], argTypes := #[] }, type := 4, pos := "law.go:106", after := #[{ on := 27, ground := Ground.chain }, { on := 27, ground := Ground.guard }], guard := some (27, true) }) rfl (fun K hK => ?_) AllReadyH.nil
            go_simp
            (go_at_call 11; refine (awake_uni HTH7.out _ (by assumption)).mono ?_; rintro e w' ⟨rfl, hb, k0, k1, k2, k3, k4, k5, k6⟩)
            refine hK.out _ _ ?_ (fun hHeld => ?_)
            · refine ⟨?_, ?_, ?_, ?_, ?_, ?_, ?_⟩ <;> assumption
            clear hK K
            try simp only [Act.put, List.setIfInBounds_toArray, List.set_cons_zero, List.set_cons_succ]
            refine wpAnyH_take (i := 29) (oi := { dst := some 136, op := Op.pick (Operand.tmp 134) (Operand.tmp 135) (Operand.const (Value.bool false)), type := 4, pos := "law.go:106", after := #[{ on := 27, ground := Ground.data }, { on := 28, ground := Ground.data }], guard := none }) (v := ?vn3x29) rfl (by kernel_rfl) (by kernel_rfl) (by kernel_rfl) (fun _ _ _ h => h) (Or.inl ⟨by rfl, ?hyn3x29⟩) (by assumption) ?restn3x29
            case hyn3x29 => (intro w hSw; (try dsimp only at hSw); go_simp; (try with_reducible rfl))
            case' restn3x29 => skip
            try simp only [Act.put, List.setIfInBounds_toArray, List.set_cons_zero, List.set_cons_succ]
            refine wpAnyH_take (i := 30) (oi := { dst := some 8, op := Op.assign (Operand.tmp 136), type := 4, pos := "law.go:106", after := #[{ on := 29, ground := Ground.data }, { on := 28, ground := Ground.chain }, { on := 0, ground := Ground.phase }, { on := 1, ground := Ground.phase }, { on := 2, ground := Ground.phase }, { on := 3, ground := Ground.phase }, { on := 4, ground := Ground.phase }, { on := 5, ground := Ground.phase }, { on := 6, ground := Ground.phase }, { on := 7, ground := Ground.phase }, { on := 8, ground := Ground.phase }, { on := 9, ground := Ground.phase }, { on := 10, ground := Ground.phase }, { on := 11, ground := Ground.phase }, { on := 12, ground := Ground.phase }, { on := 13, ground := Ground.phase }, { on := 14, ground := Ground.phase }, { on := 15, ground := Ground.phase }, { on := 16, ground := Ground.phase }, { on := 17, ground := Ground.phase }, { on := 18, ground := Ground.phase }, { on := 19, ground := Ground.phase }, { on := 20, ground := Ground.phase }, { on := 21, ground := Ground.phase }, { on := 22, ground := Ground.phase }, { on := 23, ground := Ground.phase }, { on := 24, ground := Ground.phase }, { on := 25, ground := Ground.phase }, { on := 26, ground := Ground.phase }, { on := 27, ground := Ground.phase }, { on := 28, ground := Ground.phase }, { on := 29, ground := Ground.phase }], guard := none }) (v := ?vn3x30) rfl (by kernel_rfl) (by kernel_rfl) (by kernel_rfl) (fun _ _ _ h => h) (Or.inl ⟨by rfl, ?hyn3x30⟩) (by assumption) ?restn3x30
            case hyn3x30 => (intro w hSw; (try dsimp only at hSw); go_simp; (try with_reducible rfl))
            case' restn3x30 => skip
            try simp only [Act.put, List.setIfInBounds_toArray, List.set_cons_zero, List.set_cons_succ]
            refine wpAnyH_done (by kernel_rfl) ?_ _
            refine NoPanic.normal ?_
            go_wp2_with fail
            go_ret
            exact ⟨rfl, HB7.out.trans (hb.out.mono HB7.out.size)⟩
          | true =>
            cases E with
            | false =>
              go_wp2_with (go_at_call 16; refine (less_uni HTH7.out HO.out _ (by assumption) (by assumption) (by assumption)).mono ?_; rintro e w' ⟨L, rfl, hL, hb, k0, k1, k2, k3, k4, k5, k6⟩; obtain rfl := pick hL (by assumption))
              have HBD := Lib.hid (Below.drew hb.out)
              have j0 : w'.drew.cell? ⟨w.heap.size, 0, none⟩ = _ := k0
              have j1 : w'.drew.cell? ⟨w.heap.size, 1, none⟩ = _ := k1
              have j2 : w'.drew.cell? ⟨w.heap.size, 2, none⟩ = _ := k2
              have j3 : w'.drew.cell? ⟨w.heap.size, 3, none⟩ = _ := k3
              have j4 : w'.drew.cell? ⟨w.heap.size, 4, none⟩ = _ := k4
              have j5 : w'.drew.cell? ⟨w.heap.size, 5, none⟩ = _ := k5
              have j6 : w'.drew.cell? ⟨w.heap.size, 6, none⟩ = _ := k6
              go_region_held3 (fun W => W.cell? ⟨w.heap.size, 0, none⟩ = some (.string nm) ∧ W.cell? ⟨w.heap.size, 1, none⟩ = some (.slice ca cs.length cc) ∧ W.cell? ⟨w.heap.size, 2, none⟩ = some (.slice ta tn tc) ∧ W.cell? ⟨w.heap.size, 3, none⟩ = some (.slice ra ars.length rc) ∧ W.cell? ⟨w.heap.size, 4, none⟩ = some (.slice oa on oc) ∧ W.cell? ⟨w.heap.size, 5, none⟩ = some (.slice ya yn yc) ∧ W.cell? ⟨w.heap.size, 6, none⟩ = some (.slice qa qn qc))
                (refine ⟨?_, ?_, ?_, ?_, ?_, ?_, ?_⟩ <;> assumption)
                ((first
                  | (go_at_call 16; refine (less_uni HTH7.out HO.out _ (by assumption) (by assumption) (by assumption)).mono ?_; rintro e w' ⟨L, rfl, hL, hb, k0, k1, k2, k3, k4, k5, k6⟩; obtain rfl := pick hL (by assumption))
                  | (go_at_call 11; refine (awake_uni HTH7.out _ (by assumption)).mono ?_; rintro e w' ⟨rfl, hb, k0, k1, k2, k3, k4, k5, k6⟩)))
              go_wp2_with fail
              go_ret
              exact ⟨rfl, HB7.out.trans (hb.out.mono HB7.out.size)⟩
            | true =>
              go_wp2_with (go_at_call 16; refine (less_uni HTH7.out HO.out _ (by assumption) (by assumption) (by assumption)).mono ?_; rintro e w' ⟨L, rfl, hL, hb, k0, k1, k2, k3, k4, k5, k6⟩; obtain rfl := pick hL (by assumption))
              have HBD := Lib.hid (Below.drew hb.out)
              have j0 : w'.drew.cell? ⟨w.heap.size, 0, none⟩ = _ := k0
              have j1 : w'.drew.cell? ⟨w.heap.size, 1, none⟩ = _ := k1
              have j2 : w'.drew.cell? ⟨w.heap.size, 2, none⟩ = _ := k2
              have j3 : w'.drew.cell? ⟨w.heap.size, 3, none⟩ = _ := k3
              have j4 : w'.drew.cell? ⟨w.heap.size, 4, none⟩ = _ := k4
              have j5 : w'.drew.cell? ⟨w.heap.size, 5, none⟩ = _ := k5
              have j6 : w'.drew.cell? ⟨w.heap.size, 6, none⟩ = _ := k6
              go_region_held3 (fun W => W.cell? ⟨w.heap.size, 0, none⟩ = some (.string nm) ∧ W.cell? ⟨w.heap.size, 1, none⟩ = some (.slice ca cs.length cc) ∧ W.cell? ⟨w.heap.size, 2, none⟩ = some (.slice ta tn tc) ∧ W.cell? ⟨w.heap.size, 3, none⟩ = some (.slice ra ars.length rc) ∧ W.cell? ⟨w.heap.size, 4, none⟩ = some (.slice oa on oc) ∧ W.cell? ⟨w.heap.size, 5, none⟩ = some (.slice ya yn yc) ∧ W.cell? ⟨w.heap.size, 6, none⟩ = some (.slice qa qn qc))
                (refine ⟨?_, ?_, ?_, ?_, ?_, ?_, ?_⟩ <;> assumption)
                ((first
                  | (go_at_call 16; refine (less_uni HTH7.out HO.out _ (by assumption) (by assumption) (by assumption)).mono ?_; rintro e w' ⟨L, rfl, hL, hb, k0, k1, k2, k3, k4, k5, k6⟩; obtain rfl := pick hL (by assumption))
                  | (go_at_call 11; refine (awake_uni HTH7.out _ (by assumption)).mono ?_; rintro e w' ⟨rfl, hb, k0, k1, k2, k3, k4, k5, k6⟩)))
              go_wp2_with fail
              go_ret
              exact ⟨rfl, HB7.out.trans (hb.out.mono HB7.out.size)⟩
end Go.Proofs.Ytlaibimdkamcfaa
