/-
  slices.Equal, slices.EqualFunc and Same: equality of types, field by field.
-/
import Derived.Test.YthopoidcglfdjaaDoorC3
import Derived.Deep.QuietTactic
import Derived.BigQuiet
namespace Go.Proofs.YthopoidcglfdjaaDoor
open Go.RowKit

theorem AtTy.val {B : Nat} {W : World} {b o : Nat} {T : Ty} (h : AtTy B W b o T) : ∃ (sa : Option Addr) (sc : Nat) (a : Option Addr) (cap : Nat), b < B ∧ W.cell? ⟨b, o, none⟩ = some (.int .i64 T.op) ∧ W.cell? ⟨b, o + 1, none⟩ = some (.string T.name) ∧
    W.cell? ⟨b, o + 2, none⟩ = some (.int .i64 T.index) ∧ W.cell? ⟨b, o + 3, none⟩ = some (.slice sa T.sort.length sc) ∧ W.cell? ⟨b, o + 4, none⟩ = some (.slice a T.args.length cap) ∧
    HasTy B W (.agg #[.int .i64 T.op, .string T.name, .int .i64 T.index, .slice sa T.sort.length sc, .slice a T.args.length cap]) T := by
  obtain ⟨_, _, op, ix, nm, srt, args, vs, a, cap, ab, ao, hb, k0, k1, k2, k3, k4, hop, hix, hnm, hs, hl, ha, he⟩ := h
  have hs' := hs
  obtain ⟨sa, sc, _, _, rfl, _⟩ := hs'
  exact ⟨sa, sc, a, cap, hb, k0, k1, k2, k3, k4, _, a, cap, ab, ao, rfl, hop, hix, hnm, hs, hl, ha, he⟩

theorem ret_bool {a b : Bool} (h : a = b) : Ending.returned (.bool a) = .returned (.bool b) := by rw [h]

theorem bytes_eq {x y : ByteArray} (h : (x.toList == y.toList) = true) : x = y := ba_ext (by rw [← ByteArray.toList_eq, ← ByteArray.toList_eq]; simpa using h)
theorem bytes_ne {x y : ByteArray} (h : (x.toList == y.toList) = false) : x ≠ y := by intro e; subst e; simp at h

theorem take_next {α : Type} (l m : List α) (k : Nat) (h1 : k < l.length) (h2 : k < m.length) (h : l.take k = m.take k) (e : l[k] = m[k]) : l.take (k + 1) = m.take (k + 1) := by
  rw [List.take_succ_eq_append_getElem h1, List.take_succ_eq_append_getElem h2, h, e]

set_option maxHeartbeats 1000000 in
/-- slices.Equal of strings. -/
theorem equal_strs (B : Nat) (v1 v2 : Value) (l1 l2 : List ByteArray) (w : World) (h1 : HasStrs B w v1 l1) (h2 : HasStrs B w v2 l2) :
    Calls Tryd.prog 16 #[v1, v2] w fun e w' => e = .returned (.bool (decide (l1 = l2))) ∧ ∃ n, w' = w.drewN n := by
  obtain ⟨a1, k1, b1, o1, rfl, m1, n1, g1⟩ := h1
  obtain ⟨a2, k2, b2, o2, rfl, m2, n2, g2⟩ := h2
  have N1 := Lib.hid n1
  have N2 := Lib.hid n2
  have G1 := Lib.hid g1
  have G2 := Lib.hid g2
  clear n1 n2 g1 g2
  by_cases hl : l1.length = l2.length
  · have hL := Lib.hid hl
    rw [← hl]
    clear hl
    go_enter Tryd.func16, Tryd.ntmps16
    go_wp2_with fail
    go_loopw [13] (fun t wr => ∃ k q : Nat, t = .int .i64 k ∧ k ≤ l1.length ∧ l1.take k = l2.take k ∧ wr = w.drewN q) (fun t _ => l1.length - (intOf t).toNat)
    case atStart => exact ⟨0, 0, rfl, Nat.zero_le _, rfl, rfl⟩
    case round =>
      obtain ⟨k, q, rfl, hk1, hf, rfl⟩ := hrel
      have HF := Lib.hid hf
      clear hf
      by_cases hlt1 : k < l1.length
      · obtain ⟨rfl, hab⟩ := N1.out (by intro e; subst e; simp at hlt1)
        have hlt2 : k < l2.length := by have := hL.out; omega
        obtain ⟨rfl, hab'⟩ := N2.out (by intro e; subst e; simp at hlt2)
        have c0 := (G1.out k hlt1).1
        have d0 := (G2.out k hlt2).1
        cases hx : (l1[k].toList == l2[k].toList) with
        | true =>
          have HX := Lib.hid (bytes_eq hx)
          go_wp2_with fail
          go_quiet (fail)
          go_wp2_with fail
          go_roundw
          case rel => exact ⟨k + 1, _, by go_num, by omega, take_next l1 l2 k hlt1 hlt2 HF.out HX.out, rfl⟩
          case measure => simp [intOf]; omega
        | false =>
          have HX := Lib.hid (bytes_ne hx)
          go_wp2_with fail
          go_quiet (fail)
          go_wp2_with fail
          go_ret
          exact ⟨ret_bool (by symm; rw [decide_eq_false_iff_not]; rintro rfl; exact HX.out rfl), _, World.drewN_drewN _ _ _⟩
      · go_wp2_with fail
        go_ret
        refine ⟨ret_bool ?_, _, rfl⟩
        symm
        rw [decide_eq_true_iff]
        have h := HF.out
        rwa [List.take_of_length_le (by omega), List.take_of_length_le (by have := hL.out; omega)] at h
  · have hL := Lib.hid hl
    have hne : ((l1.length : Int) != (l2.length : Int)) = true := by simp; omega
    clear hl
    go_enter Tryd.func16, Tryd.ntmps16
    go_wp2_with fail
    go_ret
    exact ⟨ret_bool (by symm; rw [decide_eq_false_iff_not]; intro e; exact hL.out (by rw [e])), 0, rfl⟩

set_option maxHeartbeats 1000000 in
/-- slices.EqualFunc of types by Same. -/
theorem equal_tys (B : Nat) (l1 l2 : List Ty) (ab ao ab' ao' cap cap' : Nat) (a a' : Option Addr) (w : World) (hB : B ≤ w.heap.size) (hl1 : l1.length ≤ 9223372036854775807)
    (ha : l1 ≠ [] → a = some ⟨ab, ao, none⟩ ∧ ab < B) (ha' : l2 ≠ [] → a' = some ⟨ab', ao', none⟩ ∧ ab' < B) (he : ∀ i (h : i < l1.length), AtTy B w ab (ao + i * 5) l1[i]) (he' : ∀ i (h : i < l2.length), AtTy B w ab' (ao' + i * 5) l2[i])
    (hsame : ∀ i (h : i < l1.length) (h' : i < l2.length) (B' : Nat) (v1 v2 : Value) (W : World), B' ≤ W.heap.size → HasTy B' W v1 l1[i] → HasTy B' W v2 l2[i] → Calls Tryd.prog 8 #[v1, v2] W fun e w' => e = .returned (.bool (Ty.cmp l1[i] l2[i] == 0)) ∧ Below W.heap.size W w') :
    Calls Tryd.prog 17 #[.slice a l1.length cap, .slice a' l2.length cap', .func (.func 8) #[] #[]] w fun e w' => e = .returned (.bool (Ty.cmpL l1 l2 == 0)) ∧ Below w.heap.size w w' := by
  have HA := Lib.hid ha
  have HA' := Lib.hid ha'
  have HE := Lib.hid he
  have HE' := Lib.hid he'
  have HS := Lib.hid hsame
  clear ha ha' he he' hsame
  by_cases hl : l1.length = l2.length
  · have hL := Lib.hid hl
    rw [← hl]
    clear hl
    go_enter Tryd.func17, Tryd.ntmps17
    go_wp2_with fail
    go_loopw [17] (fun t wr => ∃ k : Nat, t = .int .i64 k ∧ k ≤ l1.length ∧ Ty.cmpL (l1.drop k) (l2.drop k) = Ty.cmpL l1 l2 ∧ Below w.heap.size w wr) (fun t _ => l1.length - (intOf t).toNat)
    case atStart => exact ⟨0, rfl, Nat.zero_le _, rfl, Below.refl _ _⟩
    case round =>
      obtain ⟨k, rfl, hk1, hf, hwr⟩ := hrel
      have HF := Lib.hid hf
      clear hf
      by_cases hlt1 : k < l1.length
      · obtain ⟨rfl, hab⟩ := HA.out (by intro e; subst e; simp at hlt1)
        obtain ⟨rfl, hab'⟩ := HA'.out (by intro e; have := hL.out; subst e; simp at this; subst this; simp at hlt1)
        obtain ⟨xs, xn, xa, xc, _, c0, c1, c2, c3, c4, hv⟩ := (AtTy.later (hwr.mono hB) (Nat.le_refl _) (HE.out k hlt1)).val
        obtain ⟨ys, yn, ya, yc, _, d0, d1, d2, d3, d4, hv'⟩ := (AtTy.later (hwr.mono hB) (Nat.le_refl _) (HE'.out k (by have := hL.out; omega))).val
        have hs1 : ab < wr.heap.size := by have := hwr.size; omega
        have hs2 : ab' < wr.heap.size := by have := hwr.size; omega
        have hlt2 : k < l2.length := by have := hL.out; omega
        have hd := Lib.hid (cmpL_drop l1 l2 k hlt1 hlt2)
        have HZ := Lib.hid ((Ty.cmp_cmp l1[k]).zero l2[k])
        have hBr : B ≤ wr.heap.size := by have := hwr.size; omega
        go_wp2_with fail
        refine (HS.out k hlt1 hlt2 B _ _ _ ?hsz ?hv1 ?hv2).mono ?_
        case hsz => simp; omega
        case hv1 => exact hv.later ((((Below.refl _ _).alloc (Nat.le_refl _) _).alloc (by simp) _).mono hBr) (Nat.le_refl _)
        case hv2 => exact hv'.later ((((Below.refl _ _).alloc (Nat.le_refl _) _).alloc (by simp) _).mono hBr) (Nat.le_refl _)
        rintro e W2 ⟨rfl, hW2⟩
        have hW3 : Below w.heap.size w W2 := hwr.trans (((((Below.refl _ _).alloc (Nat.le_refl _) _).alloc (by simp) _).mono hwr.size).trans (hW2.mono (by have := hwr.size; simp; omega)))
        cases hq : (Ty.cmp l1[k] l2[k] == 0) with
        | true =>
          have HQ := Lib.hid hq
          go_wp2_with fail
          go_roundw
          case rel => exact ⟨k + 1, by go_num, by omega, by rw [← HF.out, hd.out, eq_of_beq HQ.out]; rfl, hW3⟩
          case measure => simp [intOf]; omega
        | false =>
          have HQ := Lib.hid hq
          go_wp2_with fail
          go_ret
          refine ⟨ret_bool ?_, hW3⟩
          have h0 : Ty.cmp l1[k] l2[k] ≠ 0 := by simpa using HQ.out
          symm
          rw [beq_eq_false_iff_ne, ← HF.out, hd.out]
          unfold or2
          rw [if_neg h0]
          exact h0
      · have hend : Ty.cmpL l1 l2 = 0 := by
          rw [← HF.out, List.drop_of_length_le (by omega), List.drop_of_length_le (by have := hL.out; omega)]; rfl
        have HE := Lib.hid hend
        clear hend
        go_wp2_with fail
        go_ret
        exact ⟨ret_bool (by rw [HE.out]; rfl), hwr⟩
  · have hL := Lib.hid hl
    have hne : ((l1.length : Int) != (l2.length : Int)) = true := by simp; omega
    clear hl
    go_enter Tryd.func17, Tryd.ntmps17
    go_wp2_with fail
    go_ret
    refine ⟨ret_bool ?_, Below.refl _ _⟩
    symm
    rw [beq_eq_false_iff_ne]
    intro e
    exact hL.out (by rw [((Ty.cmpL_cmp l1).zero l2).1 e])
theorem cmp_mk (o n i s a) (o' n' i' s' a') : (Ty.cmp (.mk o n i s a) (.mk o' n' i' s' a') == 0) = (decide (o = o') && decide (n = n') && decide (i = i') && decide (s = s') && (Ty.cmpL a a' == 0)) := by
  rw [Bool.eq_iff_iff]
  simp only [Ty.cmp, beq_iff_eq, or2_zero, (c3_cmp o).zero, (c3s_cmp n).zero, (c3_cmp i).zero, (lexl_cmp c3s c3s_cmp s).zero, Bool.and_eq_true, decide_eq_true_eq]
  constructor
  · rintro ⟨⟨h1, h2, h3, h4⟩, h5⟩; exact ⟨⟨⟨⟨h1, h2⟩, h3⟩, h4⟩, h5⟩
  · rintro ⟨⟨⟨⟨h1, h2⟩, h3⟩, h4⟩, h5⟩; exact ⟨⟨h1, h2, h3, h4⟩, h5⟩

set_option maxHeartbeats 4000000 in
/-- Same: all fields are equal. -/
theorem same_any (N : Nat) : ∀ (B : Nat) (v1 v2 : Value) (T1 T2 : Ty) (w : World), T1.sz < N → B ≤ w.heap.size → HasTy B w v1 T1 → HasTy B w v2 T2 →
    Calls Tryd.prog 8 #[v1, v2] w fun e w' => e = .returned (.bool (Ty.cmp T1 T2 == 0)) ∧ Below w.heap.size w w' := by
  induction N with
  | zero => intro B v1 v2 T1 T2 w hN; omega
  | succ N ih =>
  intro B v1 v2 T1 T2 w hN hB h1 h2
  obtain ⟨op, nm, ix, srt, args⟩ := T1
  obtain ⟨op', nm', ix', srt', args'⟩ := T2
  have IH := Lib.hid ih
  clear ih
  obtain ⟨x3, a, cap, ab, ao, rfl, hop, hix, hnm, hs, hl, ha, he⟩ := h1
  obtain ⟨y3, a', cap', ab', ao', rfl, hop', hix', hnm', hs', hl', ha', he'⟩ := h2
  simp only [Ty.op, Ty.name, Ty.index, Ty.sort, Ty.args] at *
  rw [cmp_mk]
  have hfun := fun (W : World) (hW : Below w.heap.size w W) => equal_tys B args args' ab ao ab' ao' cap cap' a a' W (by have := hW.size; omega) hl ha ha'
    (fun i h => AtTy.later (hW.mono hB) (Nat.le_refl _) (he i h)) (fun i h => AtTy.later (hW.mono hB) (Nat.le_refl _) (he' i h))
    (fun i h h' B' v1 v2 W' hB' g1 g2 => IH.out B' v1 v2 args[i] args'[i] W' (by have := Ty.size_arg (op := op) (ix := ix) (nm := nm) (srt := srt) i h; omega) hB' g1 g2)
  have hstr := fun (W : World) (hW : Below w.heap.size w W) => equal_strs B x3 y3 srt srt' W (hs.later (hW.mono hB) (Nat.le_refl _)) (hs'.later (hW.mono hB) (Nat.le_refl _))
  have HF := Lib.hid hfun
  have HS := Lib.hid hstr
  obtain ⟨sa, sc, _, _, rfl, _⟩ := hs
  obtain ⟨sa', sc', _, _, rfl, _⟩ := hs'
  clear hfun hstr ha ha' he he'
  by_cases e0 : op = op'
  · cases e1 : (nm.toList == nm'.toList) with
    | true =>
      by_cases e2 : ix = ix'
      · have E1 := Lib.hid (bytes_eq e1)
        subst e0 e2
        go_enter Tryd.func8, Tryd.ntmps8
        go_wp2_with fail
        refine (HS.out _ (((Below.refl _ _).alloc (Nat.le_refl _) _).alloc (by simp) _)).mono ?_
        rintro e W ⟨rfl, q, rfl⟩
        have hb2 : Below w.heap.size w ((((w.alloc (.cells #[.int .i64 op, .string nm, .int .i64 ix, .slice sa srt.length sc, .slice a args.length cap] 25)).alloc (.cells #[.int .i64 op, .string nm', .int .i64 ix, .slice sa' srt'.length sc', .slice a' args'.length cap'] 25))).drewN q) :=
          below_drewN (((Below.refl _ _).alloc (Nat.le_refl _) _).alloc (by simp) _) q
        have HB := Lib.hid hb2
        clear hb2
        by_cases e3 : srt = srt'
        · rw [decide_eq_true e3]
          have E3 := Lib.hid e3
          clear e3
          go_wp2_with fail
          refine (HF.out _ HB.out).mono ?_
          rintro e W2 ⟨rfl, hW2⟩
          have hW3 : Below w.heap.size w W2 := HB.out.trans (hW2.mono (HB.out.size))
          cases hq : (Ty.cmpL args args' == 0)
          all_goals
            go_wp2_with fail
            go_ret
            exact ⟨ret_bool (by rw [hq, decide_eq_true E1.out, decide_eq_true E3.out]; simp), hW3⟩
        · rw [decide_eq_false e3]
          have E3 := Lib.hid e3
          clear e3
          go_wp2_with fail
          go_ret
          exact ⟨ret_bool (by rw [decide_eq_false E3.out]; simp), HB.out⟩
      · have hne : (ix == ix') = false := by simpa using e2
        have E2 := Lib.hid e2
        clear e2
        subst e0
        go_enter Tryd.func8, Tryd.ntmps8
        go_wp2_with fail
        go_ret
        exact ⟨ret_bool (by rw [decide_eq_false E2.out]; simp), (((Below.refl _ _).alloc (Nat.le_refl _) _).alloc (by simp) _)⟩
    | false =>
      have E1 := Lib.hid (bytes_ne e1)
      subst e0
      go_enter Tryd.func8, Tryd.ntmps8
      go_wp2_with fail
      go_ret
      exact ⟨ret_bool (by rw [decide_eq_false E1.out]; simp), (((Below.refl _ _).alloc (Nat.le_refl _) _).alloc (by simp) _)⟩
  · have hne : (op == op') = false := by simpa using e0
    have E0 := Lib.hid e0
    clear e0
    go_enter Tryd.func8, Tryd.ntmps8
    go_wp2_with fail
    go_ret
    exact ⟨ret_bool (by rw [decide_eq_false E0.out]; simp), (((Below.refl _ _).alloc (Nat.le_refl _) _).alloc (by simp) _)⟩
end Go.Proofs.YthopoidcglfdjaaDoor
