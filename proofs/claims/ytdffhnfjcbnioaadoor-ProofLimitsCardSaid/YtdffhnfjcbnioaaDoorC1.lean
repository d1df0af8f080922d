/-
  Contracts of the comparisons of the library: cmp.Compare of ints and of strings, cmp.Or, slices.Compare of strings.
-/
import Derived.Test.YtdffhnfjcbnioaaDoorProg
import Derived.Test.YtdffhnfjcbnioaaDoorMem
import Derived.WalkKit
import Derived.WalkSpells
import Derived.WalkLawsBesides
import Derived.Lib.Hide
namespace Go.Proofs.YtdffhnfjcbnioaaDoor
open Go.RowKit

set_option maxHeartbeats 400000 in
theorem isNaN_int (x : Int) (w : World) : Calls Tryd.prog 78 #[.int .i64 x] w fun e w' => e = .returned (.bool false) ∧ w = w' := by
  go_enter Tryd.func78, Tryd.ntmps78
  go_wp2
  go_ret
  exact ⟨by simp, rfl⟩

set_option maxHeartbeats 400000 in
theorem isNaN_str (x : ByteArray) (w : World) : Calls Tryd.prog 93 #[.string x] w fun e w' => e = .returned (.bool false) ∧ w = w' := by
  go_enter Tryd.func93, Tryd.ntmps93
  go_wp2
  go_ret
  exact ⟨by simp, rfl⟩

theorem ret_i64 {a b : Int} (h : a = b) : Ending.returned (.int .i64 a) = .returned (.int .i64 b) := by rw [h]

set_option maxHeartbeats 400000 in
theorem cmp_int (x y : Int) (w : World) : Calls Tryd.prog 61 #[.int .i64 x, .int .i64 y] w fun e w' => e = .returned (.int .i64 (c3 x y)) ∧ w = w' := by
  by_cases h1 : x < y
  · go_enter Tryd.func61, Tryd.ntmps61
    go_wp2_with (go_at_call 78; refine (isNaN_int _ _).mono ?_; rintro e w' ⟨rfl, rfl⟩)
    go_ret
    exact ⟨ret_i64 (by unfold c3; split <;> omega), rfl⟩
  · by_cases h2 : y < x
    · go_enter Tryd.func61, Tryd.ntmps61
      go_wp2_with (go_at_call 78; refine (isNaN_int _ _).mono ?_; rintro e w' ⟨rfl, rfl⟩)
      go_ret
      exact ⟨ret_i64 (by unfold c3; split <;> (try split) <;> omega), rfl⟩
    · go_enter Tryd.func61, Tryd.ntmps61
      go_wp2_with (go_at_call 78; refine (isNaN_int _ _).mono ?_; rintro e w' ⟨rfl, rfl⟩)
      go_ret
      exact ⟨ret_i64 (by unfold c3; split <;> (try split) <;> omega), rfl⟩

theorem c3s_lt {x y : ByteArray} (h : Op.bytesLess x.toList y.toList = true) : c3s x y = -1 := by unfold c3s; rw [if_pos h]
theorem c3s_eq' {x y : ByteArray} (h : (x.toList == y.toList) = true) : c3s x y = 0 := by
  have e : x = y := ba_ext (by rw [← ByteArray.toList_eq, ← ByteArray.toList_eq]; simpa using h)
  exact ((c3s_cmp x).zero y).2 e
theorem c3s_gt {x y : ByteArray} (h1 : Op.bytesLess x.toList y.toList = false) (h2 : (x.toList == y.toList) = false) : c3s x y = 1 := by
  have n0 : c3s x y ≠ 0 := by
    intro h
    have e := ((c3s_cmp x).zero y).1 h
    subst e
    simp at h2
  unfold c3s at n0 ⊢
  rw [if_neg (by simp [h1])] at n0 ⊢
  split
  · rfl
  · rename_i h; rw [if_neg h] at n0; exact absurd rfl n0

set_option maxHeartbeats 400000 in
theorem cmp_str (x y : ByteArray) (w : World) : Calls Tryd.prog 79 #[.string x, .string y] w fun e w' => e = .returned (.int .i64 (c3s x y)) ∧ w = w' := by
  cases h1 : Op.bytesLess x.toList y.toList with
  | true =>
    have k := Lib.hid (c3s_lt h1)
    go_enter Tryd.func79, Tryd.ntmps79
    go_wp2_with (go_at_call 93; refine (isNaN_str _ _).mono ?_; rintro e w' ⟨rfl, rfl⟩)
    go_ret
    exact ⟨ret_i64 k.out.symm, rfl⟩
  | false =>
    cases h2 : (x.toList == y.toList) with
    | true =>
      have k := Lib.hid (c3s_eq' h2)
      go_enter Tryd.func79, Tryd.ntmps79
      go_wp2_with (go_at_call 93; refine (isNaN_str _ _).mono ?_; rintro e w' ⟨rfl, rfl⟩)
      go_ret
      exact ⟨ret_i64 k.out.symm, rfl⟩
    | false =>
      have k := Lib.hid (c3s_gt h1 h2)
      go_enter Tryd.func79, Tryd.ntmps79
      go_wp2_with (go_at_call 93; refine (isNaN_str _ _).mono ?_; rintro e w' ⟨rfl, rfl⟩)
      go_ret
      exact ⟨ret_i64 k.out.symm, rfl⟩

/-- The first number that is not 0. -/
def firstNZ : List Int → Int
  | [] => 0
  | x :: r => or2 x (firstNZ r)

theorem firstNZ_drop (xs : List Int) (k : Nat) (h : k < xs.length) : firstNZ (xs.drop k) = or2 xs[k] (firstNZ (xs.drop (k + 1))) := by
  rw [List.drop_eq_getElem_cons h]; rfl

theorem lexl_drop {α : Type} (f : α → α → Int) (l m : List α) (k : Nat) (h1 : k < l.length) (h2 : k < m.length) : lexl f (l.drop k) (m.drop k) = or2 (f l[k] m[k]) (lexl f (l.drop (k + 1)) (m.drop (k + 1))) := by
  rw [List.drop_eq_getElem_cons h1, List.drop_eq_getElem_cons h2]; rfl
theorem lexl_short {α : Type} (f : α → α → Int) (l m : List α) (h : l.length < m.length) : lexl f (l.drop l.length) (m.drop l.length) = -1 := by
  rw [List.drop_length, List.drop_eq_getElem_cons h]; rfl
theorem lexl_long {α : Type} (f : α → α → Int) (l m : List α) (h : m.length < l.length) : lexl f (l.drop m.length) (m.drop m.length) = 1 := by
  rw [List.drop_length, List.drop_eq_getElem_cons h]; rfl
theorem lexl_even {α : Type} (f : α → α → Int) (l m : List α) (h : m.length = l.length) : lexl f (l.drop l.length) (m.drop l.length) = 0 := by
  rw [List.drop_length, ← h, List.drop_length]; rfl

set_option maxHeartbeats 400000 in
/-- cmp.Or of ints. -/
theorem or_ints (b o cap : Nat) (xs : List Int) (w : World) (hl : xs.length ≤ 9223372036854775807) (hc : ∀ i (h : i < xs.length), w.cell? ⟨b, o + i, none⟩ = some (.int .i64 xs[i])) :
    Calls Tryd.prog 60 #[.slice (some ⟨b, o, none⟩) xs.length cap] w fun e w' => e = .returned (.int .i64 (firstNZ xs)) ∧ w = w' := by
  have HC := Lib.hid hc
  clear hc
  go_enter Tryd.func60, Tryd.ntmps60
  go_wp2
  go_loop [8] (fun t => ∃ k : Nat, t = .int .i64 k ∧ k ≤ xs.length ∧ firstNZ (xs.drop k) = firstNZ xs) (fun t => xs.length - (intOf t).toNat)
  case atStart => exact ⟨0, rfl, Nat.zero_le _, rfl⟩
  case round =>
    obtain ⟨k, rfl, hk, hf⟩ := hrel
    by_cases hlt : k < xs.length
    · have hx := HC.out k hlt
      have hd := Lib.hid (firstNZ_drop xs k hlt)
      have hF := Lib.hid hf
      clear hf
      by_cases h0 : xs[k] = 0
      · rw [h0] at hx
        have e0 := Lib.hid h0
        clear h0
        go_wp2
        go_round
        case rel =>
          refine ⟨k + 1, by go_num, by omega, ?_⟩
          rw [← hF.out, hd.out, e0.out]; rfl
        case measure => simp [intOf]; omega
      · obtain ⟨x, hx'⟩ : ∃ x, xs[k] = x := ⟨_, rfl⟩
        rw [hx'] at hx h0
        have e0 := Lib.hid hx'
        have hne : (x != 0) = true := by simpa using h0
        clear hx' h0
        go_wp2
        go_ret
        refine ⟨ret_i64 ?_, rfl⟩
        rw [← hF.out, hd.out, e0.out]
        unfold or2
        rw [if_neg (by simpa using hne)]
    · have hF := Lib.hid hf
      clear hf
      go_wp2
      go_ret
      refine ⟨ret_i64 ?_, rfl⟩
      rw [← hF.out, List.drop_of_length_le (by omega)]
      rfl

set_option maxHeartbeats 1000000 in
/-- slices.Compare of strings. -/
theorem cmp_strs (B : Nat) (v1 v2 : Value) (l1 l2 : List ByteArray) (w : World) (h1 : HasStrs B w v1 l1) (h2 : HasStrs B w v2 l2) :
    Calls Tryd.prog 94 #[v1, v2] w fun e w' => e = .returned (.int .i64 (lexl c3s l1 l2)) ∧ w = w' := by
  obtain ⟨a1, k1, b1, o1, rfl, m1, n1, g1⟩ := h1
  obtain ⟨a2, k2, b2, o2, rfl, m2, n2, g2⟩ := h2
  have N1 := Lib.hid n1
  have N2 := Lib.hid n2
  have G1 := Lib.hid g1
  have G2 := Lib.hid g2
  clear n1 n2 g1 g2
  go_enter Tryd.func94, Tryd.ntmps94
  go_wp2_with fail
  go_loop [11] (fun t => ∃ k : Nat, t = .int .i64 k ∧ k ≤ l1.length ∧ k ≤ l2.length ∧ lexl c3s (l1.drop k) (l2.drop k) = lexl c3s l1 l2) (fun t => l1.length - (intOf t).toNat)
  case atStart => exact ⟨0, rfl, Nat.zero_le _, Nat.zero_le _, rfl⟩
  case round =>
    obtain ⟨k, rfl, hk1, hk2, hf⟩ := hrel
    have hF := Lib.hid hf
    clear hf
    by_cases hlt1 : k < l1.length
    · obtain ⟨rfl, _⟩ := N1.out (by intro e; subst e; simp at hlt1)
      have x1 := (G1.out k hlt1).1
      by_cases hlt2 : k < l2.length
      · obtain ⟨rfl, _⟩ := N2.out (by intro e; subst e; simp at hlt2)
        have x2 := (G2.out k hlt2).1
        have hd := Lib.hid (lexl_drop c3s l1 l2 k hlt1 hlt2)
        have hcmp := fun w => cmp_str l1[k] l2[k] w
        have hr := (c3s_cmp l1[k]).range l2[k]
        obtain ⟨c, hc⟩ : ∃ c, c3s l1[k] l2[k] = c := ⟨_, rfl⟩
        simp only [hc] at hcmp hr
        have HK := Lib.hid hcmp
        have HE := Lib.hid hc
        clear hcmp hc
        rcases hr with rfl | rfl | rfl
        · go_wp2_with (go_at_call 79; refine (HK.out _).mono ?_; rintro e w' ⟨rfl, rfl⟩)
          go_ret
          exact ⟨ret_i64 (by rw [← hF.out, hd.out, HE.out]; rfl), rfl⟩
        · go_wp2_with (go_at_call 79; refine (HK.out _).mono ?_; rintro e w' ⟨rfl, rfl⟩)
          go_round
          case rel => exact ⟨k + 1, by go_num, by omega, by omega, by rw [← hF.out, hd.out, HE.out]; rfl⟩
          case measure => simp [intOf]; omega
        · go_wp2_with (go_at_call 79; refine (HK.out _).mono ?_; rintro e w' ⟨rfl, rfl⟩)
          go_ret
          exact ⟨ret_i64 (by rw [← hF.out, hd.out, HE.out]; rfl), rfl⟩
      · have he : k = l2.length := by omega
        have HL := Lib.hid (lexl_long c3s l1 l2 (by omega))
        subst he
        go_wp2_with fail
        go_ret
        exact ⟨ret_i64 (by rw [← hF.out, HL.out]), rfl⟩
    · have he : k = l1.length := by omega
      subst he
      by_cases hlt2 : l1.length < l2.length
      · have HL := Lib.hid (lexl_short c3s l1 l2 hlt2)
        go_wp2_with fail
        go_ret
        exact ⟨ret_i64 (by rw [← hF.out, HL.out]), rfl⟩
      · have HL := Lib.hid (lexl_even c3s l1 l2 (by omega))
        go_wp2_with fail
        go_ret
        exact ⟨ret_i64 (by rw [← hF.out, HL.out]), rfl⟩
end Go.Proofs.YtdffhnfjcbnioaaDoor
