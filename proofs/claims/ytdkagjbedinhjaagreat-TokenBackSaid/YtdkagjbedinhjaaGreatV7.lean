/-
  What stands between tokens: blanks and comments.
-/
import Derived.Test.YtdkagjbedinhjaaGreatV6
import Derived.Test.YtdkagjbedinhjaaGreatS7
namespace Go.Proofs.YtdkagjbedinhjaaGreat
open Go.RowKit

/-- How many bytes stand ahead of the next token, or ahead of a comment without an end. -/
abbrev BR := Except Nat Nat
def BR.shift (n : Nat) : BR → BR
  | .ok m => .ok (n + m)
  | .error m => .error (n + m)
def betF : Nat → Bs → BR
  | 0, _ => .ok 0
  | _ + 1, [] => .ok 0
  | f + 1, c :: r => if blankB c then (betF f r).shift 1 else if Lib.hasPrefix (c :: r) [40, 42] then (match nestL [40, 42] [42, 41] (c :: r) 0 with
    | none => .error 0
    | some n => (betF f ((c :: r).drop n)).shift n) else .ok 0
def betL (l : Bs) : BR := betF l.length l
theorem com_bounds {l : Bs} {n : Nat} (hp : Lib.hasPrefix l [40, 42] = true) (h : nestL [40, 42] [42, 41] l 0 = some n) : 4 ≤ n ∧ n ≤ l.length := nest_from _ _ (by decide) (by decide) hp h
theorem betF_enough : ∀ (f g : Nat) (l : Bs), l.length ≤ f → l.length ≤ g → betF f l = betF g l
  | 0, 0, _, _, _ => rfl
  | 0, g + 1, l, h, _ => by
    have : l = [] := List.length_eq_zero_iff.1 (Nat.le_zero.1 h)
    subst this
    rfl
  | f + 1, 0, l, _, h => by
    have : l = [] := List.length_eq_zero_iff.1 (Nat.le_zero.1 h)
    subst this
    rfl
  | f + 1, g + 1, [], _, _ => rfl
  | f + 1, g + 1, c :: r, hf, hg => by
    simp only [List.length_cons] at hf hg
    simp only [betF]
    rw [betF_enough f g r (by omega) (by omega)]
    by_cases hb : blankB c = true
    · rw [if_pos hb, if_pos hb]
    · rw [if_neg hb, if_neg hb]
      by_cases hp : Lib.hasPrefix (c :: r) [40, 42] = true
      · rw [if_pos hp, if_pos hp]
        cases hn : nestL [40, 42] [42, 41] (c :: r) 0 with
        | none => rfl
        | some n =>
          have := com_bounds hp hn
          simp only [List.length_cons] at this
          simp only
          rw [betF_enough f g _ (by rw [List.length_drop, List.length_cons]; omega) (by rw [List.length_drop, List.length_cons]; omega)]
      · rw [if_neg hp, if_neg hp]
theorem betL_nil : betL [] = .ok 0 := rfl
theorem betL_cons (c : UInt8) (r : Bs) : betL (c :: r) = if blankB c then (betL r).shift 1 else if Lib.hasPrefix (c :: r) [40, 42] then (match nestL [40, 42] [42, 41] (c :: r) 0 with
    | none => .error 0
    | some n => (betL ((c :: r).drop n)).shift n) else .ok 0 := by
  show betF (r.length + 1) (c :: r) = _
  simp only [betF]
  unfold betL
  by_cases hb : blankB c = true
  · rw [if_pos hb, if_pos hb]
  · rw [if_neg hb, if_neg hb]
    by_cases hp : Lib.hasPrefix (c :: r) [40, 42] = true
    · rw [if_pos hp, if_pos hp]
      cases hn : nestL [40, 42] [42, 41] (c :: r) 0 with
      | none => rfl
      | some n =>
        have := com_bounds hp hn
        simp only [List.length_cons] at this
        simp only
        rw [betF_enough r.length _ _ (by rw [List.length_drop, List.length_cons]; omega) (Nat.le_refl _)]
    · rw [if_neg hp, if_neg hp]
theorem shift_shift (a b : Nat) (o : BR) : (o.shift a).shift b = o.shift (b + a) := by
  cases o with
  | ok m => simp [BR.shift]; omega
  | error m => simp [BR.shift]; omega

/-- What between does. -/
def BetPost (w : World) (o : BR) (x : Ending) (w' : World) : Prop := (match o with
  | .ok n => x = .returned (.int .i64 (n : Int))
  | .error n => x = .panicked [{ v := faultV n 162, recovered := false }]) ∧ Below w.heap.size w w'
def betAt (T : ByteArray) (j : Nat) : BR := (betL (from' T j)).shift j
theorem betAt_end {T : ByteArray} {j : Nat} (h : T.size ≤ j) : betAt T j = .ok j := by unfold betAt; rw [from_nil h]; rfl
theorem betAt_blank {T : ByteArray} {j : Nat} (h : j < T.size) (hb : blankB T[j] = true) : betAt T j = betAt T (j + 1) := by unfold betAt; rw [from_cons h, betL_cons, if_pos hb, shift_shift]
theorem betAt_stop {T : ByteArray} {j : Nat} (h : j < T.size) (hb : blankB T[j] = false) (hp : Lib.hasPrefix (from' T j) [40, 42] = false) : betAt T j = .ok j := by
  unfold betAt
  rw [from_cons h] at hp ⊢
  rw [betL_cons, if_neg (by rw [hb]; decide), if_neg (by rw [hp]; decide)]
  rfl
theorem betAt_bad {T : ByteArray} {j : Nat} (h : j < T.size) (hb : blankB T[j] = false) (hp : Lib.hasPrefix (from' T j) [40, 42] = true) (hn : nestL [40, 42] [42, 41] (from' T j) 0 = none) : betAt T j = .error j := by
  unfold betAt
  rw [from_cons h] at hp hn ⊢
  rw [betL_cons, if_neg (by rw [hb]; decide), if_pos hp, hn]
  rfl
theorem betAt_com {T : ByteArray} {j n : Nat} (h : j < T.size) (hb : blankB T[j] = false) (hp : Lib.hasPrefix (from' T j) [40, 42] = true) (hn : nestL [40, 42] [42, 41] (from' T j) 0 = some n) : betAt T j = betAt T (j + n) := by
  unfold betAt
  rw [← from_add]
  rw [from_cons h] at hp hn ⊢
  rw [betL_cons, if_neg (by rw [hb]; decide), if_pos hp, hn]
  simp only
  rw [shift_shift]

set_option maxRecDepth 100000 in
set_option maxHeartbeats 8000000 in
theorem between_any (b : Nat) (T : ByteArray) (k : Nat) (w : World) (hS : ScT b T w) (hk : k ≤ T.size) (hT : T.size ≤ 100000000) :
    Calls Tryz.prog 31 #[.pointer (some ⟨b, 0, none⟩), .int .i64 (k : Int)] w (BetPost w (betAt T k)) := by
  have hlb := hS.lt
  have HS0 := Lib.hid hS
  clear hS
  go_enter Tryz.func31, Tryz.ntmps31
  go_wp2_with fail
  go_loopw [1] (fun i wr => ∃ j : Nat, i = .int .i64 j ∧ j ≤ T.size ∧ Hid (ScT b T wr) ∧ Hid (betAt T j = betAt T k) ∧ Hid (Below w.heap.size w wr)) (fun i _ => T.size - (intOf i).toNat)
  case atStart => exact ⟨k, rfl, hk, HS0, Lib.hid rfl, Lib.hid (Below.refl _ _)⟩
  case round =>
    obtain ⟨j, rfl, hj, HS, HE, HB⟩ := hrel
    clear HS0
    have ct := HS.out.cell
    by_cases hlt : j < T.size
    · have hdc : decide (j < T.size) = true := by simp; exact hlt
      have HC := Lib.hid (fun w => (show Calls Tryz.prog 39 #[.string blanksS, .int .u8 (T[j].toNat : Int)] w (fun e w' => e = .returned (.bool (blankB T[j])) ∧ w = w') from has_any blanksS T[j] w))
      cases hp : blankB T[j] with
      | true =>
        simp only [hp] at HC
        have HX := Lib.hid (betAt_blank hlt hp)
        clear hp
        go_wp2_with fail
        (with_reducible refine (HC.out _).mono ?_)
        rintro e w' ⟨rfl, rfl⟩
        go_wp2_with fail
        go_roundw
        case rel => exact ⟨j + 1, by go_num, by omega, HS, Lib.hid (HX.out.symm.trans HE.out), HB⟩
        case measure => simp [intOf]; omega
      | false =>
        simp only [hp] at HC
        have hro : (T.extract j T.size).data.toList = from' T j := from_ext T j
        have HPx := Lib.hid fun (w : World) => Tryz.strings_HasPrefix (T.extract j T.size) ⟨#[40, 42]⟩ w
        have hle2 : (j : Int) ≤ T.size := by omega
        cases hq : Lib.hasPrefix (from' T j) [40, 42] with
        | false =>
          have hq' : Lib.hasPrefix (from' T j) (⟨#[40, 42]⟩ : ByteArray).data.toList = false := hq
          simp only [hro, hq'] at HPx
          have HX := Lib.hid (betAt_stop hlt hp hq)
          clear hp hq hq' hro
          go_wp2_with fail
          (with_reducible refine (HC.out _).mono ?_)
          rintro e w' ⟨rfl, rfl⟩
          go_wp2_with fail
          (with_reducible refine (HPx.out _).mono ?_)
          rintro e w' ⟨rfl, rfl⟩
          go_wp2_with fail
          go_ret
          unfold BetPost
          rw [← HE.out, HX.out]
          exact ⟨rfl, HB.out⟩
        | true =>
          have hq' : Lib.hasPrefix (from' T j) (⟨#[40, 42]⟩ : ByteArray).data.toList = true := hq
          simp only [hro, hq'] at HPx
          have HNe := Lib.hid (nested_any b T ⟨#[40, 42]⟩ ⟨#[42, 41]⟩ j wr HS.out hj hT (by decide) (by decide))
          cases hn : nestL [40, 42] [42, 41] (from' T j) 0 with
          | none =>
            have e2 : nestI (nestL (⟨#[40, 42]⟩ : ByteArray).data.toList (⟨#[42, 41]⟩ : ByteArray).data.toList (from' T j) 0) j = -1 := by
              show nestI (nestL [40, 42] [42, 41] (from' T j) 0) j = _
              rw [hn]
              rfl
            rw [e2] at HNe
            have HX := Lib.hid (betAt_bad hlt hp hq hn)
            clear hp hq hq' hro hn e2
            go_wp2_with fail
            (with_reducible refine (HC.out _).mono ?_)
            rintro e w' ⟨rfl, rfl⟩
            go_wp2_with fail
            (with_reducible refine (HPx.out _).mono ?_)
            rintro e w' ⟨rfl, rfl⟩
            go_wp2_with fail
            (with_reducible refine HNe.out.mono ?_)
            rintro e w2 ⟨rfl, hb2⟩
            have HB2 := Lib.hid (HB.out.trans (hb2.mono HB.out.size))
            clear hb2
            go_wp2_with fail
            refine ⟨rfl, ?_⟩
            unfold BetPost
            rw [← HE.out, HX.out]
            exact ⟨rfl, HB2.out⟩
          | some n =>
            have e2 : nestI (nestL (⟨#[40, 42]⟩ : ByteArray).data.toList (⟨#[42, 41]⟩ : ByteArray).data.toList (from' T j) 0) j = ((j + n : Nat) : Int) := by
              show nestI (nestL [40, 42] [42, 41] (from' T j) 0) j = _
              rw [hn]
              rfl
            rw [e2] at HNe
            have HX := Lib.hid (betAt_com hlt hp hq hn)
            have hbd := com_bounds hq hn
            rw [from_len] at hbd
            have hn4 := hbd.1
            have hn5 : j + n ≤ T.size := by omega
            obtain ⟨m, hm⟩ : ∃ m, j + n = m := ⟨_, rfl⟩
            rw [hm] at HNe HX hn5
            have hjm : j < m := by omega
            have hneg : decide ((m : Int) < 0) = false := by simp
            clear hp hq hq' hro hn e2 hbd hm hn4
            go_wp2_with fail
            (with_reducible refine (HC.out _).mono ?_)
            rintro e w' ⟨rfl, rfl⟩
            go_wp2_with fail
            (with_reducible refine (HPx.out _).mono ?_)
            rintro e w' ⟨rfl, rfl⟩
            go_wp2_with fail
            (with_reducible refine HNe.out.mono ?_)
            rintro e w2 ⟨rfl, hb2⟩
            have HB2 := Lib.hid (HB.out.trans (hb2.mono HB.out.size))
            have HS2 := Lib.hid (HS.out.later hb2 HS.out.lt)
            clear hb2
            go_wp2_with fail
            go_roundw
            case rel => exact ⟨m, rfl, hn5, HS2, Lib.hid (HX.out.symm.trans HE.out), HB2⟩
            case measure => simp [intOf]; omega
    · have hdc : decide (j < T.size) = false := by simp; omega
      have HX := Lib.hid (betAt_end (T := T) (j := j) (by omega))
      go_wp2_with fail
      go_ret
      unfold BetPost
      rw [← HE.out, HX.out]
      exact ⟨rfl, HB.out⟩
end Go.Proofs.YtdkagjbedinhjaaGreat
