import Derived.Test.YtlaibimdkamcfaaB2
import Derived.Lib.Hide
section
/-
  sort.IsName: which strings are names.
-/
namespace Go.Proofs.Ytlaibimdkamcfaa
open Go.RowKit

theorem ret_bool {a b : Bool} (h : a = b) : Ending.returned (.bool a) = .returned (.bool b) := by rw [h]

set_option maxHeartbeats 1000000 in
theorem starts_any (b : Int) (w : World) (h0 : 0 ≤ b) (h1 : b ≤ 255) : Calls Try.prog 48 #[.int .u8 b] w fun e w' => e = .returned (.bool (startsB b)) ∧ w = w' := by
  by_cases a1 : 97 ≤ b
  · by_cases a2 : b ≤ 122
    · go_enter Try.func48, Try.ntmps48
      go_wp2
      go_ret
      exact ⟨ret_bool (by unfold startsB; rw [Bool.eq_iff_iff]; simp; omega), rfl⟩
    · go_enter Try.func48, Try.ntmps48
      go_wp2
      go_ret
      exact ⟨ret_bool (by unfold startsB; rw [Bool.eq_iff_iff]; simp; omega), rfl⟩
  · by_cases a2 : 65 ≤ b
    · by_cases a3 : b ≤ 90
      · go_enter Try.func48, Try.ntmps48
        go_wp2
        go_ret
        exact ⟨ret_bool (by unfold startsB; rw [Bool.eq_iff_iff]; simp; omega), rfl⟩
      · by_cases a4 : b = 95
        · subst a4
          go_enter Try.func48, Try.ntmps48
          go_wp2
          go_ret
          exact ⟨ret_bool (by decide), rfl⟩
        · go_enter Try.func48, Try.ntmps48
          go_wp2
          go_ret
          exact ⟨ret_bool (by unfold startsB; rw [Bool.eq_iff_iff]; simp; omega), rfl⟩
    · go_enter Try.func48, Try.ntmps48
      go_wp2
      go_ret
      exact ⟨ret_bool (by unfold startsB; rw [Bool.eq_iff_iff]; simp; omega), rfl⟩

set_option maxHeartbeats 1000000 in
theorem cont_any (b : Int) (w : World) (h0 : 0 ≤ b) (h1 : b ≤ 255) : Calls Try.prog 49 #[.int .u8 b] w fun e w' => e = .returned (.bool (contB b)) ∧ w = w' := by
  by_cases a1 : 48 ≤ b
  · by_cases a2 : b ≤ 57
    · go_enter Try.func49, Try.ntmps49
      go_wp2
      go_ret
      exact ⟨ret_bool (by unfold contB; rw [Bool.eq_iff_iff]; simp; omega), rfl⟩
    · go_enter Try.func49, Try.ntmps49
      go_wp2
      go_ret
      exact ⟨ret_bool (by unfold contB; rw [Bool.eq_iff_iff]; simp; omega), rfl⟩
  · by_cases a3 : b = 39
    · subst a3
      go_enter Try.func49, Try.ntmps49
      go_wp2
      go_ret
      exact ⟨ret_bool (by decide), rfl⟩
    · by_cases a4 : b = 46
      · subst a4
        go_enter Try.func49, Try.ntmps49
        go_wp2
        go_ret
        exact ⟨ret_bool (by decide), rfl⟩
      · go_enter Try.func49, Try.ntmps49
        go_wp2
        go_ret
        exact ⟨ret_bool (by unfold contB; rw [Bool.eq_iff_iff]; simp; omega), rfl⟩

theorem nameFrom_drop (s : ByteArray) (k : Nat) (h : k < s.size) : nameFrom (k == 0) (s.data.toList.drop k) = ((startsB (s[k].toNat : Int) || !(k == 0) && contB (s[k].toNat : Int)) && nameFrom false (s.data.toList.drop (k + 1))) := by
  rw [List.drop_eq_getElem_cons (by simpa using h)]; rfl

set_option maxHeartbeats 2000000 in
theorem name_any (s : ByteArray) (w : World) (hs : s.size ≤ 9223372036854775807) : Calls Try.prog 18 #[.string s] w fun e w' => e = .returned (.bool (nameB s)) ∧ w = w' := by
  by_cases h0 : s.size < 1
  · have hv := Lib.hid (show nameB s = false by unfold nameB; rw [decide_eq_false (by omega)]; rfl)
    go_enter Try.func18, Try.ntmps18
    go_wp2_with fail
    go_ret
    exact ⟨ret_bool hv.out.symm, rfl⟩
  · by_cases h1 : 40 < s.size
    · have hv := Lib.hid (show nameB s = false by unfold nameB; rw [decide_eq_false (show ¬ s.size ≤ 40 by omega)]; simp)
      go_enter Try.func18, Try.ntmps18
      go_wp2_with fail
      go_ret
      exact ⟨ret_bool hv.out.symm, rfl⟩
    · have hv := Lib.hid (show nameB s = nameFrom true s.data.toList by unfold nameB; rw [decide_eq_true (show 1 ≤ s.size by omega), decide_eq_true (show s.size ≤ 40 by omega)]; simp)
      go_enter Try.func18, Try.ntmps18
      go_wp2_with fail
      go_loop [14] (fun t => ∃ k : Nat, t = .int .i64 k ∧ k ≤ s.size ∧ nameFrom (k == 0) (s.data.toList.drop k) = nameFrom true s.data.toList) (fun t => s.size - (intOf t).toNat)
      case atStart => exact ⟨0, rfl, Nat.zero_le _, rfl⟩
      case round =>
        obtain ⟨k, rfl, hk, hf⟩ := hrel
        have HF := Lib.hid hf
        clear hf
        by_cases hlt : k < s.size
        · have hd := Lib.hid (nameFrom_drop s k hlt)
          have b0 : (0 : Int) ≤ (s[k].toNat : Int) := by omega
          have b1 : (s[k].toNat : Int) ≤ 255 := by have := s[k].toNat_lt; omega
          have hst := fun w => starts_any (s[k].toNat : Int) w b0 b1
          have hct := fun w => cont_any (s[k].toNat : Int) w b0 b1
          obtain ⟨p, hp⟩ : ∃ p, startsB (s[k].toNat : Int) = p := ⟨_, rfl⟩
          obtain ⟨q, hq⟩ : ∃ q, contB (s[k].toNat : Int) = q := ⟨_, rfl⟩
          simp only [hp] at hst
          simp only [hq] at hct
          have HS := Lib.hid hst
          have HC := Lib.hid hct
          have HP := Lib.hid hp
          have HQ := Lib.hid hq
          clear hst hct hp hq
          cases p with
          | true =>
            go_wp2_with (go_at_call 48; refine (HS.out _).mono ?_; rintro e w' ⟨rfl, rfl⟩)
            go_round
            case rel => exact ⟨k + 1, by go_num, by omega, by rw [← HF.out, hd.out, HP.out]; simp⟩
            case measure => simp [intOf]; omega
          | false =>
            by_cases hk0 : k = 0
            · subst hk0
              go_wp2_with (go_at_call 48; refine (HS.out _).mono ?_; rintro e w' ⟨rfl, rfl⟩)
              go_ret
              exact ⟨ret_bool (by rw [hv.out, ← HF.out, hd.out, HP.out]; simp), rfl⟩
            · have hkk : ((k : Int) == 0) = false := by simpa using hk0
              have HK := Lib.hid hk0
              clear hk0
              cases q with
              | true =>
                go_wp2_with (first | (go_at_call 48; refine (HS.out _).mono ?_; rintro e w' ⟨rfl, rfl⟩) | (go_at_call 49; refine (HC.out _).mono ?_; rintro e w' ⟨rfl, rfl⟩))
                go_round
                case rel => exact ⟨k + 1, by go_num, by omega, by rw [← HF.out, hd.out, HP.out, HQ.out]; simp [HK.out]⟩
                case measure => simp [intOf]; omega
              | false =>
                go_wp2_with (first | (go_at_call 48; refine (HS.out _).mono ?_; rintro e w' ⟨rfl, rfl⟩) | (go_at_call 49; refine (HC.out _).mono ?_; rintro e w' ⟨rfl, rfl⟩))
                go_ret
                exact ⟨ret_bool (by rw [hv.out, ← HF.out, hd.out, HP.out, HQ.out]; simp), rfl⟩
        · go_wp2_with fail
          go_ret
          refine ⟨ret_bool ?_, rfl⟩
          rw [hv.out, ← HF.out, List.drop_of_length_le (by simp; omega)]
          rfl
end Go.Proofs.Ytlaibimdkamcfaa
end

section
/-
  Algebra.Below: whether a class is another one or below it, by the algebra's bits.
-/
namespace Go.Proofs.Ytlaibimdkamcfaa
open Go.RowKit Go.Maps

/-- What an algebra says of classes: how many, the number of each, the words of each one's set of those above. -/
structure Alg where
  n : Nat
  known : ByteArray → Bool
  idx : ByteArray → Nat
  word : Nat → Nat → Nat
  lt : ∀ s, known s = true → idx s < n
  most : n ≤ 300
  small : ∀ i k, word i k < 18446744073709551616

/-- A class is another one or below it. -/
def Alg.below (A : Alg) (x y : ByteArray) : Bool := A.known x && A.known y && (A.word (A.idx x) (A.idx y / 64)).testBit (A.idx y % 64)

/-- The index, as a map; the sets of those above, in a row of words. -/
structure AlgAt (A : Alg) (w : World) (mb nm ab ao : Nat) (D : DataW Unit) : Prop where
  map : w.ownsMap Try.prog 9 (plainElem (H := Unit) Try.prog 3) mb nm D
  has : ∀ s : ByteArray, Maps.has D (.string s.data.toList) = A.known s
  at_ : ∀ s : ByteArray, A.known s = true → D.atKey (.string s.data.toList) (.lit (.int .i64 0)) = .lit (.int .i64 (A.idx s))
  cell : ∀ i, i < A.n → ∀ k, k < 5 → w.cell? ⟨ab, ao + i * 5 + k, none⟩ = some (.int .u64 (A.word i k))

theorem AlgAt.below {A : Alg} {w w' : World} {mb nm ab ao B : Nat} {D : DataW Unit} (h : AlgAt A w mb nm ab ao D) (hb : Below B w w') (hm : mb < B) (ha : ab < B) : AlgAt A w' mb nm ab ao D := by
  refine ⟨?_, h.has, h.at_, fun i hi k hk => (hb.cell (p := ⟨ab, ao + i * 5 + k, none⟩) ha).trans (h.cell i hi k hk)⟩
  obtain ⟨es, clock, h1, h2⟩ := h.map
  exact ⟨es, clock, (hb.block mb hm).trans h1, h2⟩

set_option maxRecDepth 100000 in
set_option maxHeartbeats 2000000 in
theorem below_any (A : Alg) (na ua aa ta : Option Addr) (nl nc ul uc bc tl tc mb nm ab ao : Nat) (tm sm : Option Nat) (D : DataW Unit) (x y : ByteArray) (w : World) (h : AlgAt A w mb nm ab ao D) (haa : 0 < A.n → aa = some ⟨ab, ao, none⟩) (hm : mb < w.heap.size) (ha : ab < w.heap.size) (hx : x.size ≤ maxLen) (hy : y.size ≤ maxLen) :
    Calls Try.prog 42 #[.agg #[.slice na nl nc, .map (some mb), .slice ua ul uc, .slice aa A.n bc, .slice ta tl tc, .map tm, .map sm], .string x, .string y] w fun e w' => e = .returned (.bool (A.below x y)) ∧ Below w.heap.size w w' := by
  have hb : Below w.heap.size w (w.alloc (.cells #[.slice na nl nc, .map (some mb), .slice ua ul uc, .slice aa A.n bc, .slice ta tl tc, .map tm, .map sm] 70)) := (Below.refl _ w).alloc (Nat.le_refl _) _
  have h2 := Lib.hid (h.below hb hm ha)
  have HB := Lib.hid hb
  have HAA := Lib.hid haa
  clear haa
  have kx := h.has x
  have ky := h.has y
  have hm2 := h2.out.map
  clear h hb
  cases kkx : A.known x
  · have hv : A.below x y = false := by unfold Alg.below; rw [kkx]; rfl
    rw [hv]
    rw [kkx] at kx
    go_enter Try.func42, Try.ntmps42
    go_wp2_with (first
      | (at_lookup; refine wpList_lookup_own_ok_int _ rfl _ _ 65 rfl 9 3 .i64 (string_keyed Try.underlying9) Try.underlying65 Try.underlying3 (zero3 _) mb nm D rfl hm2 _ _ rfl (Go.WideMaps.keyOf_string_mk Try.underlying9 hx) ?_; intro c hat hwc; rw [kx])
      | (at_lookup; refine wpList_lookup_own_ok_int _ rfl _ _ 65 rfl 9 3 .i64 (string_keyed Try.underlying9) Try.underlying65 Try.underlying3 (zero3 _) mb nm D rfl hm2 _ _ rfl (Go.WideMaps.keyOf_string_mk Try.underlying9 hy) ?_; intro c' hat' hwc'))
    go_ret
    exact ⟨rfl, HB.out⟩
  · have ax := h2.out.at_ x kkx
    have lx := A.lt x kkx
    rw [kkx] at kx
    cases kky : A.known y
    · have hv : A.below x y = false := by unfold Alg.below; rw [kky]; simp
      rw [hv]
      rw [kky] at ky
      go_enter Try.func42, Try.ntmps42
      go_wp2_with (first
        | (at_lookup; refine wpList_lookup_own_ok_int _ rfl _ _ 65 rfl 9 3 .i64 (string_keyed Try.underlying9) Try.underlying65 Try.underlying3 (zero3 _) mb nm D rfl hm2 _ _ rfl (Go.WideMaps.keyOf_string_mk Try.underlying9 hx) ?_; intro c hat hwc; rw [kx])
        | (at_lookup; refine wpList_lookup_own_ok_int _ rfl _ _ 65 rfl 9 3 .i64 (string_keyed Try.underlying9) Try.underlying65 Try.underlying3 (zero3 _) mb nm D rfl hm2 _ _ rfl (Go.WideMaps.keyOf_string_mk Try.underlying9 hy) ?_; intro c' hat' hwc'; rw [ky]))
      go_ret
      exact ⟨rfl, HB.out⟩
    · have ay := h2.out.at_ y kky
      have ly := A.lt y kky
      have hn := A.most
      have haa := HAA.out (by omega)
      subst haa
      have hv : A.below x y = (A.word (A.idx x) (A.idx y / 64)).testBit (A.idx y % 64) := by unfold Alg.below; rw [kkx, kky]; simp
      have hh := has_any ab (ao + A.idx x * 5) (A.idx y) (A.word (A.idx x) (A.idx y / 64)) _ (by omega) (h2.out.cell (A.idx x) lx (A.idx y / 64) (by omega)) (A.small _ _)
      rw [← hv] at hh
      rw [kky] at ky
      have HH := Lib.hid hh
      clear hh
      obtain ⟨ixx, hixx⟩ : ∃ q, A.idx x = q := ⟨_, rfl⟩
      obtain ⟨iyy, hiyy⟩ : ∃ q, A.idx y = q := ⟨_, rfl⟩
      rw [hixx] at ax lx HH
      rw [hiyy] at ay ly HH
      clear hv
      go_enter Try.func42, Try.ntmps42
      go_wp2_with (first
        | (at_lookup; refine wpList_lookup_own_ok_int _ rfl _ _ 65 rfl 9 3 .i64 (string_keyed Try.underlying9) Try.underlying65 Try.underlying3 (zero3 _) mb nm D rfl hm2 _ _ rfl (Go.WideMaps.keyOf_string_mk Try.underlying9 hx) ?_; intro c hat hwc; rw [kx]; (obtain rfl : c = ixx := by (rw [ax] at hat; simpa using hat.symm)))
        | (at_lookup; refine wpList_lookup_own_ok_int _ rfl _ _ 65 rfl 9 3 .i64 (string_keyed Try.underlying9) Try.underlying65 Try.underlying3 (zero3 _) mb nm D rfl hm2 _ _ rfl (Go.WideMaps.keyOf_string_mk Try.underlying9 hy) ?_; intro c' hat' hwc'; rw [ky]; (obtain rfl : c' = iyy := by (rw [ay] at hat'; simpa using hat'.symm))))
      refine HH.out.mono ?_
      rintro e w' ⟨rfl, rfl⟩
      go_wp2_with fail
      go_ret
      exact ⟨rfl, HB.out⟩
end Go.Proofs.Ytlaibimdkamcfaa
end

