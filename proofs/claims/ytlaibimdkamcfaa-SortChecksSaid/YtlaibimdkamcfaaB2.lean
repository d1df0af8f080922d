/-
  Bit sets of classes: has and add of one word.
-/
import Derived.Test.YtlaibimdkamcfaaProg
import Derived.WalkKit
import Derived.WalkSpells
import Derived.WalkLawsBesides
import Derived.ProofKit
import Derived.Laws.BitsAllLaws
import Derived.Laws.Bits64b
import Derived.Maps.OwnOps
import Derived.Maps.OwnSet
import Derived.Maps.Views
namespace Go.Proofs.Ytlaibimdkamcfaa
open Go.RowKit

theorem and_one (v r : Nat) (h1 : v < 18446744073709551616) : (bits BinOp.and IntKind.u64 ((v : Int) / 2 ^ r) 1 == 1) = v.testBit r := by
  have e : ((v : Int) / 2 ^ r) = ((v / 2 ^ r : Nat) : Int) := by push_cast; rfl
  have hl : v / 2 ^ r < 18446744073709551616 := Nat.lt_of_le_of_lt (Nat.div_le_self _ _) h1
  rw [e, show (1 : Int) = ((1 : Nat) : Int) from rfl, u64_and_nat _ _ hl (by decide), Nat.and_one_is_mod, Nat.testBit_eq_decide_div_mod_eq]
  rw [Bool.eq_iff_iff]
  simp
  omega

set_option maxRecDepth 100000 in
set_option maxHeartbeats 1000000 in
theorem has_any (b o i v : Nat) (w : World) (hi : i < 320) (hc : w.cell? ⟨b, o + i / 64, none⟩ = some (.int .u64 v)) (h1 : v < 18446744073709551616) :
    Calls Try.prog 70 #[.pointer (some ⟨b, o, none⟩), .int .i64 i] w fun e w' => e = .returned (.bool (v.testBit (i % 64))) ∧ w' = w := by
  go_enter Try.func70, Try.ntmps70
  go_wp2_with fail
  go_ret
  exact ⟨by simp only [List.getElem?_toArray, Array.getD, Array.size]; exact congrArg _ (congrArg _ (and_one v (i % 64) h1)), rfl⟩

theorem or_pow (v r : Nat) (h1 : v < 18446744073709551616) (hr : r < 64) : bits BinOp.or IntKind.u64 (v : Int) (IntKind.u64.wrap (2 ^ r)) = ((v ||| 2 ^ r : Nat) : Int) := by
  have hp : 2 ^ r < 18446744073709551616 := Nat.pow_lt_pow_right (by decide) (show r < 64 from hr)
  have e : IntKind.u64.wrap (2 ^ r) = ((2 ^ r : Nat) : Int) := by
    have e2 : ((2 : Int) ^ r) = ((2 ^ r : Nat) : Int) := (Int.natCast_pow 2 r).symm
    rw [e2]
    have hp' : ((2 ^ r : Nat) : Int) < 18446744073709551616 := by generalize 2 ^ r = q at *; omega
    have h0 : (0 : Int) ≤ ((2 ^ r : Nat) : Int) := Int.natCast_nonneg _
    generalize ((2 ^ r : Nat) : Int) = q at *
    simp only [IntKind.wrap]
    have e3 : q % 2 ^ IntKind.u64.bits = q := Int.emod_eq_of_lt h0 (by simpa [IntKind.bits] using hp')
    rw [e3]
    simp [IntKind.signed]
  rw [e, bits_or_u64_nat _ _ h1 hp]

set_option maxRecDepth 100000 in
set_option maxHeartbeats 1000000 in
theorem add_any (b o i v : Nat) (w : World) (hi : i < 320) (hc : w.cell? ⟨b, o + i / 64, none⟩ = some (.int .u64 v)) (hf : w.frozen? ⟨b, o + i / 64, none⟩ = false) (h1 : v < 18446744073709551616) :
    Calls Try.prog 69 #[.pointer (some ⟨b, o, none⟩), .int .i64 i] w fun e w' => e = .returned (.tuple #[]) ∧ w' = (w.setCell ⟨b, o + i / 64, none⟩ (.int .u64 ((v ||| 2 ^ (i % 64) : Nat) : Int))).drew := by
  have hcd : w.drew.cell? ⟨b, o + i / 64, none⟩ = some (.int .u64 v) := hc
  have hfd : w.drew.frozen? ⟨b, o + i / 64, none⟩ = false := hf
  go_enter Try.func69, Try.ntmps69
  go_wp2_with fail
  go_region
  all_goals go_wp2_with fail
  all_goals
    go_end0
    exact ⟨rfl, by rw [or_pow v (i % 64) h1 (by omega)]⟩
end Go.Proofs.Ytlaibimdkamcfaa

/-
  Algebra.Has: whether a class exists, by the algebra's index.
-/
namespace Go.Proofs.Ytlaibimdkamcfaa
open Go.RowKit Go.Maps

theorem zero3 (w : World) : (zeroValue 3).run Try.prog w = .ok (.int .i64 0) w := Try.zeroValue3 w

set_option maxRecDepth 100000 in
set_option maxHeartbeats 1000000 in
theorem hasClass_any (na ua ba ta : Option Addr) (nl nc ul uc bl bc tl tc mb n : Nat) (tm sm : Option Nat) (D : DataW Unit) (s : ByteArray) (w : World) (hm : w.ownsMap Try.prog 9 (plainElem (H := Unit) Try.prog 3) mb n D) (hs : s.size ≤ maxLen) :
    Calls Try.prog 71 #[.agg #[.slice na nl nc, .map (some mb), .slice ua ul uc, .slice ba bl bc, .slice ta tl tc, .map tm, .map sm], .string s] w fun e w' => e = .returned (.bool (Maps.has D (.string s.data.toList))) ∧ Below w.heap.size w w' := by
  have hb : Below w.heap.size w (w.alloc (.cells #[.slice na nl nc, .map (some mb), .slice ua ul uc, .slice ba bl bc, .slice ta tl tc, .map tm, .map sm] 70)) := (Below.refl _ w).alloc (Nat.le_refl _) _
  have hm2 : (w.alloc (.cells #[.slice na nl nc, .map (some mb), .slice ua ul uc, .slice ba bl bc, .slice ta tl tc, .map tm, .map sm] 70)).ownsMap Try.prog 9 (plainElem (H := Unit) Try.prog 3) mb n D := hm.kept (World.grownBy_alloc w _ none) (by simp)
  go_enter Try.func71, Try.ntmps71
  go_wp2_with (at_lookup; refine wpList_lookup_own_ok_int _ rfl _ _ 65 rfl 9 3 .i64 (string_keyed Try.underlying9) Try.underlying65 Try.underlying3 (zero3 _) mb n D rfl hm2 _ _ rfl (Go.WideMaps.keyOf_string_mk Try.underlying9 hs) ?_; intro c hat hwc)
  go_ret
  exact ⟨rfl, hb⟩
end Go.Proofs.Ytlaibimdkamcfaa
