/-
  Bit sets of classes: has and add of one word.
-/
import Derived.Test.YtlaibimdkamcfaaProg
import Derived.WalkKit
import Derived.WalkSpells
import Derived.WalkLawsBesides
import Derived.ProofKit
import Derived.Laws.BitsAllLaws
import Derived.Laws.Bits64b
namespace Go.Proofs.Ytlaibimdkamcfaa
open Go.RowKit

theorem and_one (v r : Nat) (h1 : v < 18446744073709551616) : (bits BinOp.and IntKind.u64 ((v : Int) / 2 ^ r) 1 == 1) = v.testBit r := by
  have e : ((v : Int) / 2 ^ r) = ((v / 2 ^ r : Nat) : Int) := by push_cast; rfl
  have hl : v / 2 ^ r < 18446744073709551616 := Nat.lt_of_le_of_lt (Nat.div_le_self _ _) h1
  rw [e, show (1 : Int) = ((1 : Nat) : Int) from rfl, u64_and_nat _ _ hl (by decide), Nat.and_one_is_mod, Nat.testBit_eq_decide_div_mod_eq]
  rw [Bool.eq_iff_iff]
  simp
  omega

set_option maxRecDepth 100000 in
set_option maxHeartbeats 1000000 in
theorem has_any (b o i v : Nat) (w : World) (hi : i < 320) (hc : w.cell? ⟨b, o + i / 64, none⟩ = some (.int .u64 v)) (h1 : v < 18446744073709551616) :
    Calls Try.prog 70 #[.pointer (some ⟨b, o, none⟩), .int .i64 i] w fun e w' => e = .returned (.bool (v.testBit (i % 64))) ∧ w' = w := by
  go_enter Try.func70, Try.ntmps70
  go_wp2_with fail
  go_ret
  exact ⟨by simp only [List.getElem?_toArray, Array.getD, Array.size]; exact congrArg _ (congrArg _ (and_one v (i % 64) h1)), rfl⟩

theorem or_pow (v r : Nat) (h1 : v < 18446744073709551616) (hr : r < 64) : bits BinOp.or IntKind.u64 (v : Int) (IntKind.u64.wrap (2 ^ r)) = ((v ||| 2 ^ r : Nat) : Int) := by
  have hp : 2 ^ r < 18446744073709551616 := Nat.pow_lt_pow_right (by decide) (show r < 64 from hr)
  have e : IntKind.u64.wrap (2 ^ r) = ((2 ^ r : Nat) : Int) := by
    have e2 : ((2 : Int) ^ r) = ((2 ^ r : Nat) : Int) := (Int.natCast_pow 2 r).symm
    rw [e2]
    have hp' : ((2 ^ r : Nat) : Int) < 18446744073709551616 := by generalize 2 ^ r = q at *; omega
    have h0 : (0 : Int) ≤ ((2 ^ r : Nat) : Int) := Int.natCast_nonneg _
    generalize ((2 ^ r : Nat) : Int) = q at *
    simp only [IntKind.wrap]
    have e3 : q % 2 ^ IntKind.u64.bits = q := Int.emod_eq_of_lt h0 (by simpa [IntKind.bits] using hp')
    rw [e3]
    simp [IntKind.signed]
  rw [e, bits_or_u64_nat _ _ h1 hp]

set_option maxRecDepth 100000 in
set_option maxHeartbeats 1000000 in
theorem add_any (b o i v : Nat) (w : World) (hi : i < 320) (hc : w.cell? ⟨b, o + i / 64, none⟩ = some (.int .u64 v)) (hf : w.frozen? ⟨b, o + i / 64, none⟩ = false) (h1 : v < 18446744073709551616) :
    Calls Try.prog 69 #[.pointer (some ⟨b, o, none⟩), .int .i64 i] w fun e w' => e = .returned (.tuple #[]) ∧ w' = (w.setCell ⟨b, o + i / 64, none⟩ (.int .u64 ((v ||| 2 ^ (i % 64) : Nat) : Int))).drew := by
  have hcd : w.drew.cell? ⟨b, o + i / 64, none⟩ = some (.int .u64 v) := hc
  have hfd : w.drew.frozen? ⟨b, o + i / 64, none⟩ = false := hf
  go_enter Try.func69, Try.ntmps69
  go_wp2_with fail
  go_region
  all_goals go_wp2_with fail
  all_goals
    go_end0
    exact ⟨rfl, by rw [or_pow v (i % 64) h1 (by omega)]⟩
end Go.Proofs.Ytlaibimdkamcfaa
