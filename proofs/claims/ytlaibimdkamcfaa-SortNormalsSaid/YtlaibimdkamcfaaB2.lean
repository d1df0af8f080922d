/-
  Algebra.Has: whether a class exists, by the algebra's index.
-/
import Derived.Test.YtlaibimdkamcfaaB1
import Derived.Maps.OwnOps
import Derived.Maps.OwnSet
import Derived.Maps.Views
namespace Go.Proofs.Ytlaibimdkamcfaa
open Go.RowKit Go.Maps

theorem zero3 (w : World) : (zeroValue 3).run Try.prog w = .ok (.int .i64 0) w := Try.zeroValue3 w

set_option maxRecDepth 100000 in
set_option maxHeartbeats 1000000 in
theorem hasClass_any (na ua ba ta : Option Addr) (nl nc ul uc bl bc tl tc mb n : Nat) (tm sm : Option Nat) (D : DataW Unit) (s : ByteArray) (w : World) (hm : w.ownsMap Try.prog 9 (plainElem (H := Unit) Try.prog 3) mb n D) (hs : s.size ≤ maxLen) :
    Calls Try.prog 71 #[.agg #[.slice na nl nc, .map (some mb), .slice ua ul uc, .slice ba bl bc, .slice ta tl tc, .map tm, .map sm], .string s] w fun e w' => e = .returned (.bool (Maps.has D (.string s.data.toList))) ∧ Below w.heap.size w w' := by
  have hb : Below w.heap.size w (w.alloc (.cells #[.slice na nl nc, .map (some mb), .slice ua ul uc, .slice ba bl bc, .slice ta tl tc, .map tm, .map sm] 70)) := (Below.refl _ w).alloc (Nat.le_refl _) _
  have hm2 : (w.alloc (.cells #[.slice na nl nc, .map (some mb), .slice ua ul uc, .slice ba bl bc, .slice ta tl tc, .map tm, .map sm] 70)).ownsMap Try.prog 9 (plainElem (H := Unit) Try.prog 3) mb n D := hm.kept (World.grownBy_alloc w _ none) (by simp)
  go_enter Try.func71, Try.ntmps71
  go_wp2_with (at_lookup; refine wpList_lookup_own_ok_int _ rfl _ _ 65 rfl 9 3 .i64 (string_keyed Try.underlying9) Try.underlying65 Try.underlying3 (zero3 _) mb n D rfl hm2 _ _ rfl (Go.WideMaps.keyOf_string_mk Try.underlying9 hs) ?_; intro c hat hwc)
  go_ret
  exact ⟨rfl, hb⟩
end Go.Proofs.Ytlaibimdkamcfaa
