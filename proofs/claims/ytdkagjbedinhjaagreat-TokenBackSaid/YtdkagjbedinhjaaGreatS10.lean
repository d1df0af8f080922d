/-
  The tokens of `a`: awake is true.
-/
import Derived.Test.YtdkagjbedinhjaaGreatS9
namespace Go.Proofs.YtdkagjbedinhjaaGreat
open Go.RowKit Go.Maps

def aS : ByteArray := ⟨#[97]⟩
def noK : ByteArray → Bool := fun _ => false

theorem aS_text : from' aS 0 = [97] := by decide
theorem a_blank0 : runLen blankB (from' aS 0) = 0 := by decide
theorem a_blank1 : runLen blankB (from' aS 1) = 0 := by decide
theorem a_plain0 : plainB aS 0 = true := by decide
theorem a_plain1 : plainB aS 1 = true := by decide
theorem a_long : longLen (from' aS 0) = 1 := by decide
theorem a_kind : nameKind (from' aS 0) = 1 := by decide
theorem a_dig : runLen digB (from' aS 0) = 0 := by decide
theorem a_sign : signLen (from' aS 0) = 0 := by decide
theorem a_kw : kwLen noK aS 0 = 0 := rfl
theorem a_cut : aS.extract 0 1 = aS := by decide

/-- The candidates' answers at `a`. -/
def aC (j : Nat) : Int × ByteArray × Nat := if j = 1 then (1, aS, 1) else (0, ⟨#[]⟩, 0)
theorem a_best : bestOf aC 0 7 = (1, aS, 1) := by simp [bestOf, aC]

theorem a_cand0 (T : ByteArray) (k : Nat) (kind : Int) : candTok T k kind 0 = (0, ⟨#[]⟩) := if_neg (Nat.lt_irrefl 0)

theorem a_next (b mb : Nat) (V : World) (hS : ScK b mb noK aS V) : Calls Tryz.prog 32 #[.pointer (some ⟨b, 0, none⟩), .int .i64 ((0 : Nat) : Int)] V fun e w' => e = .returned (.tuple #[tokV 1 aS ((0 : Nat) : Int), .int .i64 ((1 : Nat) : Int)]) ∧ Below V.heap.size V w' := by
  have hz : aS.size ≤ 100000000 := by decide
  have hk : 0 ≤ aS.size := Nat.zero_le _
  have h := next_ok b 0 V aC
    (fun W hW => by have := keyword_any b mb noK aS 0 W (hS.below hW) hk hz; rw [a_kw, a_cand0] at this; exact this)
    (fun W hW => by have := name_any b aS 0 W (hS.below hW).text hk hz; rw [a_long, a_kind] at this; exact this)
    (fun W hW => variable_none b aS 0 W (hS.below hW).text hk hz (by decide) (by decide) (by decide))
    (fun W hW => by have := number_any b aS 0 W (hS.below hW).text hk hz; rw [a_dig, a_cand0] at this; exact this)
    (fun W hW => by have := symbol_any b aS 0 W (hS.below hW).text hk hz; rw [a_sign, a_cand0] at this; exact this)
    (fun W hW => quotation_none b aS 0 W (hS.below hW).text hk hz (by decide))
    (fun W hW => str_none b aS 0 W (hS.below hW).text (by decide) hz (by decide))
    (by rw [a_best]; decide)
  rw [a_best] at h
  exact h

theorem a_scans (b mb : Nat) : Scans b mb noK aS 1 (fun j => j) (fun _ => 1) (fun _ => (1, aS)) where
  start := fun V hS => by
    have := between_plain b aS 0 V hS.text (Nat.zero_le _) (by decide) a_plain0
    rw [a_blank0] at this
    exact this
  next := fun i hi V hS => by
    have : i = 0 := by omega
    subst this
    exact a_next b mb V hS
  go := fun i hi V hS => by
    have : i = 0 := by omega
    subst this
    have := between_plain b aS 1 V hS.text (by decide) (by decide) a_plain1
    rw [a_blank1] at this
    exact this
  lt := fun i hi => by have : i = 0 := by omega
                       subst this; decide
  inc := fun i _ => Nat.lt_succ_self i
  last := by decide

theorem map_none (w : World) : MapK w.heap.size noK (w.alloc (.map #[] 0)) :=
  ⟨0, .map [], World.ownsMap_made _ _ _ _, ⟨[], rfl⟩, fun s _ => rfl⟩

theorem run_makeMap_hint (w : World) (n : Int) : (Instr.makeMap 40 (some (.int .i64 n))).run Tryz.prog w = .ok (.map (some w.heap.size)) (w.alloc (.map #[] 0)) := by
  simp [Instr.makeMap, run_underlying Tryz.underlying40, asInt, asIntOf, Result.andThen]

set_option maxRecDepth 100000 in
set_option maxHeartbeats 1000000 in
theorem known_none (w : World) : Calls Tryz.prog 15 #[.slice none 0 0] w fun e w' => e = .returned (.tuple #[.map (some w.heap.size), .int .i64 0]) ∧ w' = w.alloc (.map #[] 0) := by
  have hmk := run_makeMap_hint
  go_enter Tryz.func15, Tryz.ntmps15
  go_wp2_with fail
  refine wp_loop_rounds 1 ?_
  rw [rounds_succ]
  go_wp2_with fail
  go_ret2
  exact ⟨rfl, rfl⟩

set_option maxRecDepth 100000 in
set_option maxHeartbeats 1000000 in
theorem scan_a (mb : Nat) (w : World) (hM : MapK mb noK w) : Calls Tryz.prog 16 #[.map (some mb), .string aS] w fun e w' => (∃ a c, e = .returned (.tuple #[.slice a 1 c, .int .i64 0, .int .i64 0])) ∧ Below w.heap.size w w' := by
  refine (callsIn_wide.1 (scan_ok_in 3 mb noK aS 1 (fun j => j) (fun _ => 1) (fun _ => (1, aS)) w (Nat.le_refl _) hM (by decide) (by decide) (a_scans _ mb))).mono ?_
  rintro e w' ⟨v, rfl, hrow, hb⟩
  obtain ⟨g, cap, rfl⟩ := ownsRow_succ (k := 0) hrow
  exact ⟨⟨_, _, rfl⟩, hb⟩

set_option maxRecDepth 100000 in
set_option maxHeartbeats 1000000 in
theorem Scan_a (w : World) : Calls Tryz.prog 7 #[.slice none 0 0, .string ⟨#[97]⟩] w fun e w' => (∃ a c, e = .returned (.tuple #[.slice a 1 c, .int .i64 0, .int .i64 0])) ∧ Below w.heap.size w w' := by
  have HK := Lib.hid (known_none w)
  have HS := Lib.hid (scan_a w.heap.size _ (map_none w))
  have HB := Lib.hid ((Below.refl w.heap.size w).alloc (Nat.le_refl _) (.map #[] 0))
  unfold aS at HS
  go_enter Tryz.func7, Tryz.ntmps7
  go_wp2_with fail
  (with_reducible refine HK.out.mono ?_)
  rintro e w1 ⟨rfl, rfl⟩
  go_wp2_with fail
  (with_reducible refine HS.out.mono ?_)
  rintro e w2 ⟨⟨a, c, rfl⟩, hb⟩
  have HB2 := Lib.hid (HB.out.trans (hb.mono (by simp)))
  clear hb
  go_wp2_with fail
  go_ret3
  exact ⟨⟨a, c, rfl⟩, HB2.out⟩

set_option maxRecDepth 100000 in
set_option maxHeartbeats 1000000 in
theorem awake_any (w : World) : Calls Tryz.prog 6 #[] w fun e w' => e = .returned (.bool true) ∧ Below w.heap.size w w' := by
  have HS := Lib.hid (Scan_a w)
  go_enter Tryz.func6, Tryz.ntmps6
  go_wp2_with fail
  (with_reducible refine HS.out.mono ?_)
  rintro e w1 ⟨⟨a, c, rfl⟩, hb⟩
  have HB := Lib.hid hb
  clear hb
  go_wp2_with fail
  go_ret
  exact ⟨rfl, HB.out⟩
end Go.Proofs.YtdkagjbedinhjaaGreat
