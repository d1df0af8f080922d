/-
  Strings in a slice; the statements' own Few: it answers, and what its true says.
-/
import Derived.Test.YtdkagjbedinhjaaGreatW1
namespace Go.Proofs.YtdkagjbedinhjaaGreat
open Go.RowKit Go.Maps

/-- Strings in a row of cells. -/
structure StrsAt (w : World) (b o : Nat) (l : List ByteArray) : Prop where
  lt : l ≠ [] → b < w.heap.size
  cell : ∀ i (h : i < l.length), w.cell? ⟨b, o + i, none⟩ = some (.string l[i])
  size : ∀ i (h : i < l.length), l[i].size ≤ maxLen

theorem StrsAt.later {w w' : World} {b o : Nat} {l : List ByteArray} (h : StrsAt w b o l) (hb : Below w.heap.size w w') : StrsAt w' b o l :=
  ⟨fun hn => Nat.lt_of_lt_of_le (h.lt hn) hb.size, fun i hi => (hb.cell (p := ⟨b, o + i, none⟩) (h.lt (by intro e; subst e; simp at hi))).trans (h.cell i hi), h.size⟩

/-- A slice of strings as an argument. -/
def HasStrs (W : World) (v : Value) (l : List ByteArray) : Prop :=
  ∃ (a : Option Addr) (cap b o : Nat), v = .slice a l.length cap ∧ l.length ≤ 9223372036854775807 ∧ (l ≠ [] → a = some ⟨b, o, none⟩) ∧ StrsAt W b o l
theorem HasStrs.later {w w' : World} {v : Value} {l : List ByteArray} (h : HasStrs w v l) (hb : Below w.heap.size w w') : HasStrs w' v l := by
  obtain ⟨a, c, b, o, h1, h2, h3, h4⟩ := h
  exact ⟨a, c, b, o, h1, h2, h3, h4.later hb⟩

set_option maxHeartbeats 1000000 in
theorem fewStr_any (s : ByteArray) (w : World) : Calls Tryz.prog 14 #[.string s] w fun e w' => (∃ x : Bool, e = .returned (.bool x)) ∧ w = w' := by
  go_enter Tryz.func14, Tryz.ntmps14
  go_wp2_with fail
  go_ret
  exact ⟨⟨_, rfl⟩, rfl⟩

set_option maxRecDepth 100000 in
set_option maxHeartbeats 2000000 in
theorem fewIndex_any (b o c : Nat) (a : Option Addr) (l : List ByteArray) (w : World) (ha : l ≠ [] → a = some ⟨b, o, none⟩) (h : StrsAt w b o l) (hl : l.length ≤ 9223372036854775807) :
    Calls Tryz.prog 22 #[.slice a l.length c, .func (.func 14) #[] #[]] w fun e w' => (∃ i : Int, e = .returned (.int .i64 i)) ∧ w = w' := by
  have HS := Lib.hid h
  have HA := Lib.hid ha
  clear h ha
  go_enter Tryz.func22, Tryz.ntmps22
  go_wp2_with fail
  go_loop [8] (fun t => ∃ i : Nat, t = .int .i64 i ∧ i ≤ l.length) (fun t => l.length - (intOf t).toNat)
  case atStart => exact ⟨0, rfl, Nat.zero_le _⟩
  case round =>
    obtain ⟨i, rfl, hi⟩ := hrel
    by_cases hlt : i < l.length
    · have e := HA.out (by intro e; subst e; simp at hlt)
      subst e
      have hc := HS.out.cell i hlt
      obtain ⟨s, hs⟩ : ∃ s, l[i] = s := ⟨_, rfl⟩
      rw [hs] at hc
      have HF := Lib.hid (fewStr_any s w)
      go_wp2_with (go_at_call 14; (with_reducible refine HF.out.mono ?_); rintro e w' ⟨⟨x, rfl⟩, rfl⟩; cases x)
      · go_round
        case rel => exact ⟨i + 1, by go_num, by omega⟩
        case measure => simp [intOf]; omega
      · go_ret
        exact ⟨⟨i, rfl⟩, rfl⟩
    · go_wp2_with fail
      go_ret
      exact ⟨⟨-1, rfl⟩, rfl⟩

set_option maxRecDepth 100000 in
set_option maxHeartbeats 2000000 in
theorem fewContains_any (b o c : Nat) (a : Option Addr) (l : List ByteArray) (w : World) (ha : l ≠ [] → a = some ⟨b, o, none⟩) (h : StrsAt w b o l) (hl : l.length ≤ 9223372036854775807) :
    Calls Tryz.prog 13 #[.slice a l.length c, .func (.func 14) #[] #[]] w fun e w' => (∃ x : Bool, e = .returned (.bool x)) ∧ w = w' := by
  have HI := Lib.hid (fewIndex_any b o c a l w ha h hl)
  clear h ha
  go_enter Tryz.func13, Tryz.ntmps13
  go_wp2_with fail
  (with_reducible refine HI.out.mono ?_)
  rintro e w' ⟨⟨i, rfl⟩, rfl⟩
  go_wp2_with fail
  go_ret
  exact ⟨⟨_, rfl⟩, rfl⟩

set_option maxRecDepth 100000 in
set_option maxHeartbeats 4000000 in
theorem few_any (l : List ByteArray) (v : Value) (T : ByteArray) (m : Nat) (hm : m ≤ 10000) (w : World) (hv : HasStrs w v l) :
    Calls Tryz.prog 5 #[.int .i64 (m : Int), v, .string T] w fun e w' => (∃ x : Bool, e = .returned (.bool x) ∧ (x = true → l.length ≤ 20 ∧ T.size ≤ m)) ∧ w = w' := by
  obtain ⟨a, c, b, o, rfl, hl, ha, hs⟩ := hv
  have HI := Lib.hid (fewContains_any b o c a l w ha hs hl)
  clear hs ha
  by_cases h1 : l.length ≤ 20
  · have g1 : decide ((l.length : Int) ≤ 20) = true := by simp; omega
    by_cases h2 : T.size ≤ m
    · have g2 : decide ((T.size : Int) ≤ m) = true := by simp; omega
      go_enter Tryz.func5, Tryz.ntmps5
      go_wp2_with fail
      (with_reducible refine HI.out.mono ?_)
      rintro e w' ⟨⟨x, rfl⟩, rfl⟩
      go_wp2_with fail
      go_ret
      exact ⟨⟨_, rfl, fun _ => ⟨h1, h2⟩⟩, rfl⟩
    · have g2 : decide ((T.size : Int) ≤ m) = false := by simp; omega
      go_enter Tryz.func5, Tryz.ntmps5
      go_wp2_with fail
      go_ret
      exact ⟨⟨_, rfl, fun h => by cases h⟩, rfl⟩
  · have g1 : decide ((l.length : Int) ≤ 20) = false := by simp; omega
    go_enter Tryz.func5, Tryz.ntmps5
    go_wp2_with fail
    go_ret
    exact ⟨⟨_, rfl, fun h => by cases h⟩, rfl⟩
end Go.Proofs.YtdkagjbedinhjaaGreat
