/-
  A map of keywords, made from any list of texts.
-/
import Derived.Test.YtdkagjbedinhjaaGreatW2
namespace Go.Proofs.YtdkagjbedinhjaaGreat
open Go.RowKit Go.Maps Go.WideMaps

/-- Is a text one of these? -/
def inK (l : List ByteArray) (s : ByteArray) : Bool := l.any fun k => decide (k.data.toList = s.data.toList)
theorem inK_snoc (l : List ByteArray) (k s : ByteArray) : inK (l ++ [k]) s = (inK l s || decide (k.data.toList = s.data.toList)) := by
  unfold inK
  rw [List.any_append]
  simp

/-- The fault of a list of keywords. -/
def kwCode : List ByteArray → List ByteArray → Int
  | _, [] => 0
  | seen, k :: r => if isKwB k = false then 163 else if inK seen k = true then 10 else kwCode (seen ++ [k]) r
theorem kwCode_bad {seen r : List ByteArray} {k : ByteArray} (h : isKwB k = false) : kwCode seen (k :: r) = 163 := if_pos h
theorem kwCode_twice {seen r : List ByteArray} {k : ByteArray} (h : isKwB k = true) (h2 : inK seen k = true) : kwCode seen (k :: r) = 10 := by
  unfold kwCode
  rw [if_neg (by rw [h]; decide), if_pos h2]
theorem kwCode_on {seen r : List ByteArray} {k : ByteArray} (h : isKwB k = true) (h2 : inK seen k = false) : kwCode seen (k :: r) = kwCode (seen ++ [k]) r := by
  show (if isKwB k = false then 163 else if inK seen k = true then 10 else kwCode (seen ++ [k]) r) = _
  rw [if_neg (by rw [h]; decide), if_neg (by rw [h2]; decide)]
theorem isKwB_size {k : ByteArray} (h : isKwB k = true) : k.size ≤ maxLen := by
  unfold isKwB at h
  split at h
  · cases h
  · split at h
    · cases h
    · unfold maxLen; omega

/-- As MapK, with how many were put. -/
def MapN (mb n : Nat) (K : ByteArray → Bool) (w : World) : Prop := ∃ D : DataW Unit, w.ownsMap Tryz.prog 9 boolR mb n D ∧ Maps.IsMap D ∧ ∀ s : ByteArray, s.size ≤ maxLen → D.atKey (.string s.data.toList) (.lit (.bool false)) = .lit (.bool (K s))
theorem MapN.mapK {mb n : Nat} {K : ByteArray → Bool} {w : World} (h : MapN mb n K w) : MapK mb K w := by
  obtain ⟨D, h⟩ := h
  exact ⟨n, D, h⟩
theorem MapN.later {mb n B : Nat} {K : ByteArray → Bool} {w w' : World} (h : MapN mb n K w) (hb : Below B w w') (hB : mb < B) : MapN mb n K w' := by
  obtain ⟨D, ⟨es, c, h1, h2⟩, h3⟩ := h
  exact ⟨D, ⟨es, c, (hb.block mb hB).trans h1, h2⟩, h3⟩
theorem MapN.made (w : World) : MapN w.heap.size 0 (inK []) (w.alloc (.map #[] 0)) := ⟨.map [], World.ownsMap_made w _ _ _, Maps.isMap_empty, fun s _ => rfl⟩

theorem below_of_map {B b : Nat} {a w w' : World} (h : Below B a w) (hg : w.grownBy w' (some b)) (hb : B ≤ b) (hB : B ≤ w.heap.size) : Below B a w' :=
  h.trans ⟨hg.1, hg.2, hg.3, hg.4, fun i hi => hg.5 i (by omega) (by intro e; cases e; omega)⟩

set_option maxRecDepth 100000 in
set_option maxHeartbeats 4000000 in
theorem known_any (l : List ByteArray) (v : Value) (w : World) (hv : HasStrs w v l) (h500 : l.length ≤ 500) :
    Calls Tryz.prog 15 #[v] w fun e w' => ((kwCode [] l = 0 ∧ e = .returned (.tuple #[.map (some w.heap.size), .int .i64 0]) ∧ MapK w.heap.size (inK l) w') ∨ (kwCode [] l ≠ 0 ∧ e = .returned (.tuple #[.map none, .int .i64 (kwCode [] l)]))) ∧ Below w.heap.size w w' := by
  obtain ⟨a, c, b, o, rfl, hl, ha, hs⟩ := hv
  have hmk := run_makeMap_hint
  have hd : decide ((500 : Int) < (l.length : Int)) = false := by simp; omega
  have HS := Lib.hid hs
  have HA := Lib.hid ha
  have HM := Lib.hid (MapN.made w)
  have HB := Lib.hid ((Below.refl w.heap.size w).alloc (Nat.le_refl _) (.map #[] 0))
  have HZ := Lib.hid (show (w.alloc (.map #[] 0)).heap.size = w.heap.size + 1 by simp)
  clear hs ha
  go_enter Tryz.func15, Tryz.ntmps15
  go_wp2_with fail
  generalize w.alloc (.map #[] 0) = w0 at *
  go_loopw [15] (fun t wr => ∃ i : Nat, t = .int .i64 i ∧ i ≤ l.length ∧ kwCode [] l = kwCode (l.take i) (l.drop i) ∧ Below w.heap.size w wr ∧ w.heap.size < wr.heap.size ∧ MapN w.heap.size i (inK (l.take i)) wr) (fun t _ => l.length - (intOf t).toNat)
  case atStart => exact ⟨0, rfl, Nat.zero_le _, rfl, HB.out, by have := HZ.out; omega, HM.out⟩
  case round =>
    obtain ⟨i, rfl, hi, hk, hb, hz, hm⟩ := hrel
    have HK := Lib.hid hk
    have HB2 := Lib.hid hb
    have HZ2 := Lib.hid hz
    have HM2 := Lib.hid hm
    clear hk hb hz hm HM HB HZ
    by_cases hlt : i < l.length
    · have e := HA.out (by intro e; subst e; simp at hlt)
      subst e
      have hc := (HS.out.later HB2.out).cell i hlt
      have HDR := Lib.hid (List.drop_eq_getElem_cons hlt)
      have HTK := Lib.hid (List.take_append_getElem hlt)
      obtain ⟨s, hs⟩ : ∃ s, l[i] = s := ⟨_, rfl⟩
      rw [hs] at hc HDR HTK
      clear hs
      have HF := Lib.hid (isKeyword_any s wr)
      cases hkw : isKwB s with
      | false =>
        rw [hkw] at HF
        have HC := Lib.hid (show kwCode [] l = 163 by rw [HK.out, HDR.out]; exact kwCode_bad hkw)
        clear hkw
        go_wp2_with fail
        (with_reducible refine HF.out.mono ?_)
        rintro e w2 ⟨rfl, hb2⟩
        have HB3 := Lib.hid (HB2.out.trans (hb2.mono (Nat.le_of_lt HZ2.out)))
        clear hb2
        go_wp2_with fail
        go_ret2
        exact ⟨.inr ⟨by rw [HC.out]; decide, by rw [HC.out]; rfl⟩, HB3.out⟩
      | true =>
        rw [hkw] at HF
        have hsz := isKwB_size hkw
        go_wp2_with fail
        (with_reducible refine HF.out.mono ?_)
        rintro e w2 ⟨rfl, hb2⟩
        have hm3 := HM2.out.later hb2 HZ2.out
        have hlk := hm3.mapK.look s hsz
        have HM3 := Lib.hid hm3
        have HZ3 := Lib.hid (Nat.lt_of_lt_of_le HZ2.out hb2.size)
        have HB3 := Lib.hid (HB2.out.trans (hb2.mono (Nat.le_of_lt HZ2.out)))
        have HKW := Lib.hid hkw
        have HSZ := Lib.hid hsz
        clear hb2 hm3 hkw hsz
        cases hin : inK (l.take i) s with
        | true =>
          rw [hin] at hlk
          have HC := Lib.hid (show kwCode [] l = 10 by rw [HK.out, HDR.out]; exact kwCode_twice HKW.out hin)
          clear hin
          go_wp2_with fail
          go_ret2
          exact ⟨.inr ⟨by rw [HC.out]; decide, by rw [HC.out]; rfl⟩, HB3.out⟩
        | false =>
          rw [hin] at hlk
          have HC := Lib.hid (show kwCode [] l = kwCode (l.take (i + 1)) (l.drop (i + 1)) by rw [HK.out, HDR.out, kwCode_on HKW.out hin, HTK.out])
          clear hin
          obtain ⟨D, hown, him, hat⟩ := HM3.out
          have HIM := Lib.hid him
          have HAT := Lib.hid hat
          clear him hat
          go_wp2_with (first | (at_mapUpdate; refine wpList_mapUpdate_own _ rfl _ _ _ 40 rfl 9 4 keyedS Tryz.underlying40 boolR w.heap.size i D rfl hown (by unfold maxLen; omega) _ _ _ rfl rfl (keyOf_string_mk Tryz.underlying9 HSZ.out) (.lit (.bool true)) [] rfl ?_; intro w3 hown3 hgrow3) | fail)
          have HM4 := Lib.hid (show MapN w.heap.size (i + 1) (inK (l.take (i + 1))) w3 from ⟨_, hown3, HIM.out.put _ _, fun q hq => by
            rw [← HTK.out, inK_snoc]
            by_cases e : s.data.toList = q.data.toList
            · rw [e, atKey_put_same HIM.out (by trivial), decide_eq_true rfl, Bool.or_true]
            · rw [atKey_put_other (by intro h; exact e (Lit.string.inj h).symm), HAT.out q hq, decide_eq_false e, Bool.or_false]⟩)
          have HB4 := Lib.hid (below_of_map HB3.out hgrow3 (Nat.le_refl _) (Nat.le_of_lt HZ3.out))
          have HZ4 := Lib.hid (Nat.lt_of_lt_of_le HZ3.out hgrow3.size)
          clear hown3 hgrow3
          go_wp2_with fail
          go_round
          case rel => exact ⟨i + 1, by go_num, by omega, HC.out, HB4.out, HZ4.out, HM4.out⟩
          case measure => simp [intOf]; omega
    · obtain rfl : i = l.length := by omega
      have HC := Lib.hid (show kwCode [] l = 0 by rw [HK.out, List.drop_length]; rfl)
      have HM3 := Lib.hid (show MapK w.heap.size (inK l) wr by have := HM2.out.mapK; rwa [List.take_length] at this)
      go_wp2_with fail
      go_ret2
      exact ⟨.inl ⟨HC.out, rfl, HM3.out⟩, HB2.out⟩
end Go.Proofs.YtdkagjbedinhjaaGreat
