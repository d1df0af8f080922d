/-
  The last words of the types laws: what write appends of the three types: prop, a variable with a sort, and the type of functions between them.
-/
import Derived.Test.YthopoidcglfdjaaDoorC8
import Derived.StillTailTactics
import Derived.LoopN
namespace Go.Proofs.YthopoidcglfdjaaDoor
open Go.RowKit

/-- A builder stays what it is where all that lies there stays. -/
theorem builderAt_below {T e : TypeId} {B b : Nat} {p : Value} {bs : List Value} {w w' : World} (h : Lib.BuilderAt T e B b p bs w) (hw : Below w.heap.size w w') : Lib.BuilderAt T e B b p bs w' := by
  have hlt := h.lt
  obtain ⟨hB, v, hb, hown, hne⟩ := h
  refine ⟨hB, v, (hw.block b hlt).trans hb, ?_, hne⟩
  refine ⟨hown.1, ?_⟩
  rcases hown.2 with h | ⟨g, cap, cur, rfl, hbg, hg, rest⟩
  · exact .inl h
  · exact .inr ⟨g, cap, cur, rfl, hbg, (hw.block g (Array.getElem?_eq_some_iff.1 hg).1).trans hg, rest⟩
theorem isBuilder_below {T e : TypeId} {B b : Nat} {bs : List Value} {w w' : World} (h : Lib.IsBuilder T e B b bs w) (hw : Below w.heap.size w w') : Lib.IsBuilder T e B b bs w' := by
  rcases h with h | h
  · exact .inl (builderAt_below h hw)
  · exact .inr (builderAt_below h hw)

/-- WriteString, said in bytes. -/
theorem write_bytes (Bb b : Nat) (l : List UInt8) (s : ByteArray) (m : List UInt8) (w : World) (hs : s.data.toList = m) (h : Lib.IsBuilder 51 5 Bb b (Lib.byteCells l) w) (hlen : (l ++ m).length ≤ 140737488355328) (hBw : Bb ≤ w.heap.size) :
    Calls Tryd.prog 34 #[.pointer (some ⟨b, 0, none⟩), .string s] w fun e w' => (∃ v, e = .returned (.tuple #[v, .nilIface])) ∧ Lib.IsBuilder 51 5 Bb b (Lib.byteCells (l ++ m)) w' ∧ Below Bb w w' := by
  subst hs
  refine (write_str Bb b (Lib.byteCells l) s w h (by simpa [Lib.byteCells_length] using hlen) hBw).mono ?_
  rintro e w' ⟨rfl, h1, h2⟩
  refine ⟨⟨_, rfl⟩, .inr ?_, h2⟩
  rwa [Lib.byteCells_append, ← Lib.strCells_eq]

/-- The types of which the last words speak. -/
def tyProp : Ty := .mk 1 ⟨#[112, 114, 111, 112]⟩ 0 [] []
def tyA : Ty := .mk 3 ⟨#[97]⟩ 0 [⟨#[99]⟩] []
def tyFun : Ty := .mk 1 ⟨#[102, 117, 110]⟩ 0 [] [tyA, tyProp]
/-- Their texts. -/
def txtProp : List UInt8 := [112, 114, 111, 112]
def txtA : List UInt8 := [63, 97, 46, 48, 123, 99, 125]
def txtFun : List UInt8 := [102, 117, 110, 40, 63, 97, 46, 48, 123, 99, 125, 44, 32, 112, 114, 111, 112, 41]

set_option maxRecDepth 100000 in
set_option maxHeartbeats 4000000 in
theorem write_prop (B Bb b tb to : Nat) (l : List UInt8) (w : World) (hB : B ≤ Bb) (hBw : Bb ≤ w.heap.size) (hT : AtTy B w tb to tyProp) (hbd : Lib.IsBuilder 51 5 Bb b (Lib.byteCells l) w) (hlen : l.length ≤ 1000) :
    Calls Tryd.prog 21 #[.pointer (some ⟨b, 0, none⟩), .pointer (some ⟨tb, to, none⟩)] w fun e w' => e = .returned (.tuple #[]) ∧ Lib.IsBuilder 51 5 Bb b (Lib.byteCells (l ++ txtProp)) w' ∧ Below Bb w w' := by
  obtain ⟨_, _, op, ix, nm, srt, args, vs, a, cap, ab, ao, hb, k0, k1, k2, k3, k4, hop, hix, hnm, hs, hl, ha, he⟩ := hT
  obtain ⟨sa, sc, sb, so, rfl, hsl, hsn, hsc⟩ := hs
  have K3 := Lib.hid fun W (h : Below Bb w W) => (h.cell (p := ⟨tb, to + 3, none⟩) (by show tb < Bb; omega)).trans k3
  have K4 := Lib.hid fun W (h : Below Bb w W) => (h.cell (p := ⟨tb, to + 4, none⟩) (by show tb < Bb; omega)).trans k4
  have HB := Lib.hid hbd
  clear ha he hsn hsc hbd
  go_enter Tryd.func21, Tryd.ntmps21
  go_wp2_with fail
  refine (write_bytes Bb b l _ txtProp w rfl HB.out (by simp [txtProp]; omega) hBw).mono ?_
  rintro e W ⟨⟨v, rfl⟩, hbW, hW⟩
  have k3W := K3.out W hW
  have k4W := K4.out W hW
  simp only [List.length_nil] at k3W k4W
  have HBW := Lib.hid hbW
  clear hbW
  go_wp2_with fail
  refine wp_loop_rounds 1 ?_
  rw [rounds_succ]
  go_wp2_with fail
  go_end0
  exact ⟨rfl, HBW.out, hW⟩

theorem itoa0 (w : World) : Calls Tryd.prog 35 #[.int .i64 0] w fun e w' => e = .returned (.string ⟨#[48]⟩) ∧ w' = w := by
  have h : Lib.decDigits 0 = [48] := by rw [Lib.decDigits]; decide
  have := Tryd.strconv_Itoa_small 0 (by decide) w
  rw [h] at this
  exact this

set_option maxRecDepth 100000 in
set_option maxHeartbeats 4000000 in
theorem write_a (B Bb b tb to : Nat) (l : List UInt8) (w : World) (hB : B ≤ Bb) (hBw : Bb ≤ w.heap.size) (hT : AtTy B w tb to tyA) (hbd : Lib.IsBuilder 51 5 Bb b (Lib.byteCells l) w) (hlen : l.length ≤ 1000) :
    Calls Tryd.prog 21 #[.pointer (some ⟨b, 0, none⟩), .pointer (some ⟨tb, to, none⟩)] w fun e w' => e = .returned (.tuple #[]) ∧ Lib.IsBuilder 51 5 Bb b (Lib.byteCells (l ++ txtA)) w' ∧ Below Bb w w' := by
  obtain ⟨_, _, op, ix, nm, srt, args, vs, a, cap, ab, ao, hb, k0, k1, k2, k3, k4, hop, hix, hnm, hs, hl, ha, he⟩ := hT
  obtain ⟨sa, sc, sb, so, rfl, hsl, hsn, hsc⟩ := hs
  obtain ⟨rfl, hsb⟩ := hsn (by simp)
  have hs0 := (hsc 0 (by simp)).1
  simp only [List.length_nil, List.length_cons, Nat.zero_add, Nat.add_zero, List.getElem_cons_zero] at k3 k4 hsl hs0
  have K3 := Lib.hid fun W (h : Below Bb w W) => (h.cell (p := ⟨tb, to + 3, none⟩) (by show tb < Bb; omega)).trans k3
  have K4 := Lib.hid fun W (h : Below Bb w W) => (h.cell (p := ⟨tb, to + 4, none⟩) (by show tb < Bb; omega)).trans k4
  have KS := Lib.hid fun W (h : Below Bb w W) => (h.cell (p := ⟨sb, so, none⟩) (by show sb < Bb; omega)).trans hs0
  have HB := Lib.hid hbd
  clear ha he hsn hsc hbd hs0
  go_enter Tryd.func21, Tryd.ntmps21
  go_wp2_with fail
  refine wp_region_still_tail 13 (by kernel_rfl) (by kernel_rfl) ?_
  simp only [List.take_succ_cons, List.take_zero, List.drop_succ_cons, List.drop_zero]
  repeat (first | still_call (itoa0 _) | still_step)
  try refine wpStill_nil ?_
  change wpList _ _ _ _ _ w.drew
  have HB1 : Lib.IsBuilder 51 5 Bb b (Lib.byteCells l) w.drew := HB.out
  have hBd : Bb ≤ w.drew.heap.size := hBw
  have hwd : Below Bb w w.drew := below_drewN (Below.refl _ _) 1
  go_wp2_with fail
  refine (write_bytes Bb b l _ [63, 97, 46, 48] w.drew (by rfl) HB1 (by simp; omega) hBd).mono ?_
  rintro e W ⟨⟨v, rfl⟩, hbW, hW⟩
  have hW1 : Below Bb w W := hwd.trans hW
  have k3W := K3.out W hW1
  have k4W := K4.out W hW1
  have HBW := Lib.hid hbW
  have hj := Lib.hid (Tryd.strings_Join sb so sc [⟨#[99]⟩] ⟨#[44]⟩ W
        (fun j x hx => by
          obtain ⟨hj, rfl⟩ := List.getElem?_eq_some_iff.1 hx
          obtain rfl : j = 0 := by simpa using hj
          exact KS.out W hW1)
        (by have := hW1.size; omega) (by decide) hsl.1 (by decide))
  have hjt : (Lib.join (([⟨#[99]⟩] : List ByteArray).map (·.data.toList)) (⟨#[44]⟩ : ByteArray).data.toList).toArray = #[99] := by decide
  rw [hjt] at hj
  clear hbW HB1 hjt
  go_wp2_with fail
  refine hj.out.mono ?_
  rintro e W2 ⟨rfl, hW2⟩
  have hWW : Below Bb W W2 := hW2.mono (by have := hW1.size; omega)
  have HB2 := Lib.hid (isBuilder_below HBW.out hW2)
  have hBd2 : Bb ≤ W2.heap.size := by have := hW1.size; have := hW2.size; omega
  go_wp2_with fail
  refine (write_bytes Bb b _ _ [123, 99, 125] W2 (by rfl) HB2.out (by simp; omega) hBd2).mono ?_
  rintro e W3 ⟨⟨v, rfl⟩, hbW3, hW3⟩
  have hW13 : Below Bb w W3 := (hW1.trans hWW).trans hW3
  have k4W3 := K4.out W3 hW13
  have HB3 := Lib.hid hbW3
  clear hbW3
  go_wp2_with fail
  refine wp_loop_rounds 1 ?_
  rw [rounds_succ]
  go_wp2_with fail
  go_end0
  exact ⟨rfl, by simpa [txtA, List.append_assoc] using HB3.out, hW13⟩

set_option maxRecDepth 100000 in
set_option maxHeartbeats 4000000 in
theorem write_fun (B Bb b tb to : Nat) (w : World) (hB : B ≤ Bb) (hBw : Bb ≤ w.heap.size) (hT : AtTy B w tb to tyFun) (hbd : Lib.IsBuilder 51 5 Bb b (Lib.byteCells []) w) :
    Calls Tryd.prog 21 #[.pointer (some ⟨b, 0, none⟩), .pointer (some ⟨tb, to, none⟩)] w fun e w' => e = .returned (.tuple #[]) ∧ Lib.IsBuilder 51 5 Bb b (Lib.byteCells txtFun) w' ∧ Below Bb w w' := by
  obtain ⟨_, _, op, ix, nm, srt, args, vs, a, cap, ab, ao, hb, k0, k1, k2, k3, k4, hop, hix, hnm, hs, hl, ha, he⟩ := hT
  obtain ⟨sa, sc, sb, so, rfl, hsl, hsn, hsc⟩ := hs
  obtain ⟨rfl, hab⟩ := ha (by simp)
  have q0 := he 0 (by simp)
  have q1 := he 1 (by simp)
  simp only [List.length_nil, List.length_cons, Nat.zero_add, Nat.add_zero, Nat.zero_mul, Nat.one_mul, Nat.reduceAdd, List.getElem_cons_zero, List.getElem_cons_succ] at k3 k4 hsl q0 q1
  have K3 := Lib.hid fun W (h : Below Bb w W) => (h.cell (p := ⟨tb, to + 3, none⟩) (by show tb < Bb; omega)).trans k3
  have K4 := Lib.hid fun W (h : Below Bb w W) => (h.cell (p := ⟨tb, to + 4, none⟩) (by show tb < Bb; omega)).trans k4
  have Q0 := Lib.hid fun W (h : Below Bb w W) => AtTy.later (h.mono hB) (Nat.le_refl _) q0
  have Q1 := Lib.hid fun W (h : Below Bb w W) => AtTy.later (h.mono hB) (Nat.le_refl _) q1
  have HB := Lib.hid hbd
  have HZ := Lib.hid (fun W (h : Below Bb w W) => (show Bb ≤ W.heap.size by have := h.size; omega))
  clear ha he hsn hsc hbd q0 q1
  go_enter Tryd.func21, Tryd.ntmps21
  go_wp2_with fail
  refine (write_bytes Bb b [] _ [102, 117, 110] w (by rfl) HB.out (by simp) hBw).mono ?_
  rintro e W ⟨⟨v, rfl⟩, hbW, hW⟩
  have k3W := K3.out W hW
  have k4W := K4.out W hW
  have H1 := Lib.hid hbW
  clear hbW
  go_wp2_with fail
  refine wp_loop_rounds 3 ?_
  rw [rounds_succ]
  go_wp2_with fail
  refine (write_bytes Bb b _ _ [40] W (by rfl) H1.out (by simp) (HZ.out W hW)).mono ?_
  rintro e W2 ⟨⟨v2, rfl⟩, hbW2, hW2⟩
  have b2 := hW.trans hW2
  have k4W2 := K4.out W2 b2
  have H2 := Lib.hid hbW2
  clear hbW2
  go_wp2_with fail
  refine (write_a B Bb b ab ao _ W2 hB (HZ.out W2 b2) (Q0.out W2 b2) H2.out (by simp)).mono ?_
  rintro e W3 ⟨rfl, hbW3, hW3⟩
  have b3 := b2.trans hW3
  have k4W3 := K4.out W3 b3
  have H3 := Lib.hid hbW3
  clear hbW3
  go_wp2_with fail
  rw [rounds_succ]
  go_wp2_with fail
  refine (write_bytes Bb b _ _ [44, 32] W3 (by rfl) H3.out (by simp [txtA]) (HZ.out W3 b3)).mono ?_
  rintro e W4 ⟨⟨v4, rfl⟩, hbW4, hW4⟩
  have b4 := b3.trans hW4
  have k4W4 := K4.out W4 b4
  have H4 := Lib.hid hbW4
  clear hbW4
  go_wp2_with fail
  refine (write_prop B Bb b ab (ao + 5) _ W4 hB (HZ.out W4 b4) (Q1.out W4 b4) H4.out (by simp [txtA])).mono ?_
  rintro e W5 ⟨rfl, hbW5, hW5⟩
  have b5 := b4.trans hW5
  have k4W5 := K4.out W5 b5
  have H5 := Lib.hid hbW5
  clear hbW5
  go_wp2_with fail
  rw [rounds_succ]
  go_wp2_with fail
  refine (write_bytes Bb b _ _ [41] W5 (by rfl) H5.out (by simp [txtA, txtProp]) (HZ.out W5 b5)).mono ?_
  rintro e W6 ⟨⟨v6, rfl⟩, hbW6, hW6⟩
  have b6 := b5.trans hW6
  have H6 := Lib.hid hbW6
  clear hbW6
  go_wp2_with fail
  go_end0
  exact ⟨rfl, by simpa [txtA, txtProp, txtFun, List.append_assoc] using H6.out, b6⟩
end Go.Proofs.YthopoidcglfdjaaDoor
