/-
  What writes the text of a proof: the proof by assumption.
-/
import Derived.Test.YtdffhnfjcbnioaaDoorA9
namespace Go.Proofs.YtdffhnfjcbnioaaDoor
open Go.RowKit

theorem padd1 (s : ByteArray) (B b : Nat) (l : List UInt8) (W : World) (h : IsBs 60 [.bool false] B b l W) (hBw : B ≤ W.heap.size) (hlen : l.length + s.size ≤ 400000) :
    Calls Tryd.prog 22 #[.pointer (some ⟨b, 0, none⟩), .slice (some ⟨W.heap.size, 0, none⟩) 1 1] (W.alloc (.cells #[.string s] 9)) fun e w' => e = .returned (.tuple #[]) ∧ IsBs 60 [.bool false] B b (l ++ s.data.toList) w' ∧ Below B W w' ∧ KeepU b W w' := by
  have hal : Below W.heap.size W (W.alloc (.cells #[.string s] 9)) := (Below.refl _ W).alloc (Nat.le_refl _) _
  have hcat : catB [s] = s.data.toList := by simp [catB]
  have hlt := h.lt
  have hh := padd_strs B b W.heap.size 1 l [s] (W.alloc (.cells #[.string s] 9)) (h.below hal) (Nat.le_trans hBw hal.size) (heap_alloc_new W _) (by omega) (by simp) (by rw [hcat]; simpa using hlen) (by simp)
  rw [hcat] at hh
  simp only [List.length_cons, List.length_nil, Nat.zero_add, Nat.reduceAdd] at hh
  exact hh.mono fun _ _ ⟨he, hb, hw, hu⟩ => ⟨he, hb, (hal.mono hBw).trans hw, (KeepU.below hal).trans hu⟩
theorem padd2 (s t : ByteArray) (B b : Nat) (l : List UInt8) (W : World) (h : IsBs 60 [.bool false] B b l W) (hBw : B ≤ W.heap.size) (hlen : l.length + s.size + t.size ≤ 400000) :
    Calls Tryd.prog 22 #[.pointer (some ⟨b, 0, none⟩), .slice (some ⟨W.heap.size, 0, none⟩) 2 2] (W.alloc (.cells #[.string s, .string t] 9)) fun e w' => e = .returned (.tuple #[]) ∧ IsBs 60 [.bool false] B b (l ++ (s.data.toList ++ t.data.toList)) w' ∧ Below B W w' ∧ KeepU b W w' := by
  have hal : Below W.heap.size W (W.alloc (.cells #[.string s, .string t] 9)) := (Below.refl _ W).alloc (Nat.le_refl _) _
  have hcat : catB [s, t] = s.data.toList ++ t.data.toList := by simp [catB]
  have hlt := h.lt
  have hh := padd_strs B b W.heap.size 2 l [s, t] (W.alloc (.cells #[.string s, .string t] 9)) (h.below hal) (Nat.le_trans hBw hal.size) (heap_alloc_new W _) (by omega) (by simp) (by rw [hcat]; simp; omega) (by simp)
  rw [hcat] at hh
  simp only [List.length_cons, List.length_nil, Nat.zero_add, Nat.reduceAdd] at hh
  exact hh.mono fun _ _ ⟨he, hb, hw, hu⟩ => ⟨he, hb, (hal.mono hBw).trans hw, (KeepU.below hal).trans hu⟩

theorem Kinds.laterB {B : Nat} {W W' : World} (h : Kinds W) (hB : 0 < B) (hb : Below B W W') : Kinds W' :=
  ⟨Nat.lt_of_lt_of_le h.pos hb.size, h.axi.later hB hb, h.ass.later hB hb, h.imp.later hB hb, h.sym.later hB hb, h.tra.later hB hb⟩

/-- The text of a proof by assumption. -/
def txtA (nm tn : ByteArray) : List UInt8 := 40 :: [97, 115, 115, 117, 109, 101] ++ (32 :: 91 :: txtF nm tn ++ [93, 41])
theorem txtA_of (nm tn : ByteArray) (l : List UInt8) : (((l ++ ((⟨#[40]⟩ : ByteArray).data.toList ++ (⟨#[97, 115, 115, 117, 109, 101]⟩ : ByteArray).data.toList)) ++ (⟨#[32]⟩ : ByteArray).data.toList) ++ (91 :: txtF nm tn ++ [93])) ++ (⟨#[41]⟩ : ByteArray).data.toList = l ++ txtA nm tn := by
  simp [txtA, List.append_assoc]
theorem txtF_len (nm tn : ByteArray) : (txtF nm tn).length = nm.size + tn.size + 2 := by simp [txtF]; omega

/-- The fields of a kind, laid anew. -/
def kindRow (word : ByteArray) (kids : Int) : Array Value := #[.string word, .bool false, .bool true, .bool false, .bool false, .int .i64 kids]
theorem kindRow_cells {w : World} {g : Nat} {word : ByteArray} {kids : Int} (h : w.heap[g]? = some (.cells (kindRow word kids) 67 (0, 0))) :
    w.cell? ⟨g, 0, none⟩ = some (.string word) ∧ w.cell? ⟨g, 1, none⟩ = some (.bool false) ∧ w.cell? ⟨g, 2, none⟩ = some (.bool true) ∧ w.cell? ⟨g, 3, none⟩ = some (.bool false) ∧ w.cell? ⟨g, 4, none⟩ = some (.bool false) := by
  refine ⟨?_, ?_, ?_, ?_, ?_⟩ <;> (rw [Lib.cell_of_heap h]; rfl)

set_option maxRecDepth 100000 in
set_option maxHeartbeats 4000000 in
theorem pproof_assume (nm tn : ByteArray) (B b Bt pb po : Nat) (T : Pf) (l : List UInt8) (w : World) (h : IsBs 60 [.bool false] B b l w) (hBw : B ≤ w.heap.size) (hB0 : 0 < B) (hBt : Bt ≤ B) (hT : AtPf Bt w pb po T) (hK : Kinds w) (h0 : T.op = 3) (ht : T.tm = tmF nm tn) (hkids : T.kids = [])
    (hm : nameB nm = true) (hn : nameB tn = true) (hs : tn.size ≤ 1000) (hs2 : nm.size ≤ 1000) (hlen : l.length ≤ 200000) :
    Calls Tryd.prog 15 #[.pointer (some ⟨b, 0, none⟩), .pointer (some ⟨pb, po, none⟩)] w fun e w' => e = .returned (.tuple #[]) ∧ IsBs 60 [.bool false] B b (l ++ txtA nm tn) w' ∧ Below B w w' ∧ KeepU b w w' := by
  have HN := Lib.hid (names_assume Bt pb po T w (by omega) hT hK h0)
  have hfl := txtF_len nm tn
  obtain ⟨hpb, c0, _, ct, _⟩ := hT.own
  obtain ⟨a, cap, kb, ko, _, c16, _⟩ := hT.kid
  rw [h0] at c0
  rw [ht] at ct
  rw [hkids, List.length_nil] at c16
  obtain ⟨g0, g1, g2, g3, g4, g5⟩ := hK.ass
  simp only [Nat.reduceMul, Nat.reduceAdd] at g0 g1 g2 g3 g4 g5
  have HH := Lib.hid h
  have CF := Lib.hid fun W (hW : Below B w W) => (show W.cell? ⟨pb, po, none⟩ = some (.int .i64 3) from (hW.cell (p := ⟨pb, po, none⟩) (by show pb < B; omega)).trans c0)
  have C16 := Lib.hid fun W (hW : Below B w W) => (show W.cell? ⟨pb, po + 16, none⟩ = some (.slice a 0 cap) from (hW.cell (p := ⟨pb, po + 16, none⟩) (by show pb < B; omega)).trans c16)
  have G0 := Lib.hid fun W (hW : Below B w W) => (hW.cell (p := ⟨0, 18, none⟩) hB0).trans g0
  have G1 := Lib.hid fun W (hW : Below B w W) => (hW.cell (p := ⟨0, 19, none⟩) hB0).trans g1
  have G2 := Lib.hid fun W (hW : Below B w W) => (hW.cell (p := ⟨0, 20, none⟩) hB0).trans g2
  have G3 := Lib.hid fun W (hW : Below B w W) => (hW.cell (p := ⟨0, 21, none⟩) hB0).trans g3
  have G4 := Lib.hid fun W (hW : Below B w W) => (hW.cell (p := ⟨0, 22, none⟩) hB0).trans g4
  have G5 := Lib.hid fun W (hW : Below B w W) => (hW.cell (p := ⟨0, 23, none⟩) hB0).trans g5
  have CT := Lib.hid ct
  clear c0 c16 g0 g1 g2 g3 g4 g5 ct h hT hK h0 ht hkids
  go_enter Tryd.func15, Tryd.ntmps15
  go_wp2_with fail
  (with_reducible refine HN.out.mono ?_)
  rintro e W ⟨rfl, hW⟩
  have hWB := hW.mono hBw
  have c0 := CF.out W hWB
  have g0 := G0.out W hWB
  have g1 := G1.out W hWB
  have g2 := G2.out W hWB
  have g3 := G3.out W hWB
  have g4 := G4.out W hWB
  have g5 := G5.out W hWB
  have hal : Below W.heap.size W (W.alloc (.cells #[.string ⟨#[97, 115, 115, 117, 109, 101]⟩, .bool false, .bool true, .bool false, .bool false, .int .i64 0] 67)) := (Below.refl _ W).alloc (Nat.le_refl _) _
  have hz : (W.alloc (.cells #[.string ⟨#[97, 115, 115, 117, 109, 101]⟩, .bool false, .bool true, .bool false, .bool false, .int .i64 0] 67)).heap.size = W.heap.size + 1 := by simp
  have hrow : (W.alloc (.cells #[.string ⟨#[97, 115, 115, 117, 109, 101]⟩, .bool false, .bool true, .bool false, .bool false, .int .i64 0] 67)).heap[W.heap.size]? = some (.cells (kindRow ⟨#[97, 115, 115, 117, 109, 101]⟩ 0) 67 (0, 0)) := Go.heap_alloc_new W _
  have hbW := HH.out.below hW
  have hbl := hbW.lt
  have HV := Lib.hid fun W' (hu : KeepU b (W.alloc (.cells #[.string ⟨#[97, 115, 115, 117, 109, 101]⟩, .bool false, .bool true, .bool false, .bool false, .int .i64 0] 67)) W') => kindRow_cells ((hu W.heap.size _ _ _ (by omega) hrow (by decide)).trans hrow)
  have a1 := padd2 ⟨#[40]⟩ ⟨#[97, 115, 115, 117, 109, 101]⟩ B b l _ (hbW.below hal) (Nat.le_trans hBw (Nat.le_trans hW.size hal.size)) (by simp [ByteArray.size]; omega)
  rw [hz] at a1
  have A1 := Lib.hid a1
  have HW := Lib.hid (hWB.trans (hal.mono (Nat.le_trans hBw hW.size)))
  have HU := Lib.hid ((KeepU.below hW (b := b)).trans (KeepU.below hal))
  have HR := Lib.hid (KeepU.refl b (W.alloc (.cells #[.string ⟨#[97, 115, 115, 117, 109, 101]⟩, .bool false, .bool true, .bool false, .bool false, .int .i64 0] 67)))
  clear hW hWB hal hz hrow hbW hbl a1
  go_wp2_with fail
  (with_reducible refine A1.out.mono ?_)
  rintro e W1 ⟨rfl, hb1, hw1, hu1⟩
  obtain ⟨e0, e1, e2, e3, e4⟩ := HV.out W1 hu1
  have A2 := Lib.hid (padd1 ⟨#[32]⟩ B b _ W1 hb1 (Nat.le_trans hBw (Nat.le_trans HW.out.size hw1.size)) (by simp [ByteArray.size]; omega))
  have HW1 := Lib.hid (HW.out.trans hw1)
  have HU1 := Lib.hid hu1
  clear hb1 hw1 c0 g0 g1 g2 g3 g4 g5 hu1
  go_wp2_with fail
  (with_reducible refine A2.out.mono ?_)
  rintro e W2 ⟨rfl, hb2, hw2, hu2⟩
  have hw2' := HW1.out.trans hw2
  have A3 := Lib.hid (pterm_free nm tn B b Bt pb (po + 2) _ W2 hb2 (Nat.le_trans hBw hw2'.size) (Nat.le_trans hBt (Nat.le_trans hBw hw2'.size)) (CT.out.later (hw2'.mono hBt) (Nat.le_refl _)) hm hn hs hs2 (by simp [ByteArray.size]; omega))
  have HW2 := Lib.hid hw2'
  have HU2 := Lib.hid (HU1.out.trans hu2)
  clear hb2 hw2 hw2' hu2 e0 e1 e2 e3 e4
  go_wp2_with fail
  (with_reducible refine A3.out.mono ?_)
  rintro e W3 ⟨rfl, hb3, hw3, hu3⟩
  have hw3' := HW2.out.trans hw3
  have hu3' := HU2.out.trans hu3
  have c16 := C16.out W3 hw3'
  obtain ⟨e0, e1, e2, e3, e4⟩ := HV.out W3 hu3'
  have A4 := Lib.hid (padd1 ⟨#[41]⟩ B b _ W3 hb3 (Nat.le_trans hBw hw3'.size) (by simp [ByteArray.size]; omega))
  have HW3 := Lib.hid hw3'
  have HU3 := Lib.hid hu3'
  clear hb3 hw3 hw3' hu3 hu3'
  go_wp2_with fail
  refine wp_loop_rounds 1 ?_
  rw [rounds_succ]
  go_wp2_with fail
  (with_reducible refine A4.out.mono ?_)
  rintro e W4 ⟨rfl, hb4, hw4, hu4⟩
  have HW4 := Lib.hid (HW3.out.trans hw4)
  have HU4 := Lib.hid (HU.out.trans (HU3.out.trans hu4))
  rw [txtA_of] at hb4
  have HB4 := Lib.hid hb4
  clear hb4 hw4 hu4
  go_wp2_with fail
  go_end0
  exact ⟨rfl, HB4.out, HW4.out, HU4.out⟩
end Go.Proofs.YtdffhnfjcbnioaaDoor
