/-
  What writes the text of a proof: the proof by implication's introduction. Made by gen_a11.py.
-/
import Derived.Test.YtdffhnfjcbnioaaDoorA10
namespace Go.Proofs.YtdffhnfjcbnioaaDoor
open Go.RowKit

/-- The text of a proof of an implication from itself. -/
def txtI (nm tn : ByteArray) : List UInt8 := 40 :: [105, 109, 112, 73] ++ (32 :: 91 :: txtF nm tn ++ (93 :: 32 :: txtA nm tn ++ [41]))
theorem txtI_of (nm tn : ByteArray) (l : List UInt8) : (((((l ++ ((⟨#[40]⟩ : ByteArray).data.toList ++ (⟨#[105, 109, 112, 73]⟩ : ByteArray).data.toList)) ++ (⟨#[32]⟩ : ByteArray).data.toList) ++ (91 :: txtF nm tn ++ [93])) ++ (⟨#[32]⟩ : ByteArray).data.toList) ++ txtA nm tn) ++ (⟨#[41]⟩ : ByteArray).data.toList = l ++ txtI nm tn := by
  simp [txtI, List.append_assoc]

set_option maxRecDepth 100000 in
set_option maxHeartbeats 4000000 in
theorem pproof_impI (nm tn : ByteArray) (B b Bt pb po : Nat) (T : Pf) (l : List UInt8) (w : World) (h : IsBs 60 [.bool false] B b l w) (hBw : B ≤ w.heap.size) (hB0 : 0 < B) (hBt : Bt ≤ B) (hT : AtPf Bt w pb po T) (hK : Kinds w) (h0 : T.op = 4) (ht : T.tm = tmF nm tn) (K : Pf) (hkids : T.kids = [K]) (k0 : K.op = 3) (kt : K.tm = tmF nm tn) (kk : K.kids = [])
    (hm : nameB nm = true) (hn : nameB tn = true) (hs : tn.size ≤ 1000) (hs2 : nm.size ≤ 1000) (hlen : l.length ≤ 100000) :
    Calls Tryd.prog 15 #[.pointer (some ⟨b, 0, none⟩), .pointer (some ⟨pb, po, none⟩)] w fun e w' => e = .returned (.tuple #[]) ∧ IsBs 60 [.bool false] B b (l ++ txtI nm tn) w' ∧ Below B w w' ∧ KeepU b w w' := by
  have HN := Lib.hid (names_impI Bt pb po T w (by omega) hT hK h0)
  have hfl := txtF_len nm tn
  obtain ⟨hpb, c0, _, ct, _⟩ := hT.own
  obtain ⟨a, cap, kb, ko, _, c16, _, hka, hke⟩ := hT.kid
  have hka' := (hka (by rw [hkids]; simp)).1
  subst hka'
  have hke0 := hke 0 (by rw [hkids]; simp)
  simp only [hkids, List.getElem_cons_zero, Nat.zero_mul, Nat.mul_zero, Nat.add_zero] at hke0
  have HKe := Lib.hid hke0
  have HKi := Lib.hid hK
  rw [h0] at c0
  rw [ht] at ct
  rw [hkids] at c16
  simp only [List.length_cons, List.length_nil, Nat.zero_add] at c16
  obtain ⟨g0, g1, g2, g3, g4, g5⟩ := hK.imp
  simp only [Nat.reduceMul, Nat.reduceAdd] at g0 g1 g2 g3 g4 g5
  have HH := Lib.hid h
  have CF := Lib.hid fun W (hW : Below B w W) => (show W.cell? ⟨pb, po, none⟩ = some (.int .i64 4) from (hW.cell (p := ⟨pb, po, none⟩) (by show pb < B; omega)).trans c0)
  have C16 := Lib.hid fun W (hW : Below B w W) => (show W.cell? ⟨pb, po + 16, none⟩ = some (.slice (some ⟨kb, ko, none⟩) 1 cap) from (hW.cell (p := ⟨pb, po + 16, none⟩) (by show pb < B; omega)).trans c16)
  have G0 := Lib.hid fun W (hW : Below B w W) => (hW.cell (p := ⟨0, 24, none⟩) hB0).trans g0
  have G1 := Lib.hid fun W (hW : Below B w W) => (hW.cell (p := ⟨0, 25, none⟩) hB0).trans g1
  have G2 := Lib.hid fun W (hW : Below B w W) => (hW.cell (p := ⟨0, 26, none⟩) hB0).trans g2
  have G3 := Lib.hid fun W (hW : Below B w W) => (hW.cell (p := ⟨0, 27, none⟩) hB0).trans g3
  have G4 := Lib.hid fun W (hW : Below B w W) => (hW.cell (p := ⟨0, 28, none⟩) hB0).trans g4
  have G5 := Lib.hid fun W (hW : Below B w W) => (hW.cell (p := ⟨0, 29, none⟩) hB0).trans g5
  have CT := Lib.hid ct
  clear c0 c16 g0 g1 g2 g3 g4 g5 ct h hT hK h0 ht hkids hka hke hke0
  go_enter Tryd.func15, Tryd.ntmps15
  go_wp2_with fail
  (with_reducible refine HN.out.mono ?_)
  rintro e W ⟨rfl, hW⟩
  have hWB := hW.mono hBw
  have c0 := CF.out W hWB
  have g0 := G0.out W hWB
  have g1 := G1.out W hWB
  have g2 := G2.out W hWB
  have g3 := G3.out W hWB
  have g4 := G4.out W hWB
  have g5 := G5.out W hWB
  have hal : Below W.heap.size W (W.alloc (.cells #[.string ⟨#[105, 109, 112, 73]⟩, .bool false, .bool true, .bool false, .bool false, .int .i64 1] 67)) := (Below.refl _ W).alloc (Nat.le_refl _) _
  have hz : (W.alloc (.cells #[.string ⟨#[105, 109, 112, 73]⟩, .bool false, .bool true, .bool false, .bool false, .int .i64 1] 67)).heap.size = W.heap.size + 1 := by simp
  have hrow : (W.alloc (.cells #[.string ⟨#[105, 109, 112, 73]⟩, .bool false, .bool true, .bool false, .bool false, .int .i64 1] 67)).heap[W.heap.size]? = some (.cells (kindRow ⟨#[105, 109, 112, 73]⟩ 1) 67 (0, 0)) := Go.heap_alloc_new W _
  have hbW := HH.out.below hW
  have hbl := hbW.lt
  have HV := Lib.hid fun W' (hu : KeepU b (W.alloc (.cells #[.string ⟨#[105, 109, 112, 73]⟩, .bool false, .bool true, .bool false, .bool false, .int .i64 1] 67)) W') => kindRow_cells ((hu W.heap.size _ _ _ (by omega) hrow (by decide)).trans hrow)
  have a1 := padd2 ⟨#[40]⟩ ⟨#[105, 109, 112, 73]⟩ B b l _ (hbW.below hal) (Nat.le_trans hBw (Nat.le_trans hW.size hal.size)) (by simp [ByteArray.size]; omega)
  rw [hz] at a1
  have A1 := Lib.hid a1
  have HW := Lib.hid (hWB.trans (hal.mono (Nat.le_trans hBw hW.size)))
  have HU := Lib.hid ((KeepU.below hW (b := b)).trans (KeepU.below hal))
  have HR := Lib.hid (KeepU.refl b (W.alloc (.cells #[.string ⟨#[105, 109, 112, 73]⟩, .bool false, .bool true, .bool false, .bool false, .int .i64 1] 67)))
  clear hW hWB hal hz hrow hbW hbl a1
  go_wp2_with fail
  (with_reducible refine A1.out.mono ?_)
  rintro e W1 ⟨rfl, hb1, hw1, hu1⟩
  obtain ⟨e0, e1, e2, e3, e4⟩ := HV.out W1 hu1
  have A2 := Lib.hid (padd1 ⟨#[32]⟩ B b _ W1 hb1 (Nat.le_trans hBw (Nat.le_trans HW.out.size hw1.size)) (by simp [ByteArray.size]; omega))
  have HW1 := Lib.hid (HW.out.trans hw1)
  have HU1 := Lib.hid hu1
  clear hb1 hw1 c0 g0 g1 g2 g3 g4 g5 hu1
  go_wp2_with fail
  (with_reducible refine A2.out.mono ?_)
  rintro e W2 ⟨rfl, hb2, hw2, hu2⟩
  have hw2' := HW1.out.trans hw2
  have A3 := Lib.hid (pterm_free nm tn B b Bt pb (po + 2) _ W2 hb2 (Nat.le_trans hBw hw2'.size) (Nat.le_trans hBt (Nat.le_trans hBw hw2'.size)) (CT.out.later (hw2'.mono hBt) (Nat.le_refl _)) hm hn hs hs2 (by simp [ByteArray.size]; omega))
  have HW2 := Lib.hid hw2'
  have HU2 := Lib.hid (HU1.out.trans hu2)
  clear hb2 hw2 hw2' hu2 e0 e1 e2 e3 e4
  go_wp2_with fail
  (with_reducible refine A3.out.mono ?_)
  rintro e W3 ⟨rfl, hb3, hw3, hu3⟩
  have hw3' := HW2.out.trans hw3
  have hu3' := HU2.out.trans hu3
  have c16 := C16.out W3 hw3'
  obtain ⟨e0, e1, e2, e3, e4⟩ := HV.out W3 hu3'
  have A4 := Lib.hid (padd1 ⟨#[32]⟩ B b _ W3 hb3 (Nat.le_trans hBw hw3'.size) (by simp [ByteArray.size]; omega))
  have HW3 := Lib.hid hw3'
  have HU3 := Lib.hid hu3'
  clear hb3 hw3 hw3' hu3 hu3'
  go_wp2_with fail
  refine wp_loop_rounds 2 ?_
  rw [rounds_succ]
  go_wp2_with fail
  (with_reducible refine A4.out.mono ?_)
  rintro e W5 ⟨rfl, hb5, hw5, hu5⟩
  have hw5' := HW3.out.trans hw5
  have c16' := C16.out W5 hw5'
  have A5 := Lib.hid (pproof_assume nm tn B b Bt kb ko K _ W5 hb5 (Nat.le_trans hBw hw5'.size) hB0 hBt (HKe.out.later (hw5'.mono hBt) (Nat.le_refl _)) (HKi.out.laterB hB0 hw5') k0 kt kk hm hn hs hs2 (by simp [ByteArray.size]; omega))
  have HW5 := Lib.hid hw5'
  have HU5 := Lib.hid (HU3.out.trans hu5)
  clear hb5 hw5 hw5' hu5 c16
  go_wp2_with fail
  (with_reducible refine A5.out.mono ?_)
  rintro e W6 ⟨rfl, hb6, hw6, hu6⟩
  have hw6' := HW5.out.trans hw6
  have A6 := Lib.hid (padd1 ⟨#[41]⟩ B b _ W6 hb6 (Nat.le_trans hBw hw6'.size) (by simp [ByteArray.size, txtA]; omega))
  have HW6 := Lib.hid hw6'
  have HU6 := Lib.hid (HU5.out.trans hu6)
  clear hb6 hw6 hw6' hu6 c16'
  go_wp2_with fail
  rw [rounds_succ]
  go_wp2_with fail
  (with_reducible refine A6.out.mono ?_)
  rintro e W4 ⟨rfl, hb4, hw4, hu4⟩
  have HW4 := Lib.hid (HW6.out.trans hw4)
  have HU4 := Lib.hid (HU.out.trans (HU6.out.trans hu4))
  rw [txtI_of] at hb4
  have HB4 := Lib.hid hb4
  clear hb4 hw4 hu4
  go_wp2_with fail
  go_end0
  exact ⟨rfl, HB4.out, HW4.out, HU4.out⟩
end Go.Proofs.YtdffhnfjcbnioaaDoor
