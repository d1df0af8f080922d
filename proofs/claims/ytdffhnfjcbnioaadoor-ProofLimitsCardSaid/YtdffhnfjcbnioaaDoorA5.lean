/-
  What writes the text of a term: the type, and a fixed variable.
-/
import Derived.Test.YtdffhnfjcbnioaaDoorA4
namespace Go.Proofs.YtdffhnfjcbnioaaDoor
open Go.RowKit

theorem tm_val_lt {B : Nat} {W : World} {b o : Nat} {T : Ty} (h : AtTy B W b o T) : b < B := h.lt

set_option maxRecDepth 100000 in
set_option maxHeartbeats 4000000 in
theorem wtyp_con (tn : ByteArray) (B b Bt tb to : Nat) (l : List UInt8) (w : World) (h : IsBs 126 [] B b l w) (hBw : B ≤ w.heap.size) (hBt : Bt ≤ w.heap.size) (hT : AtTy Bt w tb to (tyC tn)) (hn : nameB tn = true) (hs : tn.size ≤ 1000) (hlen : l.length ≤ 30000) :
    Calls Tryd.prog 83 #[.pointer (some ⟨b, 0, none⟩), .pointer (some ⟨tb, to, none⟩)] w fun e w' => e = .returned (.tuple #[]) ∧ IsBs 126 [] B b (l ++ (58 :: tn.data.toList)) w' ∧ Below B w w' ∧ KeepU b w w' := by
  obtain ⟨sa, sc, a, cap, hb, c0, c1, c2, c3, c4, hv⟩ := hT.val
  simp only [tyC, Ty.op, Ty.name, Ty.index, Ty.sort, Ty.args, List.length_nil] at c0 c1 c2 c3 c4 hv
  have HTx := Lib.hid (text_con tn Bt _ w hBt hv hn hs)
  have HH := Lib.hid h
  have hcat : catB [⟨#[58]⟩, tn] = 58 :: tn.data.toList := by simp [catB]
  have hAdd := Lib.hid fun W (hW : Below w.heap.size w W) => by
    have hal : Below W.heap.size W (W.alloc (.cells #[.string ⟨#[58]⟩, .string tn] 9)) := (Below.refl _ W).alloc (Nat.le_refl _) _
    have hlt : b < W.heap.size := Nat.lt_of_lt_of_le HH.out.lt hW.size
    have hh := tadd_strs B b W.heap.size 2 l [⟨#[58]⟩, tn] (W.alloc (.cells #[.string ⟨#[58]⟩, .string tn] 9)) ((HH.out.below hW).below hal) (Nat.le_trans hBw (Nat.le_trans hW.size hal.size)) (heap_alloc_new W _) (by omega) (by simp) (by rw [hcat]; simp; omega) (by simp)
    rw [hcat] at hh
    simp only [List.length_cons, List.length_nil, Nat.zero_add, Nat.reduceAdd] at hh
    exact hh
  clear hv h hcat
  go_enter Tryd.func83, Tryd.ntmps83
  go_wp2_with fail
  (with_reducible refine HTx.out.mono ?_)
  rintro e W ⟨rfl, hW⟩
  have HAd := Lib.hid (hAdd.out W hW)
  have HW := Lib.hid hW
  clear hW
  go_wp2_with fail
  (with_reducible refine HAd.out.mono ?_)
  rintro e W2 ⟨rfl, hb2, hbw2, hu2⟩
  have hal : Below W.heap.size W (W.alloc (.cells #[.string ⟨#[58]⟩, .string tn] 9)) := (Below.refl _ W).alloc (Nat.le_refl _) _
  have H1 := Lib.hid ((HW.out.mono hBw).trans ((hal.mono (Nat.le_trans hBw HW.out.size)).trans hbw2))
  have H2 := Lib.hid ((KeepU.below HW.out (b := b)).trans ((KeepU.below hal).trans hu2))
  have H3 := Lib.hid hb2
  clear hal hb2 hbw2 hu2
  go_wp2_with fail
  go_end0
  exact ⟨rfl, H3.out, H1.out, H2.out⟩

/-- The text of a fixed variable. -/
def txtF (nm tn : ByteArray) : List UInt8 := 36 :: nm.data.toList ++ 58 :: tn.data.toList

set_option maxRecDepth 100000 in
set_option maxHeartbeats 4000000 in
theorem wterm_free (nm tn : ByteArray) (B b Bt tb to : Nat) (w : World) (h : IsBs 126 [] B b [] w) (hBw : B ≤ w.heap.size) (hBt : Bt ≤ B) (hT : AtTm Bt w tb to (tmF nm tn)) (hn : nameB tn = true) (hs : tn.size ≤ 1000) (hs2 : nm.size ≤ 1000) :
    Calls Tryd.prog 70 #[.pointer (some ⟨b, 0, none⟩), .pointer (some ⟨tb, to, none⟩)] w fun e w' => e = .returned (.tuple #[]) ∧ IsBs 126 [] B b (txtF nm tn) w' ∧ Below B w w' ∧ KeepU b w w' := by
  obtain ⟨_, _, op, num, nm, ty, kids, a, cap, kb, ko, hb, c0, c1, c2, ct, c8, hop, hnum, hnm, hl, hk, he⟩ := hT
  have HH := Lib.hid h
  have hcat : catB [⟨#[36]⟩, nm] = 36 :: nm.data.toList := by simp [catB]
  have hal : Below w.heap.size w (w.alloc (.cells #[.string ⟨#[36]⟩, .string nm] 9)) := (Below.refl _ w).alloc (Nat.le_refl _) _
  have hh := tadd_strs B b w.heap.size 2 [] [⟨#[36]⟩, nm] (w.alloc (.cells #[.string ⟨#[36]⟩, .string nm] 9)) (h.below hal) (Nat.le_trans hBw hal.size) (heap_alloc_new w _) (by have := h.lt; omega) (by simp) (by rw [hcat]; simp; omega) (by simp)
  rw [hcat] at hh
  simp only [List.length_cons, List.length_nil, Nat.zero_add, Nat.reduceAdd, List.nil_append] at hh
  have HAd := Lib.hid hh
  have HTy := Lib.hid fun W (hW : Below B w W) (hi : IsBs 126 [] B b (36 :: nm.data.toList) W) => wtyp_con tn B b Bt tb (to + 3) (36 :: nm.data.toList) W hi (Nat.le_trans hBw hW.size) (Nat.le_trans (Nat.le_trans hBt hBw) hW.size) (ct.later (hW.mono hBt) (Nat.le_refl _)) hn hs (by simp; omega)
  have HAL := Lib.hid hal
  have HC := Lib.hid c0
  clear hh hcat h ct c2 c8 hk he hop hnum hnm hl hal
  go_enter Tryd.func70, Tryd.ntmps70
  go_wp2_with fail
  (with_reducible refine HAd.out.mono ?_)
  rintro e W ⟨rfl, hb2, hbw2, hu2⟩
  have hB1 := (HAL.out.mono hBw).trans hbw2
  have HT2 := Lib.hid (HTy.out W hB1 hb2)
  have HB1 := Lib.hid hB1
  have HU1 := Lib.hid ((KeepU.below HAL.out (b := b)).trans hu2)
  clear hB1 hb2 hbw2 hu2
  go_wp2_with fail
  (with_reducible refine HT2.out.mono ?_)
  rintro e W2 ⟨rfl, hb3, hbw3, hu3⟩
  have H1 := Lib.hid (HB1.out.trans hbw3)
  have H2 := Lib.hid (HU1.out.trans hu3)
  have H3 := Lib.hid hb3
  clear hb3 hbw3 hu3
  go_wp2_with fail
  go_end0
  exact ⟨rfl, H3.out, H1.out, H2.out⟩
end Go.Proofs.YtdffhnfjcbnioaaDoor
