/-
  What writes the text of a proof: a term in brackets.
-/
import Derived.Test.YtdffhnfjcbnioaaDoorA7
import Derived.Test.YtdffhnfjcbnioaaDoorP8
namespace Go.Proofs.YtdffhnfjcbnioaaDoor
open Go.RowKit

set_option maxRecDepth 100000 in
set_option maxHeartbeats 4000000 in
theorem pterm_free (nm tn : ByteArray) (B b Bt tb to : Nat) (l : List UInt8) (w : World) (h : IsBs 60 [.bool false] B b l w) (hBw : B ≤ w.heap.size) (hBt : Bt ≤ w.heap.size) (hT : AtTm Bt w tb to (tmF nm tn)) (hm : nameB nm = true) (hn : nameB tn = true) (hs : tn.size ≤ 1000) (hs2 : nm.size ≤ 1000) (hlen : l.length ≤ 300000) :
    Calls Tryd.prog 23 #[.pointer (some ⟨b, 0, none⟩), .pointer (some ⟨tb, to, none⟩)] w fun e w' => e = .returned (.tuple #[]) ∧ IsBs 60 [.bool false] B b (l ++ (91 :: txtF nm tn ++ [93])) w' ∧ Below B w w' ∧ KeepU b w w' := by
  obtain ⟨sa, sc, ta, tc, ka, kc, _, t0, t1, t2, t3, t4, t5, t6, t7, t8, tv⟩ := hT.val
  simp only [tmF, tyC, Tm.op, Tm.name, Tm.num, Tm.ty, Tm.kids, Ty.op, Ty.name, Ty.index, Ty.sort, Ty.args, List.length_nil] at t0 t1 t2 t3 t4 t5 t6 t7 t8 tv
  have HTx := Lib.hid (ttext_free nm tn Bt _ w hBt tv hm hn hs hs2)
  have HH := Lib.hid h
  have hcat : catB [⟨#[91]⟩, ⟨(txtF nm tn).toArray⟩, ⟨#[93]⟩] = 91 :: txtF nm tn ++ [93] := by simp [catB]
  have hlt2 : (txtF nm tn).length ≤ 3000 := by simp [txtF]; omega
  have hAdd := Lib.hid fun W (hW : Below w.heap.size w W) => by
    have hal : Below W.heap.size W (W.alloc (.cells #[.string ⟨#[91]⟩, .string ⟨(txtF nm tn).toArray⟩, .string ⟨#[93]⟩] 9)) := (Below.refl _ W).alloc (Nat.le_refl _) _
    have hlt : b < W.heap.size := Nat.lt_of_lt_of_le HH.out.lt hW.size
    have hh := padd_strs B b W.heap.size 3 l [⟨#[91]⟩, ⟨(txtF nm tn).toArray⟩, ⟨#[93]⟩] (W.alloc (.cells #[.string ⟨#[91]⟩, .string ⟨(txtF nm tn).toArray⟩, .string ⟨#[93]⟩] 9)) ((HH.out.below hW).below hal) (Nat.le_trans hBw (Nat.le_trans hW.size hal.size)) (heap_alloc_new W _) (by omega) (by simp) (by rw [hcat]; simp; omega) (by simp)
    rw [hcat] at hh
    simp only [List.length_cons, List.length_nil, Nat.zero_add, Nat.reduceAdd] at hh
    exact hh
  clear tv h hcat hlt2 hT
  go_enter Tryd.func23, Tryd.ntmps23
  go_wp2_with fail
  (with_reducible refine HTx.out.mono ?_)
  rintro e W ⟨rfl, hW⟩
  have HAd := Lib.hid (hAdd.out W hW)
  have HW := Lib.hid hW
  clear hW
  go_wp2_with fail
  (with_reducible refine HAd.out.mono ?_)
  rintro e W2 ⟨rfl, hb2, hbw2, hu2⟩
  have hal : Below W.heap.size W (W.alloc (.cells #[.string ⟨#[91]⟩, .string ⟨(txtF nm tn).toArray⟩, .string ⟨#[93]⟩] 9)) := (Below.refl _ W).alloc (Nat.le_refl _) _
  have H1 := Lib.hid ((HW.out.mono hBw).trans ((hal.mono (Nat.le_trans hBw HW.out.size)).trans hbw2))
  have H2 := Lib.hid ((KeepU.below HW.out (b := b)).trans ((KeepU.below hal).trans hu2))
  have H3 := Lib.hid hb2
  clear hal hb2 hbw2 hu2
  go_wp2_with fail
  go_end0
  exact ⟨rfl, H3.out, H1.out, H2.out⟩
end Go.Proofs.YtdffhnfjcbnioaaDoor
