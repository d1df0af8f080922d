/-
  awake answers true.
-/
import Derived.Test.YtdffhnfjcbnioaaDoorA16
namespace Go.Proofs.YtdffhnfjcbnioaaDoor
open Go.RowKit

set_option maxRecDepth 100000 in
set_option maxHeartbeats 4000000 in
theorem awake_true (w : World) (hK : Kinds w) :
    Calls Tryd.prog 5 #[] w fun e w' => e = .returned (.bool true) ∧ Below w.heap.size w w' := by
  have HPr := Lib.hid (prop_ok w)
  have HK := Lib.hid hK
  clear hK
  go_enter Tryd.func5, Tryd.ntmps5
  go_wp2_with fail
  (with_reducible refine HPr.out.mono ?_)
  rintro e W ⟨rfl, hW⟩
  obtain ⟨V, hV, bV, k1, k2, n1, n2, KV⟩ := awake_laid W (HK.out.later hW)
  have HTx := ptext_I (W.heap.size + 1) V 36 k1 n1 KV
  rw [awake_text] at HTx
  have HSz := Lib.hid fun V' (h : Below V.heap.size V V') => psize_I (W.heap.size + 1) V' 36 (Nat.lt_of_lt_of_le k1 h.size) ((h.block _ k1).trans n1)
  have HRa := Lib.hid fun V' (h : Below V.heap.size V V') => (show V'.rangeAt (W.heap.size + 1 + 1) 0 (pcA 4 (some ⟨W.heap.size + 1, 0, none⟩) 1 1).toList from fun j v hv => by
    rw [Lib.cell_of_heap ((h.block _ k2).trans n2), Nat.zero_add, ← hv, Array.getElem?_toList])
  have HWV := Lib.hid (hW.trans (bV.mono hW.size))
  unfold pcA at hV HTx HSz HRa
  have HV := Lib.hid hV
  have HT := Lib.hid HTx
  clear hW hV bV k1 k2 n1 n2 KV HTx
  go_wp2_with fail
  rw [HV.out]
  (with_reducible refine HT.out.mono ?_)
  rintro e V1 ⟨rfl, hV1⟩
  have HR1 := Lib.hid (HRa.out V1 hV1)
  have HS1 := Lib.hid (HSz.out V1 hV1)
  have HV1 := Lib.hid (HWV.out.trans (hV1.mono HWV.out.size))
  clear hV1
  go_wp2_with (refine wpList_load_mid (op := ⟨some 20, .load 36 (.tmp 2), _, _, _, _⟩) rfl 36 (.tmp 2) rfl (W.heap.size + 1 + 1) 0 rfl [.int .i64 4, .string ⟨#[]⟩, .int .i64 2, .string ⟨#[65]⟩, .int .i64 0, .int .i64 1, .string ⟨#[112, 114, 111, 112]⟩, .int .i64 0, .slice none 0 0, .slice none 0 0, .slice none 0 0, .slice none 0 0, .slice none 0 0, .slice none 0 0, .slice none 0 0, .int .i64 0, .slice (some ⟨W.heap.size + 1, 0, none⟩) 1 1] _ HR1.out Tryd.underlying36 rfl (by kernel_rfl) ?_)
  (with_reducible refine HS1.out.mono ?_)
  rintro e V2 ⟨rfl, hV2⟩
  have HV2 := Lib.hid (HV1.out.trans (hV2.mono HV1.out.size))
  clear hV2
  have HZ := Lib.hid (check_zero V2)
  go_wp2_with fail
  (with_reducible refine HZ.out.mono ?_)
  rintro e V3 ⟨rfl, hV3⟩
  have HV3 := Lib.hid (HV2.out.trans (hV3.mono HV2.out.size))
  clear hV3
  go_wp2_with fail
  go_ret
  exact ⟨rfl, HV3.out⟩
end Go.Proofs.YtdffhnfjcbnioaaDoor
