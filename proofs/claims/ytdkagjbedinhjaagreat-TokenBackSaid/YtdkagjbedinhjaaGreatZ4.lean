/-
  Write of any token that stands in a text, under keywords that are right.
-/
import Derived.Test.YtdkagjbedinhjaaGreatZ3
namespace Go.Proofs.YtdkagjbedinhjaaGreat
open Go.RowKit Go.Shelf

set_option maxRecDepth 100000 in
set_option maxHeartbeats 4000000 in
theorem Write_stands (hE : Escapes) (l : List ByteArray) (v : Value) (T : ByteArray) (x : Tk) (n : Nat) (w : World) (hv : HasStrs w v l) (h500 : l.length ≤ 500) (hc : kwCode [] l = 0) (hT : T.size ≤ 40000) (hst : Stands (inK l) T x n) :
    Calls Tryz.prog 11 #[v, tokV x.1 x.2.1 (x.2.2 : Int)] w fun e w' => e = .returned (.tuple #[.string (T.extract x.2.2 (x.2.2 + n)), .int .i64 0]) ∧ Below w.heap.size w w' := by
  obtain ⟨W, hW, hb0, ht, hl⟩ := tok_box w x.1 x.2.1 (x.2.2 : Int)
  have HK := Lib.hid (known_any l v W (hv.later hb0) h500)
  have HC := Lib.hid hc
  have HS := Lib.hid hst
  have HE := Lib.hid hE
  have HW := Lib.hid hW
  have HB0 := Lib.hid hb0
  have HT := Lib.hid ht
  have HL := Lib.hid hl
  clear hv hc hst hE hW hb0 ht hl
  go_enter Tryz.func11, Tryz.ntmps11
  go_wp2_with fail
  rw [HW.out]
  (with_reducible refine HK.out.mono ?_)
  rintro e w1 ⟨h, hb⟩
  have HB := Lib.hid (HB0.out.trans (hb.mono HB0.out.size))
  have HT1 := Lib.hid (HT.out.later hb (by rw [HL.out]; omega))
  rcases h with ⟨_, rfl, hm⟩ | ⟨h, _⟩
  · have HW := Lib.hid (write_stands HE.out W.heap.size (inK l) T x n w1 hm hT HS.out)
    clear hm hb
    obtain ⟨c0, c1, c2, f0, f1, f2⟩ := HT1.out.cells
    go_wp2_with fail
    (with_reducible refine HW.out.mono ?_)
    rintro e w2 ⟨rfl, hb2⟩
    have HB2 := Lib.hid (HB.out.trans (hb2.mono HB.out.size))
    clear hb2
    go_wp2_with fail
    go_ret2
    exact ⟨rfl, HB2.out⟩
  · exact absurd HC.out h
end Go.Proofs.YtdkagjbedinhjaaGreat
