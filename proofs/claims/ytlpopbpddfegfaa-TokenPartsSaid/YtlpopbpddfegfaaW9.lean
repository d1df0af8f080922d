/-
  TokenParts: the statement's walk.
-/
import Derived.Test.YtlpopbpddfegfaaW8
namespace Go.Proofs.Ytlpopbpddfegfaa
open Go.RowKit Go.Shelf

set_option maxRecDepth 100000 in
set_option maxHeartbeats 8000000 in
/-- The first text has an error. -/
theorem parts_bad (l : List ByteArray) (v : Value) (a b : ByteArray) (w : World) (hv : HasStrs w v l) (hbad : l.length ≤ 20 → a.size ≤ 400 → kwCode [] l ≠ 0 ∨ ∃ xs p code, tokR l a = (xs, some (p, code))) :
    Calls Try.prog 4 #[v, .string a, .string b] w fun e w' => e = .returned (.bool true) ∧ Below w.heap.size w w' := by
  have HF := Lib.hid (show Calls Try.prog 10 #[.int .i64 400, v, .string a] w _ from few_any l v a 400 (by decide) w hv)
  have HV := Lib.hid hv
  have HBD := Lib.hid hbad
  have HW := Lib.hid awake_any
  clear hv hbad
  go_enter Try.func4, Try.ntmps4
  go_wp2_with fail
  (with_reducible refine HF.out.mono ?_)
  rintro e w' ⟨⟨x, rfl, hx⟩, rfl⟩
  have HX := Lib.hid hx
  clear hx
  cases x with
  | false =>
    go_wp2_with fail
    (with_reducible refine (HW.out _).mono ?_)
    rintro e w1 ⟨rfl, hb⟩
    have HB := Lib.hid hb
    clear hb
    go_wp2_with fail
    go_ret
    exact ⟨rfl, HB.out⟩
  | true =>
    cases hd : decide ((400 : Int) < b.size) with
    | true =>
      go_wp2_with fail
      (with_reducible refine (HW.out _).mono ?_)
      rintro e w1 ⟨rfl, hb⟩
      have HB := Lib.hid hb
      clear hb
      go_wp2_with fail
      go_ret
      exact ⟨rfl, HB.out⟩
    | false =>
      obtain ⟨n1, n2⟩ := HX.out rfl
      have HS := Lib.hid (scan_bad l v a w HV.out (by omega) (by omega) (HBD.out n1 n2))
      go_wp2_with fail
      (with_reducible refine HS.out.mono ?_)
      rintro e w1 ⟨⟨p, code, hcode, rfl⟩, hb⟩
      have HB := Lib.hid hb
      clear hb
      go_wp2_with fail
      (with_reducible refine (HW.out _).mono ?_)
      rintro e w2 ⟨rfl, hb2⟩
      have HB2 := Lib.hid (HB.out.trans (hb2.mono HB.out.size))
      clear hb2
      go_wp2_with fail
      go_ret
      exact ⟨rfl, HB2.out⟩
end Go.Proofs.Ytlpopbpddfegfaa
