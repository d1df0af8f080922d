/-
  TokenParts: the second text has an error.
-/
import Derived.Test.YtlpopbpddfegfaaW9
namespace Go.Proofs.Ytlpopbpddfegfaa
open Go.RowKit Go.Shelf

theorem glue_of (a b : ByteArray) : Glue (a ++ ⟨#[10]⟩ ++ b) a b := ⟨by simp⟩
theorem glue_size (a b : ByteArray) : (a ++ ⟨#[10]⟩ ++ b).size = a.size + 1 + b.size := (glue_of a b).size

set_option maxRecDepth 100000 in
set_option maxHeartbeats 8000000 in
theorem parts_err (l : List ByteArray) (v : Value) (a b : ByteArray) (w : World) (hv : HasStrs w v l) (hk : kwCode [] l = 0) {xs ys : List Tk} {p : Nat} {code : Int} (ha : tokR l a = (xs, none)) (hb : tokR l b = (ys, some (p, code))) :
    Calls Try.prog 4 #[v, .string a, .string b] w fun e w' => e = .returned (.bool true) ∧ Below w.heap.size w w' := by
  have HF := Lib.hid (show Calls Try.prog 10 #[.int .i64 400, v, .string a] w _ from few_any l v a 400 (by decide) w hv)
  have HV := Lib.hid hv
  have HK := Lib.hid hk
  have HA := Lib.hid ha
  have HBR := Lib.hid hb
  have hc := scan_code _ _ _ _ _ _ _ (Nat.zero_le _) hb
  have hcode : (code == 0) = false := beq_eq_false_iff_ne.2 hc.1
  have HP := Lib.hid hc.2
  have hs : tokR l (a ++ ⟨#[10]⟩ ++ b) = (xs ++ ys.map (shT (a.size + 1)), some (a.size + 1 + p, code)) := by
    unfold tokR
    rw [scan_glue (glue_of a b) _ ha, show scanR (inK l) b = (ys, some (p, code)) from hb]
    rfl
  have HS := Lib.hid hs
  have HW := Lib.hid awake_any
  clear hv hk ha hb hc hs
  go_enter Try.func4, Try.ntmps4
  go_wp2_with fail
  (with_reducible refine HF.out.mono ?_)
  rintro e w' ⟨⟨x, rfl, hx⟩, rfl⟩
  have HX := Lib.hid hx
  clear hx
  cases x with
  | false =>
    go_wp2_with fail
    (with_reducible refine (HW.out _).mono ?_)
    rintro e w1 ⟨rfl, hb⟩
    have HB := Lib.hid hb
    clear hb
    go_wp2_with fail
    go_ret
    exact ⟨rfl, HB.out⟩
  | true =>
    cases hd : decide ((400 : Int) < b.size) with
    | true =>
      go_wp2_with fail
      (with_reducible refine (HW.out _).mono ?_)
      rintro e w1 ⟨rfl, hb⟩
      have HB := Lib.hid hb
      clear hb
      go_wp2_with fail
      go_ret
      exact ⟨rfl, HB.out⟩
    | false =>
      obtain ⟨n1, n2⟩ := HX.out rfl
      have n3 : b.size ≤ 400 := by simp at hd; omega
      have hp := HP.out
      have HN := Lib.hid n1
      have HS1 := Lib.hid (scan_good l v a w HV.out (by omega) (by omega) HK.out HA.out)
      go_wp2_with fail
      (with_reducible refine HS1.out.mono ?_)
      rintro e w1 ⟨⟨u, rfl, _⟩, hb⟩
      have HB := Lib.hid hb
      have HS2 := Lib.hid (scan_err l v b w1 (HV.out.later hb) (by omega) (by omega) HK.out HBR.out)
      clear hb
      go_wp2_with fail
      (with_reducible refine HS2.out.mono ?_)
      rintro e w2 ⟨rfl, hb2⟩
      have HB2 := Lib.hid (HB.out.trans (hb2.mono HB.out.size))
      have HS3 := Lib.hid (scan_err l v (a ++ ⟨#[10]⟩ ++ b) w2 (HV.out.later HB2.out) (by omega) (by rw [glue_size]; omega) HK.out HS.out)
      clear hb2
      go_wp2_with fail
      (with_reducible refine HS3.out.mono ?_)
      rintro e w3 ⟨rfl, hb3⟩
      have HB3 := Lib.hid (HB2.out.trans (hb3.mono HB2.out.size))
      have heq : (((a.size + 1 + p : Nat) : Int) == (p : Int) + a.size + 1) = true := by rw [beq_iff_eq]; omega
      clear hb3
      go_wp2_with fail
      (with_reducible refine (HW.out _).mono ?_)
      rintro e w4 ⟨rfl, hb4⟩
      have HB4 := Lib.hid (HB3.out.trans (hb4.mono HB3.out.size))
      clear hb4
      go_wp2_with fail
      go_ret
      exact ⟨rfl, HB4.out⟩
end Go.Proofs.Ytlpopbpddfegfaa
