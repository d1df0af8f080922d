/-
  TokenSymbols' own walk.
-/
import Derived.Test.YtlpopbpddfegfaaS10
namespace Go.Proofs.Ytlpopbpddfegfaa
open Go.RowKit

set_option maxRecDepth 100000 in
set_option maxHeartbeats 2000000 in
theorem tokenSymbols_walk (s : ByteArray) (w : World) : Calls Try.prog 3 #[.string s] w fun e w' => e = .returned (.bool true) ∧ Below w.heap.size w w' := by
  have HA := Lib.hid awake_any
  by_cases hlt : 2000 < s.size
  · have hd : decide ((2000 : Int) < s.size) = true := by simp; omega
    go_enter Try.func3, Try.ntmps3
    go_wp2_with fail
    (with_reducible refine (HA.out _).mono ?_)
    rintro e w1 ⟨rfl, hb⟩
    have HB := Lib.hid hb
    clear hb
    go_wp2_with fail
    go_ret
    exact ⟨rfl, HB.out⟩
  · have hd : decide ((2000 : Int) < s.size) = false := by simp; omega
    have H1 := Lib.hid fun W => symbols_any s W (by omega)
    have H2 := Lib.hid fun W => refSymbols_any s W (by omega)
    have H3 := Lib.hid fun W => plain_any s W (by omega)
    have H4 := Lib.hid fun W => refPlain_any s W (by omega)
    obtain ⟨R, hR⟩ : ∃ R : ByteArray, (⟨(repl true s.data.toList).toArray⟩ : ByteArray) = R := ⟨_, rfl⟩
    have hRl : R.data.toList = repl true s.data.toList := by rw [← hR]
    have hRs : R.size ≤ 1000000 := by
      rw [Lib.size_eq, hRl]
      have := repl_length true s.data.toList.length s.data.toList (Nat.le_refl _)
      rw [← Lib.size_eq] at this
      omega
    have H5 := Lib.hid fun W => plain_any R W hRs
    simp only [hRl, plain_symbols_any] at H5
    obtain ⟨Q, hQ⟩ : ∃ Q : ByteArray, (⟨(repl false s.data.toList).toArray⟩ : ByteArray) = Q := ⟨_, rfl⟩
    simp only [hR] at H1 H2
    simp only [hQ] at H3 H4 H5
    clear hR hRl hRs hQ
    go_enter Try.func3, Try.ntmps3
    go_wp2_with fail
    (with_reducible refine (H1.out _).mono ?_)
    rintro e w1 ⟨rfl, hb1⟩
    have B1 := Lib.hid hb1
    clear hb1
    go_wp2_with fail
    (with_reducible refine (H2.out _).mono ?_)
    rintro e w2 ⟨rfl, hb2⟩
    have B2 := Lib.hid (B1.out.trans (hb2.mono B1.out.size))
    clear hb2
    go_wp2_with fail
    (with_reducible refine (H3.out _).mono ?_)
    rintro e w3 ⟨rfl, hb3⟩
    have B3 := Lib.hid (B2.out.trans (hb3.mono B2.out.size))
    clear hb3
    go_wp2_with fail
    (with_reducible refine (H4.out _).mono ?_)
    rintro e w4 ⟨rfl, hb4⟩
    have B4 := Lib.hid (B3.out.trans (hb4.mono B3.out.size))
    clear hb4
    go_wp2_with fail
    (with_reducible refine (H5.out _).mono ?_)
    rintro e w5 ⟨rfl, hb5⟩
    have B5 := Lib.hid (B4.out.trans (hb5.mono B4.out.size))
    clear hb5
    go_wp2_with fail
    (with_reducible refine (H3.out _).mono ?_)
    rintro e w6 ⟨rfl, hb6⟩
    have B6 := Lib.hid (B5.out.trans (hb6.mono B5.out.size))
    clear hb6
    go_wp2_with fail
    (with_reducible refine (HA.out _).mono ?_)
    rintro e w7 ⟨rfl, hb7⟩
    have B7 := Lib.hid (B6.out.trans (hb7.mono B6.out.size))
    clear hb7
    go_wp2_with fail
    go_ret
    exact ⟨rfl, B7.out⟩
end Go.Proofs.Ytlpopbpddfegfaa
