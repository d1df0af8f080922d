/-
  The meter of proofs: whatever the tree: it counts all nodes, or gives up as soon as there are too many.
-/
import Derived.Test.YtdffhnfjcbnioaaDoorP1
import Derived.Test.YtdffhnfjcbnioaaDoorC7
import Derived.Test.YtdffhnfjcbnioaaDoorC4
namespace Go.Proofs.YtdffhnfjcbnioaaDoor
open Go.RowKit

/-- What the meter answers, and what it holds then. -/
def pMet (mb : Nat) (n d most dp : Int) (T : Pf) (w : World) (e : Ending) (w' : World) : Prop :=
  ((e = .returned (.bool true) ∧ n + (T.nodes : Int) ≤ most ∧ MeterAt mb (n + T.nodes) (max d (dp + T.depth - 1)) most w') ∨ (e = .returned (.bool false) ∧ most < n + (T.nodes : Int) ∧ ∃ d', MeterAt mb (most + 1) d' most w')) ∧ Below mb w w' ∧ Keep3 mb w w'

set_option maxRecDepth 100000 in
set_option maxHeartbeats 4000000 in
theorem padd_any (N : Nat) : ∀ (B mb b o : Nat) (T : Pf) (n d most dp : Int) (w : World), T.sz < N → B ≤ mb → AtPf B w b o T → MeterAt mb n d most w → 0 ≤ n → n ≤ most → most ≤ 9223372036854775807 → (most < 9223372036854775807 ∨ n + (T.nodes : Int) ≤ most) → 1 ≤ dp → dp + T.depth ≤ 1000000000 →
    Calls Tryd.prog 10 #[.pointer (some ⟨mb, 0, none⟩), .pointer (some ⟨b, o, none⟩), .int .i64 dp] w (pMet mb n d most dp T w) := by
  induction N with
  | zero => intro B mb b o T n d most dp w hN; omega
  | succ N ih =>
  intro B mb b o T n d most dp w hN hB hT hm h0 h1 h2 h2' h3 h4
  have IH := Lib.hid ih
  clear ih
  obtain ⟨a, cap, kb, ko, hb, k4, hl, ha, he⟩ := hT.kid
  have hnk := Pf.nodes_kids T
  have hdk := Pf.depth_kids T
  have K4 := Lib.hid fun W (h : Below mb w W) => (h.cell (p := ⟨b, o + 16, none⟩) (by show b < mb; omega)).trans k4
  have HA := Lib.hid ha
  have HE := Lib.hid he
  have hs := meter_set (n + 1) (max d dp) hm
  have hbs : Below mb w ((w.setCell ⟨mb, 0, none⟩ (.int .i64 (n + 1))).setCell ⟨mb, 1, none⟩ (.int .i64 (max d dp))) := ((Below.refl mb w).setCell (p := ⟨mb, 0, none⟩) (Nat.le_refl _) _).setCell (p := ⟨mb, 1, none⟩) (Nat.le_refl _) _
  have hk3 := Keep3.set2 mb w (.int .i64 (n + 1)) (.int .i64 (max d dp))
  obtain ⟨c0, c1, c2, f0, f1⟩ := hm
  have kw := K4.out _ hbs
  obtain ⟨mx, hmx⟩ : ∃ mx, max d dp = mx := ⟨_, rfl⟩
  rw [hmx] at hs hbs kw hk3
  have HMX := Lib.hid hmx
  have HS := Lib.hid hs
  have HB := Lib.hid hbs
  have HK := Lib.hid hk3
  have HN := Lib.hid hnk
  have HD := Lib.hid hdk
  have hn1 : n < 9223372036854775807 := by have := Pf.nodes_pos T; omega
  clear hk3 hs hbs hmx ha he k4 hnk hdk hT
  have hcase : (d < dp ∧ mx = dp) ∨ (¬ d < dp ∧ mx = d) := by have := HMX.out; omega
  obtain ⟨dd, hdd⟩ : ∃ dd : Int, dd = d := ⟨_, rfl⟩
  obtain ⟨pp, hpp⟩ : ∃ pp : Int, pp = dp := ⟨_, rfl⟩
  have HDD := Lib.hid hdd
  have HPP := Lib.hid hpp
  clear hdd hpp
  rcases hcase with ⟨hd, rfl⟩ | ⟨hd, rfl⟩
  all_goals
    go_enter Tryd.func10, Tryd.ntmps10
    go_wp2_with fail
    generalize (w.setCell ⟨mb, 0, none⟩ (.int .i64 (n + 1))).setCell ⟨mb, 1, none⟩ (.int .i64 mx) = W2 at *
    obtain ⟨d0, d1, d2, g0, g1⟩ := HS.out
    by_cases hgt : most < n + 1
    · go_quiet (fail)
      go_wp2_with fail
      go_ret
      have hmost : n = most := by omega
      refine ⟨.inr ⟨rfl, by have := HN.out; have := Pf.nodes_pos T; omega, mx, ?_⟩, below_drewN HB.out _, HK.out.drewN _⟩
      exact hmost ▸ HS.out.drewN _
    · go_quiet (fail)
      go_wp2_with fail
      generalize hW3 : W2.drewN _ = W3 at *
      have HB3 := Lib.hid (show Below mb w W3 from hW3 ▸ below_drewN HB.out _)
      have HK3 := Lib.hid (show Keep3 mb w W3 from hW3 ▸ HK.out.drewN _)
      have HS3 := Lib.hid (show MeterAt mb (n + 1) mx most W3 from hW3 ▸ HS.out.drewN _)
      clear hW3 d0 d1 d2 g0 g1
      go_loopw [38] (fun t wr => ∃ k : Nat, t = .int .i64 k ∧ k ≤ T.kids.length ∧ n + 1 + (Pf.nodesL (T.kids.take k) : Int) ≤ most ∧ MeterAt mb (n + 1 + Pf.nodesL (T.kids.take k)) (max dd (pp + Pf.depthL (T.kids.take k))) most wr ∧ Below mb w wr ∧ Keep3 mb w wr) (fun t _ => T.kids.length - (intOf t).toNat)
      case atStart =>
        refine ⟨0, rfl, Nat.zero_le _, by simp [Pf.nodesL]; omega, ?_, HB3.out, HK3.out⟩
        have := HS3.out
        rw [← HMX.out, ← HDD.out, ← HPP.out] at this
        simpa [Pf.nodesL, Pf.depthL] using this
      case round =>
        obtain ⟨k, rfl, hk, hle, hmr, hbr, hkr⟩ := hrel
        have kr := K4.out wr hbr
        by_cases hlt : k < T.kids.length
        · obtain ⟨rfl, hab⟩ := HA.out (by intro e; rw [e] at hlt; simp at hlt)
          have e1 := Pf.nodesL_take T.kids k hlt
          have e2 := Pf.depthL_take T.kids k hlt
          have e3 := Pf.nodesL_le T.kids (k + 1)
          have e4 := Pf.depthL_le T.kids (k + 1)
          have hnT := HN.out
          have hdT := HD.out
          have hdp := Pf.depth_pos T.kids[k]
          have hc0 := (IH.out B mb kb (ko + k * 17) T.kids[k] (n + 1 + Pf.nodesL (T.kids.take k)) (max dd (pp + Pf.depthL (T.kids.take k))) most (pp + 1) wr (by have := T.sz_kid k hlt; omega) hB
            (AtPf.later (hbr.mono hB) (Nat.le_refl _) (HE.out k hlt)) hmr (by omega) hle h2 (by omega) (by have := HPP.out; omega) (by have := HPP.out; omega))
          rw [HPP.out] at hc0
          have hc := Lib.hid hc0
          clear hc0
          have E1 := Lib.hid e1
          have E2 := Lib.hid e2
          have E3 := Lib.hid e3
          clear e1 e2 e3 e4 hnT hdT hmr
          go_wp2_with fail
          refine hc.out.mono ?_
          rintro e W4 ⟨(⟨rfl, hfit, hm2⟩ | ⟨rfl, hover, d', hm2⟩), hb2, hk2⟩
          · rw [← HPP.out] at hm2
            have HF := Lib.hid hfit
            have HM2 := Lib.hid hm2
            clear hfit hm2
            go_wp2_with fail
            go_roundw
            case rel =>
              have q1 : n + 1 + (Pf.nodesL (T.kids.take (k + 1)) : Int) = n + 1 + (Pf.nodesL (T.kids.take k) : Int) + (Pf.nodes T.kids[k] : Int) := by rw [E1.out]; omega
              have q2 : max dd (pp + (Pf.depthL (T.kids.take (k + 1)) : Int)) = max (max dd (pp + (Pf.depthL (T.kids.take k) : Int))) (pp + 1 + (Pf.depth T.kids[k] : Int) - 1) := by rw [E2.out]; omega
              refine ⟨k + 1, by go_num, by omega, ?_, ?_, hbr.trans hb2, hkr.trans hk2⟩
              · rw [q1]; exact HF.out
              · rw [q1, q2]; exact HM2.out
            case measure => simp [intOf]; omega
          · have HO := Lib.hid hover
            clear hover
            go_wp2_with fail
            go_ret
            refine ⟨.inr ⟨rfl, ?_, d', hm2⟩, hbr.trans hb2, hkr.trans hk2⟩
            have o1 := HO.out
            have o2 := E1.out
            have o3 := E3.out
            have o4 := HN.out
            omega
        · have hkk : T.kids.take k = T.kids := List.take_of_length_le (by omega)
          rw [hkk] at hmr hle
          have HM := Lib.hid hmr
          have HL := Lib.hid hle
          clear hmr hkk hle
          go_wp2_with fail
          go_ret
          have o4 := HN.out
          have o5 := HD.out
          have q1 : n + (Pf.nodes T : Int) = n + 1 + (Pf.nodesL T.kids : Int) := by omega
          have hA := HDD.out
          have hP := HPP.out
          have q2 : max dd (pp + (Pf.depth T : Int) - 1) = max dd (pp + (Pf.depthL T.kids : Int)) := by omega
          have q3 := HM.out
          rw [← q2, ← q1] at q3
          refine ⟨.inl ⟨rfl, by have := HL.out; omega, ?_⟩, hbr, hkr⟩
          rw [← hA, ← hP]
          exact q3
end Go.Proofs.YtdffhnfjcbnioaaDoor
