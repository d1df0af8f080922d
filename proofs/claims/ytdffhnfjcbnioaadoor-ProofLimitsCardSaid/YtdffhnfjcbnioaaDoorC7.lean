/-
  The meter of types: nodes and depth are counted.
-/
import Derived.Test.YtdffhnfjcbnioaaDoorC6
import Derived.Deep.QuietTactic
import Derived.BigQuiet
namespace Go.Proofs.YtdffhnfjcbnioaaDoor
open Go.RowKit

/-- The meter's three cells. -/
def MeterAt (mb : Nat) (n d most : Int) (w : World) : Prop :=
  w.cell? ⟨mb, 0, none⟩ = some (.int .i64 n) ∧ w.cell? ⟨mb, 1, none⟩ = some (.int .i64 d) ∧ w.cell? ⟨mb, 2, none⟩ = some (.int .i64 most) ∧ w.frozen? ⟨mb, 0, none⟩ = false ∧ w.frozen? ⟨mb, 1, none⟩ = false

theorem meter_set {mb : Nat} {n d most : Int} {w : World} (n' d' : Int) (h : MeterAt mb n d most w) : MeterAt mb n' d' most ((w.setCell ⟨mb, 0, none⟩ (.int .i64 n')).setCell ⟨mb, 1, none⟩ (.int .i64 d')) := by
  obtain ⟨c0, c1, c2, f0, f1⟩ := h
  refine ⟨?_, ?_, ?_, ?_, ?_⟩
  · go_simp
  · go_simp
  · go_simp
  · rw [World.frozen?_setCell, World.frozen?_setCell]; exact f0
  · rw [World.frozen?_setCell, World.frozen?_setCell]; exact f1

theorem MeterAt.drewN {mb : Nat} {n d most : Int} {w : World} (h : MeterAt mb n d most w) (q : Nat) : MeterAt mb n d most (w.drewN q) := h

set_option maxHeartbeats 1000000 in
theorem node_any (mb : Nat) (n d most dp : Int) (w : World) (hm : MeterAt mb n d most w) (h0 : 0 ≤ n) (h1 : n < most) (hmost : most ≤ 9223372036854775807) :
    Calls Tryd.prog 64 #[.pointer (some ⟨mb, 0, none⟩), .int .i64 dp] w fun e w' => e = .returned (.bool true) ∧ MeterAt mb (n + 1) (max d dp) most w' ∧ Below mb w w' := by
  have hs := meter_set (n + 1) (max d dp) hm
  have hb : Below mb w ((w.setCell ⟨mb, 0, none⟩ (.int .i64 (n + 1))).setCell ⟨mb, 1, none⟩ (.int .i64 (max d dp))) := ((Below.refl mb w).setCell (p := ⟨mb, 0, none⟩) (Nat.le_refl _) _).setCell (p := ⟨mb, 1, none⟩) (Nat.le_refl _) _
  obtain ⟨c0, c1, c2, f0, f1⟩ := hm
  obtain ⟨mx, hmx⟩ : ∃ mx, max d dp = mx := ⟨_, rfl⟩
  rw [hmx] at hs hb ⊢
  have HS := Lib.hid hs
  have HB := Lib.hid hb
  clear hs hb
  by_cases hd : d < dp
  · obtain rfl : mx = dp := by omega
    clear hmx
    go_enter Tryd.func64, Tryd.ntmps64
    go_wp2_with fail
    generalize (w.setCell ⟨mb, 0, none⟩ (.int .i64 (n + 1))).setCell ⟨mb, 1, none⟩ (.int .i64 mx) = W2 at *
    obtain ⟨d0, d1, d2, g0, g1⟩ := HS.out
    have hle : decide (n + 1 ≤ most) = true := by simp; omega
    go_quiet (fail)
    go_wp2_with fail
    go_ret
    exact ⟨rfl, HS.out.drewN _, below_drewN HB.out _⟩
  · obtain rfl : mx = d := by omega
    clear hmx
    go_enter Tryd.func64, Tryd.ntmps64
    go_wp2_with fail
    generalize (w.setCell ⟨mb, 0, none⟩ (.int .i64 (n + 1))).setCell ⟨mb, 1, none⟩ (.int .i64 mx) = W2 at *
    obtain ⟨d0, d1, d2, g0, g1⟩ := HS.out
    have hle : decide (n + 1 ≤ most) = true := by simp; omega
    go_quiet (fail)
    go_wp2_with fail
    go_ret
    exact ⟨rfl, HS.out.drewN _, below_drewN HB.out _⟩

mutual
/-- How many nodes, and how deep. -/
def Ty.nodes : Ty → Nat
  | .mk _ _ _ _ a => Ty.nodesL a + 1
def Ty.nodesL : List Ty → Nat
  | [] => 0
  | x :: r => Ty.nodes x + Ty.nodesL r
end
mutual
def Ty.depth : Ty → Nat
  | .mk _ _ _ _ a => Ty.depthL a + 1
def Ty.depthL : List Ty → Nat
  | [] => 0
  | x :: r => max (Ty.depth x) (Ty.depthL r)
end

theorem nodesL_take (l : List Ty) (k : Nat) (h : k < l.length) : Ty.nodesL (l.take (k + 1)) = Ty.nodesL (l.take k) + Ty.nodes l[k] := by
  induction l generalizing k with
  | nil => simp at h
  | cons x r ih =>
    cases k with
    | zero => simp [Ty.nodesL]
    | succ k => simp only [List.take_succ_cons, Ty.nodesL, List.getElem_cons_succ]; rw [ih k (by simpa using h)]; omega
theorem depthL_take (l : List Ty) (k : Nat) (h : k < l.length) : Ty.depthL (l.take (k + 1)) = max (Ty.depthL (l.take k)) (Ty.depth l[k]) := by
  induction l generalizing k with
  | nil => simp at h
  | cons x r ih =>
    cases k with
    | zero => simp [Ty.depthL]
    | succ k => simp only [List.take_succ_cons, Ty.depthL, List.getElem_cons_succ]; rw [ih k (by simpa using h)]; omega
theorem nodesL_le (l : List Ty) (k : Nat) : Ty.nodesL (l.take k) ≤ Ty.nodesL l := by
  induction l generalizing k with
  | nil => simp
  | cons x r ih =>
    cases k with
    | zero => simp [Ty.nodesL]
    | succ k => simp only [List.take_succ_cons, Ty.nodesL]; have := ih k; omega
theorem Ty.depth_pos (T : Ty) : 1 ≤ T.depth := by cases T; simp [Ty.depth]
theorem Ty.nodes_pos (T : Ty) : 1 ≤ T.nodes := by cases T; simp [Ty.nodes]
theorem Ty.depth_le (N : Nat) : ∀ T : Ty, T.sz < N → T.depth ≤ T.nodes := by
  induction N with
  | zero => intro T h; omega
  | succ N ih =>
    intro T h
    obtain ⟨o, n, i, s, a⟩ := T
    simp only [Ty.depth, Ty.nodes]
    have : ∀ l : List Ty, (∀ x ∈ l, x.sz < N) → Ty.depthL l ≤ Ty.nodesL l := by
      intro l
      induction l with
      | nil => intro _; simp [Ty.depthL, Ty.nodesL]
      | cons x r ihr =>
        intro hx
        have h1 := ih x (hx x (by simp))
        have h2 := ihr (fun y hy => hx y (by simp [hy]))
        simp only [Ty.depthL, Ty.nodesL]
        omega
    have := this a (fun x hx => by
      obtain ⟨k, hk, rfl⟩ := List.getElem_of_mem hx
      have := Ty.size_arg (op := o) (ix := i) (nm := n) (srt := s) k hk
      omega)
    omega

set_option maxHeartbeats 4000000 in
theorem add_any (N : Nat) : ∀ (B mb b o : Nat) (T : Ty) (n d most dp : Int) (w : World), T.sz < N → B ≤ mb → AtTy B w b o T → MeterAt mb n d most w → 0 ≤ n → n + T.nodes ≤ most → most ≤ 1000000000 → 1 ≤ dp → dp + T.depth ≤ 1000000000 →
    Calls Tryd.prog 45 #[.pointer (some ⟨mb, 0, none⟩), .pointer (some ⟨b, o, none⟩), .int .i64 dp] w fun e w' => e = .returned (.bool true) ∧ MeterAt mb (n + T.nodes) (max d (dp + T.depth - 1)) most w' ∧ Below mb w w' := by
  induction N with
  | zero => intro B mb b o T n d most dp w hN; omega
  | succ N ih =>
  intro B mb b o T n d most dp w hN hB hT hm h0 h1 h2 h3 h4
  have IH := Lib.hid ih
  clear ih
  obtain ⟨_, _, op, ix, nm, srt, args, vs, a, cap, ab, ao, hb, k0, k1, k2, k3, k4, hop, hix, hnm, hs, hl, ha, he⟩ := hT
  simp only [Ty.nodes, Ty.depth] at h1 h4 ⊢
  have K4 := Lib.hid fun W (h : Below mb w W) => (h.cell (p := ⟨b, o + 4, none⟩) (by show b < mb; omega)).trans k4
  have HA := Lib.hid ha
  have HE := Lib.hid he
  have hnode := Lib.hid (node_any mb n d most dp w hm h0 (by omega) (by omega))
  clear ha he k0 k1 k2 k3 k4 hs hm hop hix hnm
  go_enter Tryd.func45, Tryd.ntmps45
  go_wp2_with fail
  refine hnode.out.mono ?_
  rintro e W ⟨rfl, hmW, hbW⟩
  have kk := K4.out W hbW
  go_wp2_with fail
  go_loopw [17] (fun t wr => ∃ k : Nat, t = .int .i64 k ∧ k ≤ args.length ∧ MeterAt mb (n + 1 + Ty.nodesL (args.take k)) (max d (dp + Ty.depthL (args.take k))) most wr ∧ Below mb w wr) (fun t _ => args.length - (intOf t).toNat)
  case atStart => exact ⟨0, rfl, Nat.zero_le _, by simpa [Ty.nodesL, Ty.depthL] using hmW, hbW⟩
  case round =>
    obtain ⟨k, rfl, hk, hmr, hbr⟩ := hrel
    have kr := K4.out wr hbr
    by_cases hlt : k < args.length
    · obtain ⟨rfl, hab⟩ := HA.out (by intro e; subst e; simp at hlt)
      have e1 := nodesL_take args k hlt
      have e2 := depthL_take args k hlt
      have e3 := nodesL_le args (k + 1)
      have e4 : Ty.depthL (args.take (k + 1)) ≤ Ty.depthL args := by
        have : ∀ (l : List Ty) (k : Nat), Ty.depthL (l.take k) ≤ Ty.depthL l := by
          intro l
          induction l with
          | nil => intro k; simp
          | cons x r ih => intro k; cases k with
            | zero => simp [Ty.depthL]
            | succ k => simp only [List.take_succ_cons, Ty.depthL]; have := ih k; omega
        exact this _ _
      have hc := Lib.hid (IH.out B mb ab (ao + k * 5) args[k] (n + 1 + Ty.nodesL (args.take k)) (max d (dp + Ty.depthL (args.take k))) most (dp + 1) wr (by have := Ty.size_arg (op := op) (ix := ix) (nm := nm) (srt := srt) k hlt; omega) hB
        (AtTy.later (hbr.mono hB) (Nat.le_refl _) (HE.out k hlt)) hmr (by omega) (by omega) h2 (by omega) (by omega))
      have E1 := Lib.hid e1
      have E2 := Lib.hid e2
      have hdp := Ty.depth_pos args[k]
      clear e1 e2 e3 e4
      go_wp2_with fail
      refine hc.out.mono ?_
      rintro e W2 ⟨rfl, hm2, hb2⟩
      go_wp2_with fail
      go_roundw
      case rel =>
        refine ⟨k + 1, by go_num, by omega, ?_, hbr.trans hb2⟩
        have q1 : n + 1 + (Ty.nodesL (args.take (k + 1)) : Int) = n + 1 + (Ty.nodesL (args.take k) : Int) + (Ty.nodes args[k] : Int) := by rw [E1.out]; omega
        have q2 : max d (dp + (Ty.depthL (args.take (k + 1)) : Int)) = max (max d (dp + (Ty.depthL (args.take k) : Int))) (dp + 1 + (Ty.depth args[k] : Int) - 1) := by rw [E2.out]; omega
        rw [q1, q2]
        exact hm2
      case measure => simp [intOf]; omega
    · have hkk : args.take k = args := List.take_of_length_le (by omega)
      rw [hkk] at hmr
      have HM := Lib.hid hmr
      clear hmr hkk
      go_wp2_with fail
      go_ret
      refine ⟨rfl, ?_, hbr⟩
      have q1 : n + ((Ty.nodesL args + 1 : Nat) : Int) = n + 1 + (Ty.nodesL args : Int) := by omega
      have q2 : max d (dp + ((Ty.depthL args + 1 : Nat) : Int) - 1) = max d (dp + (Ty.depthL args : Int)) := by omega
      rw [q1, q2]
      exact HM.out
end Go.Proofs.YtdffhnfjcbnioaaDoor
