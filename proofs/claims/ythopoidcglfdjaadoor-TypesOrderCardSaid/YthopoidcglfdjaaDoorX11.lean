/-
  The iterator over a type's nodes, at the type of functions of the last words: it yields its three nodes.
-/
import Derived.Test.YthopoidcglfdjaaDoorX10
import Derived.RangeFuncKeeps
import Derived.RangeFuncBound
import Derived.RangeFuncLeaves
import Derived.Shelf.Abstract
import Derived.WalkKit
import Derived.OwnWalkIn
import Derived.TacticsInMore
import Derived.LoopNIn
namespace Go.Proofs.YthopoidcglfdjaaDoor
open Go.RowKit Go.Shelf

attribute [local go_sem] Oper.semAt_some

theorem roundIn_anyDepth {F : Fence} (hd : F.depth = none) {m m' : Nat} {P : Program} {l : Nat} {f : FuncId} {tmps : Array Value} {assign body : Code} {w : World} {R : Ending → World → Prop}
    (h : RoundIn F m P l f tmps assign body w R) : RoundIn F m' P l f tmps assign body w R := ⟨h.1, fun c cs _ => h.2 c cs (fun d e => by rw [hd] at e; cases e)⟩
theorem yieldAt_anyDepth {F : Fence} (hd : F.depth = none) {m : Nat} (m' : Nat) {P : Program} {l : Nat} {args : Array Value} {W : World} {R : Ending → World → Prop} (h : YieldAt F m P l args W R) : YieldAt F m' P l args W R := by
  obtain ⟨fn, tmps, assign, body, hy, hR⟩ := h
  exact ⟨fn, tmps, assign, body, hy, roundIn_anyDepth hd hR⟩

/-- Where the three nodes lie. -/
def locN (b o ab ao : Nat) : Fin 3 → Nat × Nat
  | 0 => (b, o)
  | 1 => (ab, ao)
  | 2 => (ab, ao + 5)
/-- A node's address as an argument. -/
def encN (b o ab ao : Nat) (x : Fin 3) : Array Value := #[.pointer (some ⟨(locN b o ab ao x).1, (locN b o ab ao x).2, none⟩)]

set_option maxRecDepth 100000 in
set_option maxHeartbeats 2000000 in
/-- The walk at a node without arguments. -/
theorem walk_leaf {α : Type} (enc : α → Array Value) (l B n₀ N n : Nat) (J Jx : List α → World → Prop)
    (hY : ∀ m pre x W, J pre W → pre.length < N → YieldAt Fence.wide m Tryd.prog l (enc x) W fun e W' =>
      (e = .returned (.bool true) ∧ J (pre ++ [x]) W' ∧ Below n₀ W W') ∨ (e = .returned (.bool false) ∧ Jx (pre ++ [x]) W'))
    (b o : Nat) (T : Ty) (hT : T = tyA ∨ T = tyProp) (hB : B ≤ n₀) (x : α) (hx : enc x = #[.pointer (some ⟨b, o, none⟩)]) (pre : List α) (W : World) (h : AtTy B W b o T) (hJ : J pre W) (hlt : pre.length < N) :
    CallsIn Fence.wide n Tryd.prog 41 #[.pointer (some ⟨b, o, none⟩), .func (.yield l) #[] #[]] W fun e W' =>
      (e = .returned (.bool true) ∧ J (pre ++ [x]) W' ∧ Below n₀ W W') ∨ (e = .returned (.bool false) ∧ Jx (pre ++ [x]) W') := by
  obtain ⟨cap, a, hb, k4⟩ : ∃ (cap : Nat) (a : Option Addr), b < B ∧ W.cell? ⟨b, o + 4, none⟩ = some (.slice a 0 cap) := by
    rcases hT with rfl | rfl
    · obtain ⟨_, _, op, ix, nm, srt, args, vs, a, cap, ab, ao, hb, k0, k1, k2, k3, k4, hop, hix, hnm, hs, hl, ha, he⟩ := h
      exact ⟨cap, a, hb, k4⟩
    · obtain ⟨_, _, op, ix, nm, srt, args, vs, a, cap, ab, ao, hb, k0, k1, k2, k3, k4, hop, hix, hnm, hs, hl, ha, he⟩ := h
      exact ⟨cap, a, hb, k4⟩
  have K4 := Lib.hid fun W' (h : Below n₀ W W') => (h.cell (p := ⟨b, o + 4, none⟩) (by show b < n₀; omega)).trans k4
  have hdd : ∀ k : Nat, (Fence.wide.depth.isSome = true → 1 ≤ k) := fun k h => by cases h
  obtain ⟨fn, tmps, assign, body, hy, hR⟩ := hY (n - 1) pre x W hJ hlt
  have hR' := RoundIn.mono hR (R' := fun e W' => (e = .returned (.bool true) ∧ W'.cell? ⟨b, o + 4, none⟩ = some (.slice a 0 cap) ∧ J (pre ++ [x]) W' ∧ Below n₀ W W') ∨ (e = .returned (.bool false) ∧ Jx (pre ++ [x]) W'))
    (fun e W' h => h.elim (fun ⟨he, hj, hb1⟩ => .inl ⟨he, K4.out _ hb1, hj, hb1⟩) .inr)
  clear hR
  refine callsIn_of_wp Tryd.func41 rfl trivial ?_ rfl
  simp only [Tryd.ntmps41, List.size_toArray, List.length_cons, List.length_nil, Nat.reduceAdd, Nat.reduceSub, Array.replicate_succ, Array.replicate_zero, List.push_toArray, List.append_toArray, List.nil_append, List.cons_append]
  rw [hx] at hy
  clear hY k4
  gi_wp2_with ((try refine ⟨hdd _, ?_⟩); refine hR'.mono ?_; clear hR'; rintro e W1 (⟨rfl, k4', hJ1, hb1⟩ | ⟨rfl, hx1⟩))
  · refine wpIn_loop_rounds 1 ?_
    rw [roundsIn_succ]
    gi_wp2
    go_ret
    exact .inl ⟨rfl, hJ1, hb1⟩
  · go_ret
    exact .inr ⟨rfl, hx1⟩

set_option maxRecDepth 100000 in
set_option maxHeartbeats 4000000 in
/-- The walk at the type of the last words. -/
theorem walk_fun (l B n₀ n : Nat) (b o ab ao cap : Nat) (J Jx : List (Fin 3) → World → Prop)
    (hY : ∀ m pre x W, J pre W → pre.length < 3 → YieldAt Fence.wide m Tryd.prog l (encN b o ab ao x) W fun e W' =>
      (e = .returned (.bool true) ∧ J (pre ++ [x]) W' ∧ Below n₀ W W') ∨ (e = .returned (.bool false) ∧ Jx (pre ++ [x]) W'))
    (hB : B ≤ n₀) (hb : b < B) (W : World) (k4 : W.cell? ⟨b, o + 4, none⟩ = some (.slice (some ⟨ab, ao, none⟩) 2 cap)) (q0 : AtTy B W ab ao tyA) (q1 : AtTy B W ab (ao + 5) tyProp) (hJ : J [] W) :
    CallsIn Fence.wide n Tryd.prog 41 #[.pointer (some ⟨b, o, none⟩), .func (.yield l) #[] #[]] W fun e W' =>
      (e = .returned (.bool true) ∧ J [0, 1, 2] W') ∨ (e = .returned (.bool false) ∧ ∃ q, q <+: [0, 1, 2] ∧ Jx q W') := by
  have K4 := Lib.hid fun W' (h : Below n₀ W W') => (h.cell (p := ⟨b, o + 4, none⟩) (by show b < n₀; omega)).trans k4
  have Q0 := Lib.hid fun W' (h : Below n₀ W W') => AtTy.later (h.mono hB) (Nat.le_refl _) q0
  have Q1 := Lib.hid fun W' (h : Below n₀ W W') => AtTy.later (h.mono hB) (Nat.le_refl _) q1
  have hdd : ∀ k : Nat, (Fence.wide.depth.isSome = true → 1 ≤ k) := fun k h => by cases h
  have L0 := Lib.hid fun W1 (hj : J [0] W1) (hbw : Below n₀ W W1) => (walk_leaf (encN b o ab ao) l B n₀ 3 (n - 1) J Jx hY ab ao tyA (.inl rfl) hB 1 rfl [0] W1 (Q0.out W1 hbw) hj (by simp)).mono (R' := fun e W' =>
      (e = .returned (.bool true) ∧ W'.cell? ⟨b, o + 4, none⟩ = some (.slice (some ⟨ab, ao, none⟩) 2 cap) ∧ J [0, 1] W' ∧ Below n₀ W W') ∨ (e = .returned (.bool false) ∧ Jx [0, 1] W'))
      (fun e W' h => h.elim (fun ⟨he, hj, hb1⟩ => .inl ⟨he, K4.out _ (hbw.trans hb1), hj, hbw.trans hb1⟩) .inr)
  have L1 := Lib.hid fun W1 (hj : J [0, 1] W1) (hbw : Below n₀ W W1) => (walk_leaf (encN b o ab ao) l B n₀ 3 (n - 1) J Jx hY ab (ao + 5) tyProp (.inr rfl) hB 2 rfl [0, 1] W1 (Q1.out W1 hbw) hj (by simp))
  obtain ⟨fn, tmps, assign, body, hy, hR⟩ := hY (n - 1) [] 0 W hJ (by simp)
  have he0 : encN b o ab ao 0 = #[.pointer (some ⟨b, o, none⟩)] := rfl
  rw [he0] at hy
  have hR' := RoundIn.mono hR (R' := fun e W' => (e = .returned (.bool true) ∧ W'.cell? ⟨b, o + 4, none⟩ = some (.slice (some ⟨ab, ao, none⟩) 2 cap) ∧ J [0] W' ∧ Below n₀ W W') ∨ (e = .returned (.bool false) ∧ Jx [0] W'))
    (fun e W' h => h.elim (fun ⟨he, hj, hb1⟩ => .inl ⟨he, K4.out _ hb1, hj, hb1⟩) .inr)
  clear hR hY k4 q0 q1
  refine callsIn_of_wp Tryd.func41 rfl trivial ?_ rfl
  simp only [Tryd.ntmps41, List.size_toArray, List.length_cons, List.length_nil, Nat.reduceAdd, Nat.reduceSub, Array.replicate_succ, Array.replicate_zero, List.push_toArray, List.append_toArray, List.nil_append, List.cons_append]
  gi_wp2_with ((try refine ⟨hdd _, ?_⟩); refine hR'.mono ?_; clear hR'; rintro e W1 (⟨rfl, k4', hJ1, hb1⟩ | ⟨rfl, hx1⟩))
  · refine wpIn_loop_rounds 3 ?_
    rw [roundsIn_succ]
    gi_wp2
    refine ⟨trivial, hdd _, ?_⟩
    refine (L0.out W1 hJ1 hb1).mono ?_
    clear L0
    rintro e W2 (⟨rfl, k42, hJ2, hb2⟩ | ⟨rfl, hx2⟩)
    · gi_wp2
      rw [roundsIn_succ]
      gi_wp2
      refine ⟨trivial, hdd _, ?_⟩
      refine (L1.out W2 hJ2 hb2).mono ?_
      clear L1
      rintro e W3 (⟨rfl, hJ3, hb3⟩ | ⟨rfl, hx3⟩)
      · gi_wp2
        rw [roundsIn_succ]
        gi_wp2
        go_ret
        exact .inl ⟨rfl, hJ3⟩
      · gi_wp2
        go_ret
        exact .inr ⟨rfl, _, List.prefix_refl _, hx3⟩
    · gi_wp2
      go_ret
      exact .inr ⟨rfl, _, ⟨[2], rfl⟩, hx2⟩
  · go_ret
    exact .inr ⟨rfl, _, ⟨[1, 2], rfl⟩, hx1⟩

set_option maxHeartbeats 1000000 in
theorem nodes_ok (n b o : Nat) (w : World) :
    CallsIn Fence.wide n Tryd.prog 26 #[.pointer (some ⟨b, o, none⟩)] w fun e w' => e = .returned (.func (.func 40) #[] #[.pointer (some ⟨w.heap.size, 0, none⟩)]) ∧ w' = w.alloc (.cells #[.pointer (some ⟨b, o, none⟩)] 42) := by
  refine callsIn_of_wp Tryd.func26 rfl trivial ?_ rfl
  simp only [Tryd.ntmps26, List.size_toArray, List.length_cons, List.length_nil, Nat.reduceAdd, Nat.reduceSub, Array.replicate_succ, Array.replicate_zero, List.push_toArray, List.append_toArray, List.nil_append, List.cons_append]
  gi_wp2
  go_ret
  exact ⟨rfl, rfl⟩

/-- What Nodes returns yields the three nodes. -/
theorem nodes_stops (n B Bt n₀ b o ab ao cap : Nat) (w : World) (hBt : Bt < w.heap.size) (hn₀ : n₀ ≤ w.heap.size) (hB : B ≤ n₀) (hb : b < B)
    (hc : w.cell? ⟨Bt, 0, none⟩ = some (.pointer (some ⟨b, o, none⟩))) (k4 : w.cell? ⟨b, o + 4, none⟩ = some (.slice (some ⟨ab, ao, none⟩) 2 cap)) (q0 : AtTy B w ab ao tyA) (q1 : AtTy B w ab (ao + 5) tyProp) :
    SeqStopsK Fence.wide n Tryd.prog 40 #[.pointer (some ⟨Bt, 0, none⟩)] (encN b o ab ao) (Below n₀) (fun ys => ys = [0, 1, 2]) (fun pre => pre <+: [0, 1, 2]) 3 w := by
  intro l J Jx W hW _ _ hY h0
  have hdd : ∀ k : Nat, (Fence.wide.depth.isSome = true → 1 ≤ k) := fun k h => by cases h
  have hwB : Below B w W := hW.mono (by omega)
  have k4' := (hwB.cell (p := ⟨b, o + 4, none⟩) hb).trans k4
  have hp := Lib.hid (walk_fun l B n₀ (n - 1) b o ab ao cap J Jx (fun m pre x W hj hl => yieldAt_anyDepth rfl m (hY pre x W hj hl)) hB hb W k4' (AtTy.later hwB (Nat.le_refl _) q0) (AtTy.later hwB (Nat.le_refl _) q1) h0)
  have hc' := (hW.cell (p := ⟨Bt, 0, none⟩) hBt).trans hc
  clear hY k4 k4' q0 q1 hc
  refine callsIn_of_wp Tryd.func40 rfl trivial ?_ rfl
  simp only [Tryd.ntmps40, List.size_toArray, List.length_cons, List.length_nil, Nat.reduceAdd, Nat.reduceSub, Array.replicate_succ, Array.replicate_zero, List.push_toArray, List.append_toArray, List.nil_append, List.cons_append]
  gi_wp2
  refine ⟨trivial, hdd _, ?_⟩
  refine hp.out.mono ?_
  rintro e W1 (⟨rfl, hJ1⟩ | ⟨rfl, q, hq, hx⟩)
  · gi_wp2
    go_end0
    exact ⟨⟨_, rfl⟩, .inl ⟨_, rfl, hJ1⟩⟩
  · gi_wp2
    go_end0
    exact ⟨⟨_, rfl⟩, .inr ⟨q, hq, hx⟩⟩
end Go.Proofs.YthopoidcglfdjaaDoor
