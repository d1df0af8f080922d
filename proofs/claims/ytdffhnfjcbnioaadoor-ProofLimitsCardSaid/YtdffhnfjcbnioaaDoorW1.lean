/-
  types.Nodes: whatever the loop does, the nodes of a tree come, each ahead of its kids.
-/
import Derived.Test.YtdffhnfjcbnioaaDoorW0
import Derived.RangeFuncKeeps
import Derived.RangeFuncBound
import Derived.RangeFuncLeaves
import Derived.RangeFuncFrom
import Derived.RangeFuncCalls
import Derived.Shelf.Abstract
import Derived.OwnWalkIn
import Derived.TacticsInMore
import Derived.LoopNIn
import Derived.LoopIn
namespace Go.Proofs.YtdffhnfjcbnioaaDoor
open Go.RowKit Go.Shelf

attribute [local go_sem] Oper.semAt_some

mutual
/-- The nodes, each ahead of its kids. -/
def Ty.pre : Ty → List Ty
  | .mk o n i s a => .mk o n i s a :: Ty.preL a
def Ty.preL : List Ty → List Ty
  | [] => []
  | x :: r => Ty.pre x ++ Ty.preL r
end
theorem Ty.pre_kids (t : Ty) : t.pre = t :: Ty.preL t.args := by cases t; rfl
theorem Ty.preL_take : ∀ (l : List Ty) (k : Nat) (h : k < l.length), Ty.preL (l.take (k + 1)) = Ty.preL (l.take k) ++ l[k].pre
  | x :: r, 0, _ => by simp [Ty.preL]
  | x :: r, k + 1, h => by
    have := Ty.preL_take r k (by simpa using h)
    simp only [List.take_succ_cons, Ty.preL, List.getElem_cons_succ, this, List.append_assoc]
mutual
theorem Ty.pre_length : ∀ t : Ty, t.pre.length = t.nodes
  | .mk o n i s a => by
    have := Ty.preL_length a
    simp only [Ty.pre, Ty.nodes, List.length_cons]; omega
theorem Ty.preL_length : ∀ l : List Ty, (Ty.preL l).length = Ty.nodesL l
  | [] => rfl
  | x :: r => by
    have h1 := Ty.pre_length x
    have h2 := Ty.preL_length r
    simp only [Ty.preL, Ty.nodesL, List.length_append]; omega
end
theorem Ty.preL_pre (l : List Ty) (k : Nat) (h : k < l.length) : Ty.preL (l.take k) ++ l[k].pre <+: Ty.preL l := by
  rw [← Ty.preL_take l k h]
  have : ∀ (l : List Ty) (k : Nat), Ty.preL (l.take k) <+: Ty.preL l := by
    intro l
    induction l with
    | nil => intro k; simp
    | cons x r ih =>
      intro k
      cases k with
      | zero => simp [Ty.preL]
      | succ k => simp only [List.take_succ_cons, Ty.preL]; exact (List.prefix_append_right_inj _).2 (ih k)
  exact this l (k + 1)

/-- A node where it lies. -/
structure TyNode (B : Nat) (w : World) (G : Ty → Prop) where
  b : Nat
  o : Nat
  tree : Ty
  at_ : AtTy B w b o tree
  good : G tree
/-- Its address as an argument. -/
def TyNode.enc {B : Nat} {w : World} {G : Ty → Prop} (x : TyNode B w G) : Array Value := #[.pointer (some ⟨x.b, x.o, none⟩)]

/-- What the walk of a tree answers. -/
def yWalk {B : Nat} {w0 : World} {G : Ty → Prop} (n₀ : Nat) (J Jx : List (TyNode B w0 G) → World → Prop) (pre : List (TyNode B w0 G)) (T : Ty) (W : World) (e : Ending) (W' : World) : Prop :=
  (e = .returned (.bool true) ∧ ∃ ys : List (TyNode B w0 G), ys.map (·.tree) = T.pre ∧ J (pre ++ ys) W' ∧ Below n₀ W W') ∨ (e = .returned (.bool false) ∧ ∃ ys : List (TyNode B w0 G), ys.map (·.tree) <+: T.pre ∧ Jx (pre ++ ys) W')
/-- At the head of a round. -/
def yWalkRel {B : Nat} {w0 : World} {G : Ty → Prop} (n₀ : Nat) (J : List (TyNode B w0 G) → World → Prop) (pre : List (TyNode B w0 G)) (T : Ty) (W : World) (t : Value) (wr : World) : Prop :=
  ∃ (k : Nat) (ys : List (TyNode B w0 G)), t = .int .i64 k ∧ k ≤ T.args.length ∧ ys.map (·.tree) = T :: Ty.preL (T.args.take k) ∧ J (pre ++ ys) wr ∧ Below n₀ W wr

set_option maxRecDepth 100000 in
set_option maxHeartbeats 4000000 in
theorem ywalk_any (l B n₀ N : Nat) (w0 : World) (G : Ty → Prop) (hG : ∀ (t : Ty) (k : Nat) (h : k < t.args.length), G t → G t.args[k]) (J Jx : List (TyNode B w0 G) → World → Prop)
    (hY : ∀ m pre x W, J pre W → pre.length < N → YieldAt Fence.wide m Tryd.prog l (TyNode.enc x) W fun e W' =>
      (e = .returned (.bool true) ∧ J (pre ++ [x]) W' ∧ Below n₀ W W') ∨ (e = .returned (.bool false) ∧ Jx (pre ++ [x]) W'))
    (hB : B ≤ n₀) (M : Nat) : ∀ (n b o : Nat) (T : Ty) (pre : List (TyNode B w0 G)) (W : World), T.sz < M → G T → AtTy B w0 b o T → Below n₀ w0 W → J pre W → pre.length + T.nodes ≤ N →
    CallsIn Fence.wide n Tryd.prog 85 #[.pointer (some ⟨b, o, none⟩), .func (.yield l) #[] #[]] W (yWalk n₀ J Jx pre T W) := by
  induction M with
  | zero => intro n b o T pre W h; omega
  | succ M ih =>
  intro n b o T pre W hM hTG hT hW hJ hlen
  have IH := Lib.hid ih
  clear ih
  have hdd : ∀ k : Nat, (Fence.wide.depth.isSome = true → 1 ≤ k) := fun k h => by cases h
  obtain ⟨a, cap, kb, ko, hb, k4, hl, ha, he⟩ := hT.kid
  have hnp := Ty.nodes_pos T
  have K4 := Lib.hid fun W' (h : Below n₀ W W') => ((hW.trans h).cell (p := ⟨b, o + 4, none⟩) (by show b < n₀; omega)).trans k4
  have HA := Lib.hid ha
  have HE := Lib.hid he
  have HW := Lib.hid hW
  obtain ⟨fn, tmps, assign, body, hy, hR⟩ := hY (n - 1) pre ⟨b, o, T, hT, hTG⟩ W hJ (by omega)
  have he0 : TyNode.enc (⟨b, o, T, hT, hTG⟩ : TyNode B w0 G) = #[.pointer (some ⟨b, o, none⟩)] := rfl
  rw [he0] at hy
  have hR' := RoundIn.mono hR (R' := fun e W' => (e = .returned (.bool true) ∧ W'.cell? ⟨b, o + 4, none⟩ = some (.slice a T.args.length cap) ∧ J (pre ++ [⟨b, o, T, hT, hTG⟩]) W' ∧ Below n₀ W W') ∨ (e = .returned (.bool false) ∧ Jx (pre ++ [⟨b, o, T, hT, hTG⟩]) W'))
    (fun e W' h => h.elim (fun ⟨he, hj, hb1⟩ => .inl ⟨he, K4.out _ hb1, hj, hb1⟩) .inr)
  have HPK := Lib.hid (Ty.pre_kids T)
  have HNK := Lib.hid (Ty.nodes_kids T)
  clear hR hY k4 ha he hW
  refine callsIn_of_wp Tryd.func85 rfl trivial ?_ rfl
  simp only [Tryd.ntmps85, List.size_toArray, List.length_cons, List.length_nil, Nat.reduceAdd, Nat.reduceSub, Array.replicate_succ, Array.replicate_zero, List.push_toArray, List.append_toArray, List.nil_append, List.cons_append]
  gi_wp2_with ((try refine ⟨hdd _, ?_⟩); refine hR'.mono ?_; clear hR'; rintro e W1 (⟨rfl, k4', hJ1, hb1⟩ | ⟨rfl, hx1⟩))
  · gi_loopw [15] (fun t wr => yWalkRel n₀ J pre T W t wr) (fun t _ => T.args.length - (intOf t).toNat)
    case atStart => exact ⟨0, [⟨b, o, T, hT, hTG⟩], rfl, Nat.zero_le _, by simp [Ty.preL], hJ1, hb1⟩
    case round =>
      obtain ⟨k, ys, rfl, hk, hys, hjr, hbr⟩ := hrel
      have kr := K4.out wr hbr
      have HYS := Lib.hid hys
      clear hys
      by_cases hlt : k < T.args.length
      · obtain ⟨rfl, hab⟩ := HA.out (by intro e; rw [e] at hlt; simp at hlt)
        have hyl : ys.length = 1 + Ty.nodesL (T.args.take k) := by
          have := congrArg List.length HYS.out
          rw [List.length_map, List.length_cons, Ty.preL_length] at this
          omega
        have htk := Ty.nodesL_take T.args k hlt
        have hle := Ty.nodesL_le T.args (k + 1)
        have hnk := HNK.out
        have hc := Lib.hid (IH.out (n - 1) kb (ko + k * 5) T.args[k] (pre ++ ys) wr (by have := T.sz_kid k hlt; omega) (hG T k hlt hTG) (HE.out k hlt) (HW.out.trans hbr) hjr (by rw [List.length_append]; omega))
        have HPT := Lib.hid (Ty.preL_take T.args k hlt)
        have HPP := Lib.hid (Ty.preL_pre T.args k hlt)
        clear hyl htk hle hnk
        gi_wp2
        refine ⟨trivial, hdd _, ?_⟩
        refine hc.out.mono ?_
        rintro e W2 (⟨rfl, zs, hzs, hj2, hb2⟩ | ⟨rfl, zs, hzs, hx2⟩)
        · have HZS := Lib.hid hzs
          rw [List.append_assoc] at hj2
          have HJ2 := Lib.hid hj2
          clear hzs hj2
          gi_wp2
          refine ⟨⟨k + 1, ys ++ zs, by simp only [Int.natCast_add, Int.natCast_one], by omega, by rw [List.map_append, HYS.out, HZS.out, HPT.out, List.cons_append], HJ2.out, hbr.trans hb2⟩, ?_⟩
          show T.args.length - ((k : Int) + 1).toNat < T.args.length - ((k : Nat) : Int).toNat
          omega
        · have HZS := Lib.hid hzs
          rw [List.append_assoc] at hx2
          have HX2 := Lib.hid hx2
          clear hzs hx2
          gi_wp2
          go_ret
          refine .inr ⟨rfl, ys ++ zs, ?_, HX2.out⟩
          rw [List.map_append, HYS.out, HPK.out, List.cons_append]
          refine List.cons_prefix_cons.2 ⟨rfl, ?_⟩
          exact ((List.prefix_append_right_inj _).2 HZS.out).trans HPP.out
      · have hkk : T.args.take k = T.args := List.take_of_length_le (by omega)
        have h2 := HYS.out
        rw [hkk, ← HPK.out] at h2
        have H2 := Lib.hid h2
        clear h2 hkk
        gi_wp2
        go_ret
        exact .inl ⟨rfl, ys, H2.out, hjr, hbr⟩
  · go_ret
    refine .inr ⟨rfl, _, ?_, hx1⟩
    rw [HPK.out]
    exact List.cons_prefix_cons.2 ⟨rfl, List.nil_prefix⟩

set_option maxHeartbeats 1000000 in
theorem ynodes_ok (n b o : Nat) (w : World) :
    CallsIn Fence.wide n Tryd.prog 71 #[.pointer (some ⟨b, o, none⟩)] w fun e w' => e = .returned (.func (.func 84) #[] #[.pointer (some ⟨w.heap.size, 0, none⟩)]) ∧ w' = w.alloc (.cells #[.pointer (some ⟨b, o, none⟩)] 81) := by
  refine callsIn_of_wp Tryd.func71 rfl trivial ?_ rfl
  simp only [Tryd.ntmps71, List.size_toArray, List.length_cons, List.length_nil, Nat.reduceAdd, Nat.reduceSub, Array.replicate_succ, Array.replicate_zero, List.push_toArray, List.append_toArray, List.nil_append, List.cons_append]
  gi_wp2
  go_ret
  exact ⟨rfl, rfl⟩

/-- What Nodes returns yields the nodes. -/
theorem ynodes_stops (n B Bt n₀ b o : Nat) (T : Ty) (w : World) (G : Ty → Prop) (hG : ∀ (t : Ty) (k : Nat) (h : k < t.args.length), G t → G t.args[k]) (hTG : G T) (hBt : Bt < w.heap.size) (hn₀ : n₀ ≤ w.heap.size) (hB : B ≤ n₀) (hT : AtTy B w b o T)
    (hc : w.cell? ⟨Bt, 0, none⟩ = some (.pointer (some ⟨b, o, none⟩))) :
    SeqStopsK Fence.wide n Tryd.prog 84 #[.pointer (some ⟨Bt, 0, none⟩)] (TyNode.enc (B := B) (w := w) (G := G)) (Below n₀) (fun ys => ys.map (·.tree) = T.pre) (fun pre => pre.map (·.tree) <+: T.pre) T.nodes w := by
  intro l J Jx W hW _ _ hY h0
  have hdd : ∀ k : Nat, (Fence.wide.depth.isSome = true → 1 ≤ k) := fun k h => by cases h
  have hp := Lib.hid (ywalk_any l B n₀ T.nodes w G hG J Jx (fun m pre x W hj hl => yieldAt_anyDepth rfl m (hY pre x W hj hl)) hB (T.sz + 1) (n - 1) b o T [] W (Nat.lt_succ_self _) hTG hT (hW.mono hn₀) h0 (by simp))
  have hc' := (hW.cell (p := ⟨Bt, 0, none⟩) hBt).trans hc
  clear hY hc
  refine callsIn_of_wp Tryd.func84 rfl trivial ?_ rfl
  simp only [Tryd.ntmps84, List.size_toArray, List.length_cons, List.length_nil, Nat.reduceAdd, Nat.reduceSub, Array.replicate_succ, Array.replicate_zero, List.push_toArray, List.append_toArray, List.nil_append, List.cons_append]
  gi_wp2
  refine ⟨trivial, hdd _, ?_⟩
  refine hp.out.mono ?_
  rintro e W1 (⟨rfl, ys, hys, hJ1, _⟩ | ⟨rfl, ys, hys, hx⟩)
  · rw [List.nil_append] at hJ1
    have HY := Lib.hid hys
    have HJ := Lib.hid hJ1
    clear hys hJ1
    gi_wp2
    go_end0
    exact ⟨⟨_, rfl⟩, .inl ⟨ys, HY.out, HJ.out⟩⟩
  · rw [List.nil_append] at hx
    have HY := Lib.hid hys
    have HJ := Lib.hid hx
    clear hys hx
    gi_wp2
    go_end0
    exact ⟨⟨_, rfl⟩, .inr ⟨ys, HY.out, HJ.out⟩⟩
end Go.Proofs.YtdffhnfjcbnioaaDoor
