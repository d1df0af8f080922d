/-
  The first classes of a list, by themselves.
-/
import Derived.Test.YtlaibimdkamcfaaM2
namespace Go.Proofs.Ytlaibimdkamcfaa
open Classical

variable {cs : List Cls}

theorem clsAt_take {i k : Nat} (h : k < i) : clsAt (cs.take i) k = clsAt cs k := by
  unfold clsAt
  rw [List.getD_eq_getElem?_getD, List.getD_eq_getElem?_getD, List.getElem?_take_of_lt h]

theorem prefix_ok (hl : cs.length ≤ 300) {i : Nat} (hz : ∀ k, k < i → clsErr (namesOf (cs.take k)) (clsAt cs k) = 0) : openErr (cs.take i) = 0 := by
  unfold openErr
  have hle : (cs.take i).length ≤ i := by rw [List.length_take]; omega
  have hle2 : (cs.take i).length ≤ cs.length := by rw [List.length_take]; omega
  rw [if_neg (by omega), firstErr_zero]
  intro k hk
  rw [List.take_take, Nat.min_eq_left (by omega), clsAt_take (by omega)]
  exact hz k (by omega)

theorem sup_take {i k : Nat} (hO : openErr (cs.take i) = 0) (hk : k < i) (hi : i ≤ cs.length) : supOf (cs.take i) k = supOf cs k := by
  unfold supOf
  rw [clsAt_take hk]
  refine List.map_congr_left fun s hs => ?_
  have h1 := (cls_ok (open_cls hO k (by rw [List.length_take]; omega))).2.2.2
  rw [clsAt_take hk] at h1
  have h2 := h1 s hs
  rw [List.take_take, Nat.min_eq_left (by omega)] at h2
  refine (idx_take ?_).1
  rw [names_take] at h2 ⊢
  exact (List.take_subset_take_left _ (by omega)) h2

theorem sup_prefix_lt {i k j : Nat} (hO : openErr (cs.take i) = 0) (hk : k < i) (hi : i ≤ cs.length) (hj : j ∈ supOf cs k) : j < k := by
  rw [← sup_take hO hk hi] at hj
  exact sup_lt hO k j hj

theorem reach_take {i k j : Nat} (hO : openErr (cs.take i) = 0) (hk : k < i) (hi : i ≤ cs.length) : Reach (supOf (cs.take i)) k j ↔ Reach (supOf cs) k j :=
  ⟨Reach.congr (fun a b ha hb => Nat.lt_trans (sup_lt hO a b hb) ha) (fun a ha => sup_take hO ha hi) hk,
   Reach.congr (fun a b ha hb => Nat.lt_trans (sup_prefix_lt hO ha hi hb) ha) (fun a ha => (sup_take hO ha hi).symm) hk⟩

theorem sup_len {i : Nat} (hO : openErr (cs.take i) = 0) (k : Nat) : (supOf (cs.take i) k).length ≤ 20 := by
  unfold supOf
  rw [List.length_map]
  by_cases h : k < (cs.take i).length
  · exact (cls_ok (open_cls hO k h)).2.2.1
  · unfold clsAt
    rw [List.getD_eq_getElem?_getD, List.getElem?_eq_none (by omega)]
    simp

theorem idx_self {i : Nat} (hO : openErr (cs.take (i + 1)) = 0) (hi : i < cs.length) : idxOfC cs (cs[i]).name = i := by
  have hm : (cs[i]).name ∈ namesOf (cs.take (i + 1)) := by
    rw [← List.take_append_getElem hi]; unfold namesOf; rw [List.map_append]; simp
  rw [← (idx_take hm).1]
  have hk : knownB (cs.take (i + 1)) (cs[i]).name = true := by unfold knownB; simpa using hm
  have hl := idx_lt hk
  have hll : (cs.take (i + 1)).length = i + 1 := by rw [List.length_take]; omega
  have h1 := idx_get hk
  rcases Nat.lt_or_ge (idxOfC (cs.take (i + 1)) (cs[i]).name) i with h | h
  · have h2 := (cls_ok (open_cls hO i (by omega))).2.1
    rw [clsAt_take (by omega), clsAt_eq hi, List.take_take, Nat.min_eq_left (by omega)] at h2
    refine absurd ?_ h2
    rw [← h1]
    unfold namesOf
    refine List.mem_map_of_mem ?_
    rw [List.getElem_take]
    exact List.mem_take_iff_getElem.2 ⟨_, by omega, rfl⟩
  · omega

theorem openErr_of {i : Nat} (hl : cs.length ≤ 300) (hi : i < cs.length) (hz : ∀ k, k < i → clsErr (namesOf (cs.take k)) (clsAt cs k) = 0) (hne : clsErr (namesOf (cs.take i)) (clsAt cs i) ≠ 0) : openErr cs = clsErr (namesOf (cs.take i)) (clsAt cs i) := by
  unfold openErr
  rw [if_neg (by omega)]
  exact firstErr_at (f := fun i => clsErr (namesOf (cs.take i)) (clsAt cs i)) hi hz hne

theorem openErr_zero (hl : cs.length ≤ 300) (hz : ∀ k, k < cs.length → clsErr (namesOf (cs.take k)) (clsAt cs k) = 0) : openErr cs = 0 := by
  unfold openErr
  rw [if_neg (by omega), firstErr_zero]
  exact hz
end Go.Proofs.Ytlaibimdkamcfaa
