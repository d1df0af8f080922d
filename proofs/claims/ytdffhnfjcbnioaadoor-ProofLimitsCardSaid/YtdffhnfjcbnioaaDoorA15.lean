/-
  proof.Check of the zero proof.
-/
import Derived.Test.YtdffhnfjcbnioaaDoorA14
import Derived.Test.YtdffhnfjcbnioaaDoorP7
namespace Go.Proofs.YtdffhnfjcbnioaaDoor
open Go.RowKit Go.Shelf

attribute [local go_sem] Oper.semAt_some

/-- The zero proof. -/
def pfZ : Pf := .mk 0 ⟨#[]⟩ tm0 []
theorem pre_pfZ : pfZ.pre = [pfZ] := by simp [pfZ, Pf.pre, Pf.preL]
theorem depth_pfZ : pfZ.depth = 1 := by simp [pfZ, Pf.depth, Pf.depthL]
theorem nodes_pfZ : pfZ.nodes = 1 := by simp [pfZ, Pf.nodes, Pf.nodesL]

set_option maxHeartbeats 1000000 in
theorem node_zero (b o : Nat) (w : World) (c0 : w.cell? ⟨b, o, none⟩ = some (.int .i64 0)) :
    Calls Tryd.prog 12 #[.pointer (some ⟨b, o, none⟩)] w fun e w' => e = .returned (.int .i64 70) ∧ w' = w := by
  go_enter Tryd.func12, Tryd.ntmps12
  go_wp2_with fail
  go_ret
  exact ⟨rfl, rfl⟩

theorem ko_set {W : World} {g : Nat} {v x : Value} (h : W.cell? ⟨g, 0, none⟩ = some x) : KeepsOthers W (W.setCell ⟨g, 0, none⟩ v) :=
  ⟨by simp [World.setCell], fun k o hk ho => by
    by_cases e : k = g
    · subst e
      rw [World.cell?, hk] at h
      cases o <;> simp_all [Obj.isCells]
    · exact (Below.heap_setCell W ⟨g, 0, none⟩ v k e).trans hk⟩

/-- The walk was left with the error 70. -/
def IxZ (g n1 : Nat) (w : World) (c : Code) (W : World) : Prop :=
  c = .ret ∧ ∃ W0, Below g w W0 ∧ W0.cell? ⟨g, 0, none⟩ = some (.int .i64 70) ∧ g < n1 ∧ n1 ≤ W0.heap.size ∧ Below n1 W0 W

set_option maxRecDepth 100000 in
set_option maxHeartbeats 4000000 in
theorem check_zero_in (n B b o : Nat) (w : World) (hn : 3 ≤ n) (hB : B ≤ w.heap.size) (hT : AtPf B w b o pfZ) :
    CallsIn Fence.wide n Tryd.prog 6 #[.pointer (some ⟨b, o, none⟩)] w fun e w' => e = .returned (.int .i64 70) ∧ Below w.heap.size w w' := by
  have hdd : ∀ k : Nat, (Fence.wide.depth.isSome = true → 1 ≤ k) := fun k h => by cases h
  have HT := Lib.hid hT
  clear hT
  refine callsIn_of_wp_marks Tryd.func6 rfl trivial ?_ rfl
  simp only [Tryd.ntmps6, List.size_toArray, List.length_cons, List.length_nil, Nat.reduceAdd, Nat.reduceSub, Array.replicate_succ, Array.replicate_zero, List.push_toArray, List.append_toArray, List.nil_append, List.cons_append]
  gi_wp2
  refine ⟨trivial, hdd _, ?_⟩
  have b1 : Below w.heap.size w (w.alloc (.cells #[.int .i64 0] 37)) := (Below.refl _ w).alloc (Nat.le_refl _) _
  have hs := newCell (W := w) (v := .int .i64 0) (t := 37)
  have hw1 : (w.alloc (.cells #[.int .i64 0] 37)).heap.size = w.heap.size + 1 := by simp
  generalize w.alloc (.cells #[.int .i64 0] 37) = w1 at *
  have b2 : Below w1.heap.size w1 (w1.alloc (.cells #[.int .i64 0, .int .i64 0, .int .i64 2000000] 49)) := (Below.refl _ w1).alloc (Nat.le_refl _) _
  have hm2 := pmeter_new w1 2000000
  have hw2 : (w1.alloc (.cells #[.int .i64 0, .int .i64 0, .int .i64 2000000] 49)).heap.size = w1.heap.size + 1 := by simp
  generalize w1.alloc (.cells #[.int .i64 0, .int .i64 0, .int .i64 2000000] 49) = w2 at *
  have T2 := HT.out.later ((b1.trans (b2.mono (by omega))).mono hB) (Nat.le_refl _)
  rw [hw1] at hm2 hw2
  have HS := Lib.hid hs
  have B12 := Lib.hid (b1.trans (b2.mono (by omega)))
  have T2' := Lib.hid T2
  have hpa := Lib.hid (padd_any (pfZ.sz + 1) B (w.heap.size + 1) b o pfZ 0 0 2000000 1 w2 (by omega) (by omega) T2 hm2 (by omega) (by omega) (by omega) (by omega) (by omega) (by rw [depth_pfZ]; omega))
  clear T2 hm2 hs
  (with_reducible refine (callsIn_wide.2 hpa.out).mono ?_)
  rintro e w3 ⟨(⟨rfl, hfit, hm⟩ | ⟨rfl, hover, d', hm⟩), b3, _⟩
  · obtain ⟨m0, m1, m2, f0, f1⟩ := hm
    have B13 := Lib.hid (B12.out.trans (b3.mono (by omega)))
    have hc0 := (b3.cell (p := ⟨w.heap.size, 0, none⟩) (by show w.heap.size < w.heap.size + 1; omega)).trans ((b2.cell (p := ⟨w.heap.size, 0, none⟩) (by show w.heap.size < w1.heap.size; omega)).trans HS.out.1)
    have hf0 := (b3.frozen (p := ⟨w.heap.size, 0, none⟩) (by show w.heap.size < w.heap.size + 1; omega)).trans ((b2.frozen (p := ⟨w.heap.size, 0, none⟩) (by show w.heap.size < w1.heap.size; omega)).trans HS.out.2)
    rw [nodes_pfZ] at m0
    rw [depth_pfZ] at m1
    have e1 : (0 : Int) + ((1 : Nat) : Int) = 1 := by omega
    have e2 : max (0 : Int) (1 + ((1 : Nat) : Int) - 1) = 1 := by omega
    rw [e1] at m0
    rw [e2] at m1
    have HC0 := Lib.hid hc0
    have HF0 := Lib.hid hf0
    clear b1 b2 b3 hpa hfit hc0 hf0 e1 e2
    gi_wp2
    refine ⟨trivial, hdd _, ?_⟩
    refine (pnodes_ok (n - 1) b o w3).mono ?_
    rintro e w' ⟨rfl, rfl⟩
    gi_wp2
    have bA : Below w3.heap.size w3 (w3.alloc (.cells #[.pointer (some ⟨b, o, none⟩)] 42)) := (Below.refl _ w3).alloc (Nat.le_refl _) _
    have hc := newCell (W := w3) (v := .pointer (some ⟨b, o, none⟩)) (t := 42)
    have hs3 : (w3.alloc (.cells #[.pointer (some ⟨b, o, none⟩)] 42)).heap.size = w3.heap.size + 1 := by simp
    generalize w3.alloc (.cells #[.pointer (some ⟨b, o, none⟩)] 42) = w4 at *
    have hz3 := B13.out.size
    have b14 : Below w.heap.size w w4 := B13.out.trans (bA.mono hz3)
    have T4 := HT.out.later (b14.mono hB) (Nat.le_refl _)
    have hz4 := b14.size
    have hlt3 : w.heap.size < w3.heap.size := by
      have := block_of_cell HC0.out
      exact this
    have hc4 := (bA.cell (p := ⟨w.heap.size, 0, none⟩) hlt3).trans HC0.out
    have hf4 := (bA.frozen (p := ⟨w.heap.size, 0, none⟩) hlt3).trans HF0.out
    have HC4 := Lib.hid hc4
    have HF4 := Lib.hid hf4
    clear hc4 hf4
    refine wpIn_rangeFunc_ownF rfl (by omega) (gf := 17) (lb := #[.pointer (some ⟨w3.heap.size, 0, none⟩)]) rfl trivial (enters_of Tryd.func17 (by kernel_rfl) rfl)
      (pnodes_stops (n - 1) B w3.heap.size w4.heap.size b o pfZ w4 (fun t => t = pfZ) (fun t k h e => by subst e; simp [pfZ, Pf.kids] at h) rfl (by omega) (Nat.le_refl _) (by omega) T4 hc.1)
      belowK_t (belowK_b (Nat.le_refl _)) (Below.refl _ _) (fun _ => rfl)
      (fun l W => l = [] ∧ Below w4.heap.size w4 W) (fun c _ W => IxZ w.heap.size w4.heap.size w c W) (fun s A B row hs hg hr => ⟨hs.1, ownFrom_below (β := Unit) (Nat.le_refl _) (Nat.le_refl _) () A B row hs.2 hg hr⟩)
      (fun c s A B row hs hg hr => by
        obtain ⟨e, W0, k1, k2, k3, k4, k5⟩ := hs
        exact ⟨e, W0, k1, k2, k3, k4, k5.grown hg (Nat.le_trans k4 k5.size) (fun k e => (hr k e).1)⟩) ⟨rfl, Below.refl _ _⟩
      (fun x => { tmps := #[.pointer (some ⟨b, o, none⟩), undef, .pointer (some ⟨w.heap.size, 0, none⟩), .pointer (some ⟨w.heap.size + 1, 0, none⟩), .pointer (some ⟨x.b, x.o, none⟩), undef,
        .agg #[.int .i64 0, .int .i64 0, .int .i64 2000000], .pointer (some ⟨b, o, none⟩), .bool true, .pointer (some ⟨w.heap.size + 1, 0, none⟩), .int .i64 1, .bool false, .pointer (some ⟨w.heap.size + 1, 1, none⟩),
        .int .i64 1, .bool false, .pointer (some ⟨b, o, none⟩), .func (.func 17) #[] #[.pointer (some ⟨w3.heap.size, 0, none⟩)], .pointer (some ⟨x.b, x.o, none⟩), undef, undef, undef, undef, undef], defers := [] }) ?assign ?body ?done ?stop
    case assign =>
      intro l x W K hK
      have henc : PfNode.enc x = #[.pointer (some ⟨x.b, x.o, none⟩)] := rfl
      rw [henc]
      obtain ⟨xb, xo, xt, xa, xg⟩ := x
      simp only at hK ⊢
      gi_wp2
      exact hK
    case body =>
      intro l pre x W hW _
      obtain ⟨xb, xo, xt, xa, xg⟩ := x
      obtain ⟨hpre, hW⟩ := hW
      have hxa := xa.later (hW.mono (by omega)) (Nat.le_refl _)
      rw [xg] at hxa
      have hnode := node_zero xb xo W hxa.own.2.1
      have hcW := (hW.cell (p := ⟨w.heap.size, 0, none⟩) (by show w.heap.size < w4.heap.size; omega)).trans HC4.out
      have hfW := (hW.frozen (p := ⟨w.heap.size, 0, none⟩) (by show w.heap.size < w4.heap.size; omega)).trans HF4.out
      have HbW := Lib.hid (b14.trans (hW.mono hz4))
      have HzW := Lib.hid hW.size
      clear hxa hW
      simp only
      gi_wp2
      refine ⟨trivial, hdd _, ?_⟩
      refine (CallsIn.inRound l (callsIn_wide.2 hnode)).mono ?_
      rintro e w' ⟨rfl, rfl⟩
      gi_wp2
      exact ⟨ko_set hcW, rfl, _, HbW.out.setCell (p := ⟨w.heap.size, 0, none⟩) (Nat.le_refl _) _, World.cell?_setCell_same' _ _ _ (by rw [hcW]; rfl), by omega, by simpa [World.setCell] using HzW.out, Below.refl _ _⟩
    case done =>
      rintro D ys W hD hS hW hK
      rw [hW.1, pre_pfZ] at hS
      simp at hS
    case stop =>
      rintro D c pre W hD _ h hK
      obtain ⟨rfl, W0, k1, k2, k3, k4, k5⟩ := h
      have bP : Below w4.heap.size W (W.putObj D (.deferred none)) := belowK_b (w := w4) (Nat.le_refl _) W D _ _ hD hK rfl rfl
      have hcl := (bP.cell (p := ⟨w.heap.size, 0, none⟩) k3).trans ((k5.cell (p := ⟨w.heap.size, 0, none⟩) k3).trans k2)
      have hbe := (k1.trans (k5.mono hz4)).trans (bP.mono hz4)
      gi_wp2
      refine ⟨by simp, .inl ⟨_, _, rfl, run_takeDeferred hK, ?_⟩⟩
      exact ⟨_, results_c rfl _ _ ⟨w.heap.size, 0, none⟩ (.int .i64 70) rfl (run_loadVar_cell _ _ _ _ (Tryd.isAgg37 _) hcl), rfl, hbe⟩
  · exfalso
    rw [nodes_pfZ] at hover
    omega

set_option maxRecDepth 100000 in
set_option maxHeartbeats 4000000 in
theorem check_zero (w : World) :
    Calls Tryd.prog 4 #[.agg #[.int .i64 0, .string ⟨#[]⟩, .int .i64 0, .string ⟨#[]⟩, .int .i64 0, .int .i64 0, .string ⟨#[]⟩, .int .i64 0, .slice none 0 0, .slice none 0 0, .slice none 0 0, .slice none 0 0, .slice none 0 0, .slice none 0 0, .slice none 0 0, .int .i64 0, .slice none 0 0]] w fun e w' => e = .returned (.int .i64 70) ∧ Below w.heap.size w w' := by
  have hb : Below w.heap.size w (w.alloc (.cells (pcv 0 ⟨#[]⟩ none 0 0) 36)) := (Below.refl _ w).alloc (Nat.le_refl _) _
  have hA : AtPf (w.heap.size + 1) (w.alloc (.cells (pcv 0 ⟨#[]⟩ none 0 0) 36)) w.heap.size 0 pfZ :=
    cells_atPf (kids := []) (kb := 0) (ko := 0) (Nat.lt_succ_self _) (cells_new w 0 ⟨#[]⟩ none 0 0 36) (by decide) (by decide) (by decide) (fun h => absurd rfl h) fun i hi => by simp at hi
  have hc := Lib.hid (callsIn_wide.1 (check_zero_in 3 (w.heap.size + 1) w.heap.size 0 _ (Nat.le_refl _) (by simp) hA))
  have HB := Lib.hid hb
  clear hA hb
  unfold pcv at hc HB
  go_enter Tryd.func4, Tryd.ntmps4
  go_wp2_with fail
  (with_reducible refine hc.out.mono ?_)
  rintro e W ⟨rfl, hW⟩
  have HBW := Lib.hid (HB.out.trans (hW.mono HB.out.size))
  go_wp2_with fail
  go_ret
  exact ⟨rfl, HBW.out⟩
end Go.Proofs.YtdffhnfjcbnioaaDoor
