/-
  proof.check of a proof whose nodes are all as they should be: the limits alone decide.
-/
import Derived.Test.YtdffhnfjcbnioaaDoorP5
namespace Go.Proofs.YtdffhnfjcbnioaaDoor
open Go.RowKit Go.Shelf

attribute [local go_sem] Oper.semAt_some

/-- The error of a proof whose nodes have none. -/
def limitE (T : Pf) : Int := if 2000000 < T.nodes then 5 else if 30000 < T.depth then 6 else 0

theorem pmeter_new (w : World) (n : Int) : MeterAt w.heap.size 0 0 n (w.alloc (.cells #[.int .i64 0, .int .i64 0, .int .i64 n] 49)) := by
  have hb := Go.heap_alloc_new w (.cells #[.int .i64 0, .int .i64 0, .int .i64 n] 49)
  refine ⟨?_, ?_, ?_, Lib.frozen_of_heap hb 0, Lib.frozen_of_heap hb 1⟩
  · rw [Lib.cell_of_heap hb]; rfl
  · rw [Lib.cell_of_heap hb]; rfl
  · rw [Lib.cell_of_heap hb]; rfl

/-- New blocks alone: what others lay stays. -/
theorem ko_below {W w' : World} (h : Below W.heap.size W w') : KeepsOthers W w' := ⟨h.size, fun k o hk _ => by
  have hlt : k < W.heap.size := by
    rcases Nat.lt_or_ge k W.heap.size with h' | h'
    · exact h'
    · simp [Array.getElem?_eq_none h'] at hk
  exact (h.block k hlt).trans hk⟩

set_option maxRecDepth 100000 in
set_option maxHeartbeats 4000000 in
theorem check_in (n B b o : Nat) (T : Pf) (w : World) (hn : 3 ≤ n) (hB : B ≤ w.heap.size) (hT : AtPf B w b o T) (hK : Kinds w) (hG : GoodPf T) (hD : T.depth ≤ 900000000) :
    CallsIn Fence.wide n Tryd.prog 6 #[.pointer (some ⟨b, o, none⟩)] w fun e w' => e = .returned (.int .i64 (limitE T)) ∧ Below w.heap.size w w' := by
  have hdd : ∀ k : Nat, (Fence.wide.depth.isSome = true → 1 ≤ k) := fun k h => by cases h
  have HT := Lib.hid hT
  have HK := Lib.hid hK
  clear hT hK
  refine callsIn_of_wp_marks Tryd.func6 rfl trivial ?_ rfl
  simp only [Tryd.ntmps6, List.size_toArray, List.length_cons, List.length_nil, Nat.reduceAdd, Nat.reduceSub, Array.replicate_succ, Array.replicate_zero, List.push_toArray, List.append_toArray, List.nil_append, List.cons_append]
  gi_wp2
  refine ⟨trivial, hdd _, ?_⟩
  have b1 : Below w.heap.size w (w.alloc (.cells #[.int .i64 0] 37)) := (Below.refl _ w).alloc (Nat.le_refl _) _
  have hs := newCell (W := w) (v := .int .i64 0) (t := 37)
  have hw1 : (w.alloc (.cells #[.int .i64 0] 37)).heap.size = w.heap.size + 1 := by simp
  generalize w.alloc (.cells #[.int .i64 0] 37) = w1 at *
  have b2 : Below w1.heap.size w1 (w1.alloc (.cells #[.int .i64 0, .int .i64 0, .int .i64 2000000] 49)) := (Below.refl _ w1).alloc (Nat.le_refl _) _
  have hm2 := pmeter_new w1 2000000
  have hw2 : (w1.alloc (.cells #[.int .i64 0, .int .i64 0, .int .i64 2000000] 49)).heap.size = w1.heap.size + 1 := by simp
  generalize w1.alloc (.cells #[.int .i64 0, .int .i64 0, .int .i64 2000000] 49) = w2 at *
  have T2 := HT.out.later ((b1.trans (b2.mono (by omega))).mono hB) (Nat.le_refl _)
  rw [hw1] at hm2 hw2
  have HS := Lib.hid hs
  have B12 := Lib.hid (b1.trans (b2.mono (by omega)))
  have T2' := Lib.hid T2
  have hpa := Lib.hid (padd_any (T.sz + 1) B (w.heap.size + 1) b o T 0 0 2000000 1 w2 (by omega) (by omega) T2 hm2 (by omega) (by omega) (by omega) (by omega) (by omega) (by omega))
  clear T2 hm2 hs
  (with_reducible refine (callsIn_wide.2 hpa.out).mono ?_)
  rintro e w3 ⟨(⟨rfl, hfit, hm⟩ | ⟨rfl, hover, d', hm⟩), b3, _⟩
  · obtain ⟨m0, m1, m2, f0, f1⟩ := hm
    have B13 := Lib.hid (B12.out.trans (b3.mono (by omega)))
    have hc0 := (b3.cell (p := ⟨w.heap.size, 0, none⟩) (by show w.heap.size < w.heap.size + 1; omega)).trans ((b2.cell (p := ⟨w.heap.size, 0, none⟩) (by show w.heap.size < w1.heap.size; omega)).trans HS.out.1)
    have hf0 := (b3.frozen (p := ⟨w.heap.size, 0, none⟩) (by show w.heap.size < w.heap.size + 1; omega)).trans ((b2.frozen (p := ⟨w.heap.size, 0, none⟩) (by show w.heap.size < w1.heap.size; omega)).trans HS.out.2)
    obtain ⟨nn, hnn⟩ : ∃ nn : Int, 0 + (T.nodes : Int) = nn := ⟨_, rfl⟩
    obtain ⟨dd, hdd'⟩ : ∃ dd : Int, max 0 (1 + (T.depth : Int) - 1) = dd := ⟨_, rfl⟩
    rw [hnn] at m0 hfit
    rw [hdd'] at m1
    have hn2 : ¬ 2000000 < nn := by omega
    have hdp := T.depth_pos
    by_cases hd2 : 30000 < dd
    · have HL : Hid (limitE T = 6) := Lib.hid (by unfold limitE; rw [if_neg (by omega), if_pos (by omega)])
      clear b1 b2 b3 hpa hnn hdd' hfit hdp
      gi_wp2
      rw [HL.out]
      refine ⟨_, results_c rfl _ _ ⟨w.heap.size, 0, none⟩ (.int .i64 6) rfl (run_loadVar_cell _ _ _ _ (Tryd.isAgg37 _) ?_), rfl, ?_⟩
      · exact World.cell?_setCell_same' _ _ _ (by rw [hc0]; rfl)
      · exact B13.out.setCell (p := ⟨w.heap.size, 0, none⟩) (Nat.le_refl _) _
    · have HL : Hid (limitE T = 0) := Lib.hid (by unfold limitE; rw [if_neg (by omega), if_neg (by omega)])
      have HC0 := Lib.hid hc0
      have HF0 := Lib.hid hf0
      clear b1 b2 b3 hpa hnn hdd' hfit hdp hc0 hf0
      gi_wp2
      refine ⟨trivial, hdd _, ?_⟩
      refine (pnodes_ok (n - 1) b o w3).mono ?_
      rintro e w' ⟨rfl, rfl⟩
      gi_wp2
      have bA : Below w3.heap.size w3 (w3.alloc (.cells #[.pointer (some ⟨b, o, none⟩)] 42)) := (Below.refl _ w3).alloc (Nat.le_refl _) _
      have hc := newCell (W := w3) (v := .pointer (some ⟨b, o, none⟩)) (t := 42)
      have hs3 : (w3.alloc (.cells #[.pointer (some ⟨b, o, none⟩)] 42)).heap.size = w3.heap.size + 1 := by simp
      generalize w3.alloc (.cells #[.pointer (some ⟨b, o, none⟩)] 42) = w4 at *
      have hz3 := B13.out.size
      have b14 : Below w.heap.size w w4 := B13.out.trans (bA.mono hz3)
      have T4 := HT.out.later (b14.mono hB) (Nat.le_refl _)
      have K4 := HK.out.later b14
      have hz4 := b14.size
      have hlt3 : w.heap.size < w3.heap.size := by
        have := block_of_cell HC0.out
        exact this
      have hc4 := (bA.cell (p := ⟨w.heap.size, 0, none⟩) hlt3).trans HC0.out
      have hf4 := (bA.frozen (p := ⟨w.heap.size, 0, none⟩) hlt3).trans HF0.out
      have HC4 := Lib.hid hc4
      have HF4 := Lib.hid hf4
      clear hc4 hf4
      refine wpIn_rangeFunc_ownF rfl (by omega) (gf := 17) (lb := #[.pointer (some ⟨w3.heap.size, 0, none⟩)]) rfl trivial (enters_of Tryd.func17 (by kernel_rfl) rfl)
        (pnodes_stops (n - 1) B w3.heap.size w4.heap.size b o T w4 GoodPf GoodPf.kid hG (by omega) (Nat.le_refl _) (by omega) T4 hc.1)
        belowK_t (belowK_b (Nat.le_refl _)) (Below.refl _ _) (fun _ => rfl)
        (fun _ W => Below w4.heap.size w4 W) (fun _ _ _ => False) (ownFrom_below (Nat.le_refl _) (Nat.le_refl _)) (fun _ _ _ _ _ hs _ _ => hs) (Below.refl _ _)
        (fun x => { tmps := #[.pointer (some ⟨b, o, none⟩), undef, .pointer (some ⟨w.heap.size, 0, none⟩), .pointer (some ⟨w.heap.size + 1, 0, none⟩), .pointer (some ⟨x.b, x.o, none⟩), undef,
          .agg #[.int .i64 0, .int .i64 0, .int .i64 2000000], .pointer (some ⟨b, o, none⟩), .bool true, .pointer (some ⟨w.heap.size + 1, 0, none⟩), .int .i64 nn, .bool (decide (2000000 < nn)), .pointer (some ⟨w.heap.size + 1, 1, none⟩),
          .int .i64 dd, .bool (decide (30000 < dd)), .pointer (some ⟨b, o, none⟩), .func (.func 17) #[] #[.pointer (some ⟨w3.heap.size, 0, none⟩)], .pointer (some ⟨x.b, x.o, none⟩), undef, undef, undef, undef, undef], defers := [] }) ?assign ?body ?done ?stop
      case assign =>
        intro l x W K hK
        have henc : PfNode.enc x = #[.pointer (some ⟨x.b, x.o, none⟩)] := rfl
        rw [henc]
        obtain ⟨xb, xo, xt, xa, xg⟩ := x
        simp only at hK ⊢
        gi_wp2
        exact hK
      case body =>
        intro l pre x W hW _
        obtain ⟨xb, xo, xt, xa, xg⟩ := x
        have hnode := node_good B xb xo xt W (by have := hW.size; omega) (xa.later (hW.mono (by omega)) (Nat.le_refl _)) (K4.later hW) xg.node
        simp only
        gi_wp2
        refine ⟨trivial, hdd _, ?_⟩
        refine (CallsIn.inRound l (callsIn_wide.2 hnode)).mono ?_
        rintro e w' ⟨rfl, hb'⟩
        have hb2 : Below w4.heap.size W w' := hb'.mono hW.size
        gi_wp2
        exact ⟨ko_below hb', hb2, hW.trans hb2⟩
      case done =>
        rintro D ys W hD _ hW hK
        have bW : Below w.heap.size w W := b14.trans (hW.mono hz4)
        have hcell := (hW.cell (p := ⟨w.heap.size, 0, none⟩) (by show w.heap.size < w4.heap.size; omega)).trans HC4.out
        have hfroz := (hW.frozen (p := ⟨w.heap.size, 0, none⟩) (by show w.heap.size < w4.heap.size; omega)).trans HF4.out
        have hD2 : D ≠ w.heap.size := by omega
        gi_wp2
        have hK' : (W.setCell ⟨w.heap.size, 0, none⟩ (.int .i64 0)).heap[D]? = some (.deferred (some [])) := (Below.heap_setCell W ⟨w.heap.size, 0, none⟩ _ D hD2).trans hK
        have bP : Below w4.heap.size (W.setCell ⟨w.heap.size, 0, none⟩ (.int .i64 0)) ((W.setCell ⟨w.heap.size, 0, none⟩ (.int .i64 0)).putObj D (.deferred none)) := belowK_b (w := w4) (Nat.le_refl _) _ D _ _ hD hK' rfl rfl
        refine ⟨by simp, .inl ⟨_, _, rfl, run_takeDeferred hK', ?_⟩⟩
        rw [HL.out]
        refine ⟨_, results_c rfl _ _ ⟨w.heap.size, 0, none⟩ (.int .i64 0) rfl (run_loadVar_cell _ _ _ _ (Tryd.isAgg37 _) ?_), rfl, ?_⟩
        · refine (bP.cell (p := ⟨w.heap.size, 0, none⟩) (by show w.heap.size < w4.heap.size; omega)).trans ?_
          exact World.cell?_setCell_same' _ _ _ (by rw [hcell]; rfl)
        · exact (bW.setCell (p := ⟨w.heap.size, 0, none⟩) (Nat.le_refl _) _).trans (bP.mono hz4)
      case stop =>
        rintro D c pre W _ _ h _
        exact h.elim
  · obtain ⟨m0, m1, m2, f0, f1⟩ := hm
    have B13 := Lib.hid (B12.out.trans (b3.mono (by omega)))
    have hc0 := (b3.cell (p := ⟨w.heap.size, 0, none⟩) (by show w.heap.size < w.heap.size + 1; omega)).trans ((b2.cell (p := ⟨w.heap.size, 0, none⟩) (by show w.heap.size < w1.heap.size; omega)).trans HS.out.1)
    have hf0 := (b3.frozen (p := ⟨w.heap.size, 0, none⟩) (by show w.heap.size < w.heap.size + 1; omega)).trans ((b2.frozen (p := ⟨w.heap.size, 0, none⟩) (by show w.heap.size < w1.heap.size; omega)).trans HS.out.2)
    have HL : Hid (limitE T = 5) := Lib.hid (by unfold limitE; rw [if_pos (by omega)])
    clear b1 b2 b3 hpa hover
    simp only [Int.reduceAdd] at m0
    gi_wp2
    rw [HL.out]
    refine ⟨_, results_c rfl _ _ ⟨w.heap.size, 0, none⟩ (.int .i64 5) rfl (run_loadVar_cell _ _ _ _ (Tryd.isAgg37 _) ?_), rfl, ?_⟩
    · exact World.cell?_setCell_same' _ _ _ (by rw [hc0]; rfl)
    · exact B13.out.setCell (p := ⟨w.heap.size, 0, none⟩) (Nat.le_refl _) _

theorem check_good (B b o : Nat) (T : Pf) (w : World) (hB : B ≤ w.heap.size) (hT : AtPf B w b o T) (hK : Kinds w) (hG : GoodPf T) (hD : T.depth ≤ 900000000) :
    Calls Tryd.prog 6 #[.pointer (some ⟨b, o, none⟩)] w fun e w' => e = .returned (.int .i64 (limitE T)) ∧ Below w.heap.size w w' :=
  callsIn_wide.1 (check_in 3 B b o T w (Nat.le_refl _) hB hT hK hG hD)
end Go.Proofs.YtdffhnfjcbnioaaDoor
