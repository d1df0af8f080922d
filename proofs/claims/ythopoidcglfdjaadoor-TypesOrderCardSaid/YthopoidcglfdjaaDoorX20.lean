/-
  MaxIndex of the type of functions of the last words is 0.
-/
import Derived.Test.YthopoidcglfdjaaDoorRq
namespace Go.Proofs.YthopoidcglfdjaaDoor
open Go.RowKit Go.Shelf

attribute [local go_sem] Oper.semAt_some

/-- The variable has come. -/
def hitB (l : List (Fin 3)) : Bool := l.any (· == 1)
theorem hitB_snoc (l : List (Fin 3)) (x : Fin 3) : hitB (l ++ [x]) = (hitB l || x == 1) := by simp [hitB]
/-- The greatest index so far, and whether there is one. -/
def MaxI (n : Nat) (w0 : World) (l : List (Fin 3)) (W : World) : Prop :=
  W.heap[n + 1]? = some (.cells #[.int .i64 (if hitB l then 0 else -1)] 3 (0, 0)) ∧ W.heap[n + 1 + 1]? = some (.cells #[.bool (hitB l)] 4 (0, 0)) ∧ Below (n + 1) w0 W

theorem ownFrom_max {n B : Nat} {w0 : World} (h0 : n + 1 ≤ w0.heap.size) (h1 : n + 1 + 1 < B) : OwnFrom B (MaxI n w0) := by
  intro l W W' row hs hg hr
  refine ⟨?_, ?_, hs.2.2.grown hg (Nat.le_trans h0 hs.2.2.size) (fun k e => by have := (hr k e).1; omega)⟩
  · exact (hg.block _ (Array.getElem?_eq_some_iff.1 hs.1).1 (fun e => by have := (hr _ e.symm).1; omega)).trans hs.1
  · exact (hg.block _ (Array.getElem?_eq_some_iff.1 hs.2.1).1 (fun e => by have := (hr _ e.symm).1; omega)).trans hs.2.1

theorem op_con {B b o : Nat} {w : World} (h : AtTy B w b o tyFun) : w.cell? ⟨b, o, none⟩ = some (.int .i64 1) ∧ w.cell? ⟨b, o + 2, none⟩ = some (.int .i64 0) := by
  obtain ⟨_, _, op, ix, nm, srt, args, vs, a, cap, ab, ao, hb, k0, k1, k2, k3, k4, hop, hix, hnm, hs, hl, ha, he⟩ := h
  exact ⟨k0, k2⟩
theorem op_a {B b o : Nat} {w : World} (h : AtTy B w b o tyA) : w.cell? ⟨b, o, none⟩ = some (.int .i64 3) ∧ w.cell? ⟨b, o + 2, none⟩ = some (.int .i64 0) := by
  obtain ⟨_, _, op, ix, nm, srt, args, vs, a, cap, ab, ao, hb, k0, k1, k2, k3, k4, hop, hix, hnm, hs, hl, ha, he⟩ := h
  exact ⟨k0, k2⟩
theorem op_prop {B b o : Nat} {w : World} (h : AtTy B w b o tyProp) : w.cell? ⟨b, o, none⟩ = some (.int .i64 1) ∧ w.cell? ⟨b, o + 2, none⟩ = some (.int .i64 0) := by
  obtain ⟨_, _, op, ix, nm, srt, args, vs, a, cap, ab, ao, hb, k0, k1, k2, k3, k4, hop, hix, hnm, hs, hl, ha, he⟩ := h
  exact ⟨k0, k2⟩

theorem ko_drewN (W : World) (q : Nat) : KeepsOthers W (W.drewN q) := ⟨Nat.le_refl _, fun _ _ h _ => h⟩

set_option maxRecDepth 100000 in
set_option maxHeartbeats 4000000 in
theorem max_in (n B : Nat) (v : Value) (w : World) (hn : 3 ≤ n) (hB : B ≤ w.heap.size) (hv : HasTy B w v tyFun) :
    CallsIn Fence.wide n Tryd.prog 14 #[v] w fun e w' => e = .returned (.int .i64 0) ∧ Below w.heap.size w w' := by
  obtain ⟨vs, rfl, a1⟩ := hv.boxed hB 25
  obtain ⟨ab, ao, cap, hf⟩ := funAt_of a1
  have HF := Lib.hid hf
  have hdd : ∀ k : Nat, (Fence.wide.depth.isSome = true → 1 ≤ k) := fun k h => by cases h
  clear a1 hf hv
  refine callsIn_of_wp_marks Tryd.func14 rfl trivial ?_ rfl
  simp only [Tryd.ntmps14, List.size_toArray, List.length_cons, List.length_nil, Nat.reduceAdd, Nat.reduceSub, Array.replicate_succ, Array.replicate_zero, List.push_toArray, List.append_toArray, List.nil_append, List.cons_append]
  gi_wp2
  refine ⟨trivial, hdd _, ?_⟩
  have bA : Below (w.heap.size + 1) (w.alloc (.cells vs 25)) (((w.alloc (.cells vs 25)).alloc (.cells #[.int .i64 (-1)] 3)).alloc (.cells #[.bool false] 4)) := (((Below.refl _ (w.alloc (.cells vs 25))).alloc (by simp) _).alloc (by simp) _)
  have b0 : Below w.heap.size w (w.alloc (.cells vs 25)) := (Below.refl _ w).alloc (Nat.le_refl _) _
  have sA : (((w.alloc (.cells vs 25)).alloc (.cells #[.int .i64 (-1)] 3)).alloc (.cells #[.bool false] 4)).heap.size = w.heap.size + 3 := by simp
  have m1 : (((w.alloc (.cells vs 25)).alloc (.cells #[.int .i64 (-1)] 3)).alloc (.cells #[.bool false] 4)).heap[w.heap.size + 1]? = some (.cells #[.int .i64 (-1)] 3 (0, 0)) := by
    rw [Below.heap_alloc _ _ _ (by simp)]; exact Go.heap_alloc2_new w _ _
  have m2 : (((w.alloc (.cells vs 25)).alloc (.cells #[.int .i64 (-1)] 3)).alloc (.cells #[.bool false] 4)).heap[w.heap.size + 1 + 1]? = some (.cells #[.bool false] 4 (0, 0)) := by
    have := Go.heap_alloc_new ((w.alloc (.cells vs 25)).alloc (.cells #[.int .i64 (-1)] 3)) (.cells #[.bool false] 4)
    simpa using this
  have FA := HF.out.later bA (Nat.le_refl _)
  generalize (((w.alloc (.cells vs 25)).alloc (.cells #[.int .i64 (-1)] 3)).alloc (.cells #[.bool false] 4)) = wA at *
  refine (nodes_ok (n - 1) w.heap.size 0 wA).mono ?_
  rintro e w' ⟨rfl, rfl⟩
  have SA := Lib.hid sA
  clear sA
  gi_wp2
  have sA := SA.out
  have b3 : Below wA.heap.size wA (wA.alloc (.cells #[.pointer (some ⟨w.heap.size, 0, none⟩)] 42)) := (Below.refl _ wA).alloc (Nat.le_refl _) _
  have hc := newCell (W := wA) (v := .pointer (some ⟨w.heap.size, 0, none⟩)) (t := 42)
  have hs3 : (wA.alloc (.cells #[.pointer (some ⟨w.heap.size, 0, none⟩)] 42)).heap.size = wA.heap.size + 1 := by simp
  generalize wA.alloc (.cells #[.pointer (some ⟨w.heap.size, 0, none⟩)] 42) = w3 at *
  have F3 := FA.later (b3.mono (by omega)) (Nat.le_refl _)
  have M0 : MaxI w.heap.size w3 [] w3 := ⟨(b3.block _ (by omega)).trans m1, (b3.block _ (by omega)).trans m2, Below.refl _ _⟩
  clear sA
  have hgt : w.heap.size + 1 + 1 < wA.heap.size := by have := SA.out; omega
  refine wpIn_rangeFunc_ownF rfl (by omega) (gf := 40) (lb := #[.pointer (some ⟨wA.heap.size, 0, none⟩)]) rfl trivial (enters_of Tryd.func40 (by kernel_rfl) rfl)
    (nodes_stops (n - 1) (w.heap.size + 1) wA.heap.size (w.heap.size + 1) w.heap.size 0 ab ao cap w3 (by omega) (by omega) (Nat.le_refl _) F3.lt hc.1 F3.k4 F3.q0 F3.q1)
    belowK_t (belowK_b (by omega)) (Below.refl _ _) (fun _ => rfl)
    (MaxI w.heap.size w3) (fun _ _ _ => False) (ownFrom_max (by omega) (by omega)) (fun _ _ _ _ _ hs _ _ => hs) M0
    (fun x => { tmps := #[.agg vs, .pointer (some ⟨w.heap.size, 0, none⟩), .int .i64 0, .pointer (some ⟨w.heap.size + 1, 0, none⟩), .pointer (some ⟨w.heap.size + 1 + 1, 0, none⟩), .pointer (some ⟨(locN w.heap.size 0 ab ao x).1, (locN w.heap.size 0 ab ao x).2, none⟩), .func (.func 40) #[] #[.pointer (some ⟨wA.heap.size, 0, none⟩)], .pointer (some ⟨(locN w.heap.size 0 ab ao x).1, (locN w.heap.size 0 ab ao x).2, none⟩), undef, undef, undef, undef, undef, undef, undef, undef, undef, undef, undef, undef, undef, undef, undef, undef, undef, undef, undef, undef, undef, undef], defers := [] }) ?assign ?body ?done ?stop
  case assign =>
    intro l x W K hK
    have henc : encN w.heap.size 0 ab ao x = #[.pointer (some ⟨(locN w.heap.size 0 ab ao x).1, (locN w.heap.size 0 ab ao x).2, none⟩)] := rfl
    rw [henc]
    generalize locN w.heap.size 0 ab ao x = lx at *
    gi_wp2
    exact hK
  case body =>
    intro l pre x W hI _
    have TW := F3.later hI.2.2 (Nat.le_refl _)
    have hnode : W.cell? ⟨(locN w.heap.size 0 ab ao x).1, (locN w.heap.size 0 ab ao x).2, none⟩ = some (.int .i64 (if x = 1 then 3 else 1)) ∧ W.cell? ⟨(locN w.heap.size 0 ab ao x).1, (locN w.heap.size 0 ab ao x).2 + 2, none⟩ = some (.int .i64 0) := by
      match x with
      | 0 => exact op_con TW.at_
      | 1 => exact op_a TW.q0
      | 2 => exact op_prop TW.q1
    have hsn := hitB_snoc pre x
    generalize locN w.heap.size 0 ab ao x = lx at *
    obtain ⟨hop, hix⟩ := hnode
    obtain ⟨i1, i2, i3⟩ := hI
    have j1 : W.drew.heap[w.heap.size + 1]? = _ := i1
    have j2 : W.drew.heap[w.heap.size + 1 + 1]? = _ := i2
    have bd : Below (w.heap.size + 1) W W.drew := below_drewN (Below.refl _ _) 1
    have hop' : W.drew.cell? ⟨lx.1, lx.2, none⟩ = _ := hop
    have hix' : W.drew.cell? ⟨lx.1, lx.2 + 2, none⟩ = _ := hix
    have f1 : W.drew.frozen? ⟨w.heap.size + 1, 0, none⟩ = false := Lib.frozen_of_heap j1 0
    have f2 : W.drew.frozen? ⟨w.heap.size + 1 + 1, 0, none⟩ = false := Lib.frozen_of_heap j2 0
    have f1' : W.frozen? ⟨w.heap.size + 1, 0, none⟩ = false := f1
    have f2' : W.frozen? ⟨w.heap.size + 1 + 1, 0, none⟩ = false := f2
    have n1 : w.heap.size + 1 + 1 ≠ w.heap.size + 1 := by omega
    have hmix : Tryd.prog.follows .mixedOrders = true := by kernel_rfl
    by_cases hx : x = 1
    · subst hx
      simp only [if_true] at hop hop'
      cases hh : hitB pre
      · rw [hh] at i1 i2 j1 j2 hsn
        have hsn' : hitB (pre ++ [1]) = true := by rw [hsn]; rfl
        have c1 : W.drew.cell? ⟨w.heap.size + 1, 0, none⟩ = some (.int .i64 (-1)) := by rw [Lib.cell_of_heap j1]; rfl
        have c2 : W.drew.cell? ⟨w.heap.size + 1 + 1, 0, none⟩ = some (.bool false) := by rw [Lib.cell_of_heap j2]; rfl
        have c1' : W.cell? ⟨w.heap.size + 1, 0, none⟩ = some (.int .i64 (-1)) := c1
        have c2' : W.cell? ⟨w.heap.size + 1 + 1, 0, none⟩ = some (.bool false) := c2
        have H := Lib.hid hsn'
        have I1 := Lib.hid i1
        have I2 := Lib.hid i2
        clear hsn hsn' i1 i2 j1 j2 hh
        gi_wp2
        refine wpIn_region_quiet_round l rfl (by kernel_rfl) (by kernel_rfl) (by kernel_rfl) ?_
        repeat (gi_big_quiet_step (fail))
        refine wpQuietIn_nil ?_
        intro _ hw'
        obtain ⟨nq, rfl⟩ := hw'
        gi_wp2
        all_goals
          refine ⟨(ko_drewN W nq).trans ((KeepsOthers.setCell _ _ _).trans (KeepsOthers.setCell _ _ _)), ((below_drewN (Below.refl (w.heap.size + 1) W) nq).setCell (p := ⟨w.heap.size + 1, 0, none⟩) (Nat.le_refl _) _).setCell (p := ⟨w.heap.size + 1 + 1, 0, none⟩) (by show w.heap.size + 1 ≤ w.heap.size + 1 + 1; omega) _, ?_, ?_, ?_⟩
          · rw [H.out]; exact blk_set (Go.heap_setCell_same (W.drewN nq) _ 0 _ 3 (.int .i64 0) I1.out) ⟨w.heap.size + 1 + 1, 0, none⟩ n1.symm _
          · rw [H.out]; exact Go.heap_setCell_same _ _ 0 _ 4 (.bool true) (blk_set (w := W.drewN nq) I2.out ⟨w.heap.size + 1, 0, none⟩ n1 _)
          · exact ((i3.trans (below_drewN (Below.refl _ W) nq)).setCell (p := ⟨w.heap.size + 1, 0, none⟩) (Nat.le_refl _) _).setCell (p := ⟨w.heap.size + 1 + 1, 0, none⟩) (by show w.heap.size + 1 ≤ w.heap.size + 1 + 1; omega) _
      · rw [hh] at i1 i2 j1 j2 hsn
        have hsn' : hitB (pre ++ [1]) = true := by rw [hsn]; rfl
        have c1 : W.drew.cell? ⟨w.heap.size + 1, 0, none⟩ = some (.int .i64 0) := by rw [Lib.cell_of_heap j1]; rfl
        have c2 : W.drew.cell? ⟨w.heap.size + 1 + 1, 0, none⟩ = some (.bool true) := by rw [Lib.cell_of_heap j2]; rfl
        have c1' : W.cell? ⟨w.heap.size + 1, 0, none⟩ = some (.int .i64 0) := c1
        have c2' : W.cell? ⟨w.heap.size + 1 + 1, 0, none⟩ = some (.bool true) := c2
        have H := Lib.hid hsn'
        have I1 := Lib.hid i1
        have I2 := Lib.hid i2
        clear hsn hsn' i1 i2 j1 j2 hh
        gi_wp2
        refine wpIn_region_quiet_round l rfl (by kernel_rfl) (by kernel_rfl) (by kernel_rfl) ?_
        repeat (gi_big_quiet_step (fail))
        refine wpQuietIn_nil ?_
        intro _ hw'
        obtain ⟨nq, rfl⟩ := hw'
        gi_wp2
        all_goals exact ⟨ko_drewN _ _, below_drewN (Below.refl _ _) nq, by rw [H.out]; exact I1.out, by rw [H.out]; exact I2.out, i3.trans (below_drewN (Below.refl _ _) nq)⟩
    · rw [if_neg hx] at hop hop'
      have hsn' : hitB (pre ++ [x]) = hitB pre := by rw [hsn]; simp [hx]
      have H := Lib.hid hsn'
      have I1 := Lib.hid i1
      have I2 := Lib.hid i2
      clear hsn hsn' i1 i2 j1 j2
      gi_wp2
      refine wpIn_region_quiet_round l rfl (by kernel_rfl) (by kernel_rfl) (by kernel_rfl) ?_
      (repeat (gi_big_quiet_step (fail)))
      refine wpQuietIn_nil ?_
      intro _ hw'
      obtain ⟨nq, rfl⟩ := hw'
      gi_wp2
      exact ⟨ko_drewN _ _, below_drewN (Below.refl _ _) nq, by rw [H.out]; exact I1.out, by rw [H.out]; exact I2.out, i3.trans (below_drewN (Below.refl _ _) nq)⟩
  case done =>
    rintro D ys W hD rfl hI hK
    have c1 : W.cell? ⟨w.heap.size + 1, 0, none⟩ = some (.int .i64 0) := by rw [Lib.cell_of_heap hI.1]; rfl
    gi_wp2
    have bP : Below w3.heap.size W (W.putObj D (.deferred none)) := belowK_b (w := w3) (Nat.le_refl _) _ D _ _ hD hK rfl rfl
    refine ⟨by simp, .inl ⟨_, _, rfl, run_takeDeferred hK, ?_⟩⟩
    exact ⟨_, results_tmp rfl _ _ _, rfl, (((b0.trans (bA.mono (by omega))).trans (b3.mono (by omega))).trans (hI.2.2.mono (by omega))).trans (bP.mono (by omega))⟩
  case stop =>
    rintro D c pre W _ _ h _
    exact h.elim

theorem max_ok (B : Nat) (v : Value) (w : World) (hB : B ≤ w.heap.size) (hv : HasTy B w v tyFun) :
    Calls Tryd.prog 14 #[v] w fun e w' => e = .returned (.int .i64 0) ∧ Below w.heap.size w w' :=
  callsIn_wide.1 (max_in 3 B v w (Nat.le_refl _) hB hv)
end Go.Proofs.YthopoidcglfdjaaDoor
