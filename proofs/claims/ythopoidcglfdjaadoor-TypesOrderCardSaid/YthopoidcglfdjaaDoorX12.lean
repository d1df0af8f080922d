/-
  Form finds no error in the type of functions of the last words.
-/
import Derived.Test.YthopoidcglfdjaaDoorX11
import Derived.RangeFuncFrom
import Derived.RangeFuncCalls
namespace Go.Proofs.YthopoidcglfdjaaDoor
open Go.RowKit Go.Shelf

attribute [local go_sem] Oper.semAt_some

theorem run_loadVar_cell {P : Program} (w : World) (a : Addr) (v : Value) (ty : TypeId) (ha : (isAgg ty).run P w = .ok false w) (hc : w.cell? a = some v) : (loadVar ty a).run P w = .ok v w := by
  simp [loadVar, Sem.run_bind, ha, Result.andThen, hc]
theorem results_c {P : Program} {fn : Func} {p : Tmp} {ty : TypeId} (h : fn.results = #[.cell p ty]) (tmps : Array Value) (w : World) (a : Addr) (v : Value) (hp : tmps.getD p undef = .pointer (some a)) (hl : (loadVar ty a).run P w = .ok v w) :
    (results fn tmps).run P w = .ok v w := by
  have hp' : tmps[p]?.getD undef = .pointer (some a) := by simpa using hp
  simp [results, h, hp', asAddr, hl]

theorem newCell {W : World} {v : Value} {t : TypeId} : (W.alloc (.cells #[v] t)).cell? ⟨W.heap.size, 0, none⟩ = some v ∧ (W.alloc (.cells #[v] t)).frozen? ⟨W.heap.size, 0, none⟩ = false := by
  have hb := Go.heap_alloc_new W (.cells #[v] t)
  exact ⟨by rw [Lib.cell_of_heap hb]; rfl, Lib.frozen_of_heap hb 0⟩

/-- The three nodes where they lie. -/
structure FunAt (B : Nat) (w : World) (b o ab ao cap : Nat) : Prop where
  at_ : AtTy B w b o tyFun
  lt : b < B
  k4 : w.cell? ⟨b, o + 4, none⟩ = some (.slice (some ⟨ab, ao, none⟩) 2 cap)
  q0 : AtTy B w ab ao tyA
  q1 : AtTy B w ab (ao + 5) tyProp

theorem FunAt.later {B B' b o ab ao cap : Nat} {w w' : World} (h : FunAt B w b o ab ao cap) (hw : Below B w w') (hB : B ≤ B') : FunAt B' w' b o ab ao cap :=
  ⟨AtTy.later hw hB h.at_, by have := h.lt; omega, (hw.cell (p := ⟨b, o + 4, none⟩) h.lt).trans h.k4, AtTy.later hw hB h.q0, AtTy.later hw hB h.q1⟩

set_option maxRecDepth 100000 in
set_option maxHeartbeats 4000000 in
theorem form_in (n B b o ab ao cap : Nat) (w : World) (hn : 3 ≤ n) (hB : B ≤ w.heap.size) (hT : FunAt B w b o ab ao cap) :
    CallsIn Fence.wide n Tryd.prog 20 #[.pointer (some ⟨b, o, none⟩)] w fun e w' => e = .returned (.int .i64 0) ∧ Below B w w' := by
  have hdd : ∀ k : Nat, (Fence.wide.depth.isSome = true → 1 ≤ k) := fun k h => by cases h
  have HT := Lib.hid hT
  clear hT
  refine callsIn_of_wp_marks Tryd.func20 rfl trivial ?_ rfl
  simp only [Tryd.ntmps20, List.size_toArray, List.length_cons, List.length_nil, Nat.reduceAdd, Nat.reduceSub, Array.replicate_succ, Array.replicate_zero, List.push_toArray, List.append_toArray, List.nil_append, List.cons_append]
  gi_wp2
  refine ⟨trivial, hdd _, ?_⟩
  have b1 : Below w.heap.size w (w.alloc (.cells #[.int .i64 0] 33)) := (Below.refl _ w).alloc (Nat.le_refl _) _
  have hs := newCell (W := w) (v := .int .i64 0) (t := 33)
  generalize hw1 : w.alloc (.cells #[.int .i64 0] 33) = w1 at *
  have hsz : w1.heap.size = w.heap.size + 1 := by rw [← hw1]; simp
  have T1 := HT.out.later (b1.mono hB) (Nat.le_refl _)
  refine (callsIn_wide.2 (size_ok B b o tyFun w1 T1.at_ (by omega) (by decide) (by decide))).mono ?_
  rintro e w2 ⟨rfl, b2⟩
  gi_wp2
  refine ⟨trivial, hdd _, ?_⟩
  refine (nodes_ok (n - 1) b o w2).mono ?_
  rintro e w' ⟨rfl, rfl⟩
  gi_wp2
  have b3 : Below w2.heap.size w2 (w2.alloc (.cells #[.pointer (some ⟨b, o, none⟩)] 42)) := (Below.refl _ w2).alloc (Nat.le_refl _) _
  have hc := newCell (W := w2) (v := .pointer (some ⟨b, o, none⟩)) (t := 42)
  have hs3 : (w2.alloc (.cells #[.pointer (some ⟨b, o, none⟩)] 42)).heap.size = w2.heap.size + 1 := by simp
  generalize w2.alloc (.cells #[.pointer (some ⟨b, o, none⟩)] 42) = w3 at *
  have s2 := b2.size
  have b13 : Below w1.heap.size w1 w3 := b2.trans (b3.mono s2)
  have T3 := T1.later (b13.mono (by omega)) (Nat.le_refl _)
  refine wpIn_rangeFunc_ownF rfl (by omega) (gf := 40) (lb := #[.pointer (some ⟨w2.heap.size, 0, none⟩)]) rfl trivial (enters_of Tryd.func40 (by kernel_rfl) rfl)
    (nodes_stops (n - 1) B w2.heap.size w3.heap.size b o ab ao cap w3 (by omega) (Nat.le_refl _) (by omega) T3.lt hc.1 T3.k4 T3.q0 T3.q1)
    belowK_t (belowK_b (Nat.le_refl _)) (Below.refl _ _) (fun _ => rfl)
    (fun _ W => Below w3.heap.size w3 W) (fun _ _ _ => False) (ownFrom_below (Nat.le_refl _) (Nat.le_refl _)) (fun _ _ _ _ _ hs _ _ => hs) (Below.refl _ _)
    (fun x => { tmps := #[.pointer (some ⟨b, o, none⟩), undef, .pointer (some ⟨w.heap.size, 0, none⟩), .int .i64 0, .pointer (some ⟨(locN b o ab ao x).1, (locN b o ab ao x).2, none⟩), undef, .pointer (some ⟨b, o, none⟩), .int .i64 0, .int .i64 0, .bool false, undef, .pointer (some ⟨b, o, none⟩), .func (.func 40) #[] #[.pointer (some ⟨w2.heap.size, 0, none⟩)], .pointer (some ⟨(locN b o ab ao x).1, (locN b o ab ao x).2, none⟩), undef, undef, undef, undef, undef], defers := [] }) ?assign ?body ?done ?stop
  case assign =>
    intro l x W K hK
    have henc : encN b o ab ao x = #[.pointer (some ⟨(locN b o ab ao x).1, (locN b o ab ao x).2, none⟩)] := rfl
    rw [henc]
    generalize locN b o ab ao x = lx at *
    gi_wp2
    exact hK
  case body =>
    intro l pre x W hW _
    have hnode : Calls Tryd.prog 33 #[.pointer (some ⟨(locN b o ab ao x).1, (locN b o ab ao x).2, none⟩)] W fun e w' => e = .returned (.int .i64 0) ∧ w' = W := by
      have TW := T3.later (hW.mono (by omega)) (Nat.le_refl _)
      match x with
      | 0 => exact node_ok B W b o tyFun (.inl rfl) TW.at_
      | 1 => exact node_ok B W ab ao tyA (.inr (.inl rfl)) TW.q0
      | 2 => exact node_ok B W ab (ao + 5) tyProp (.inr (.inr rfl)) TW.q1
    generalize locN b o ab ao x = lx at *
    gi_wp2
    refine ⟨trivial, hdd _, ?_⟩
    refine (CallsIn.inRound l (callsIn_wide.2 hnode)).mono ?_
    rintro e w' ⟨rfl, rfl⟩
    gi_wp2
    exact ⟨KeepsOthers.refl _, Below.refl _ _, hW⟩
  case done =>
    rintro D ys W hD rfl hW hK
    have bW : Below w1.heap.size w1 W := b13.trans (hW.mono (by omega))
    have hcell := (bW.cell (p := ⟨w.heap.size, 0, none⟩) (by show w.heap.size < w1.heap.size; omega)).trans hs.1
    have hfroz := (bW.frozen (p := ⟨w.heap.size, 0, none⟩) (by show w.heap.size < w1.heap.size; omega)).trans hs.2
    have hD2 : D ≠ w.heap.size := by omega
    gi_wp2
    have hK' : (W.setCell ⟨w.heap.size, 0, none⟩ (.int .i64 0)).heap[D]? = some (.deferred (some [])) := (Below.heap_setCell W ⟨w.heap.size, 0, none⟩ _ D hD2).trans hK
    have bP : Below w3.heap.size (W.setCell ⟨w.heap.size, 0, none⟩ (.int .i64 0)) ((W.setCell ⟨w.heap.size, 0, none⟩ (.int .i64 0)).putObj D (.deferred none)) := belowK_b (w := w3) (Nat.le_refl _) _ D _ _ hD hK' rfl rfl
    refine ⟨by simp, .inl ⟨_, _, rfl, run_takeDeferred hK', ?_⟩⟩
    refine ⟨_, results_c rfl _ _ ⟨w.heap.size, 0, none⟩ (.int .i64 0) rfl (run_loadVar_cell _ _ _ _ (Tryd.isAgg33 _) ?_), rfl, ?_⟩
    · refine (bP.cell (p := ⟨w.heap.size, 0, none⟩) (by show w.heap.size < w3.heap.size; omega)).trans ?_
      exact World.cell?_setCell_same' _ _ _ (by rw [hcell]; rfl)
    · exact (((b1.mono hB).trans (bW.mono (by omega))).setCell (p := ⟨w.heap.size, 0, none⟩) hB _).trans (bP.mono (by omega))
  case stop =>
    rintro D c pre W _ _ h _
    exact h.elim

theorem form_ok (B b o ab ao cap : Nat) (w : World) (hB : B ≤ w.heap.size) (hT : FunAt B w b o ab ao cap) :
    Calls Tryd.prog 20 #[.pointer (some ⟨b, o, none⟩)] w fun e w' => e = .returned (.int .i64 0) ∧ Below B w w' :=
  callsIn_wide.1 (form_in 3 B b o ab ao cap w (Nat.le_refl _) hB hT)
end Go.Proofs.YthopoidcglfdjaaDoor
