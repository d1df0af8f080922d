/-
  types.Form of a type whose nodes are constructors without an index and without a sort.
-/
import Derived.Test.YtdffhnfjcbnioaaDoorW1
namespace Go.Proofs.YtdffhnfjcbnioaaDoor
open Go.RowKit Go.Shelf

attribute [local go_sem] Oper.semAt_some

set_option maxRecDepth 100000 in
set_option maxHeartbeats 4000000 in
theorem sortForm_nil (a : Option Addr) (c : Nat) (w : World) :
    Calls Tryd.prog 87 #[.slice a 0 c] w fun e w' => e = .returned (.int .i64 0) ∧ w' = w := by
  go_enter Tryd.func87, Tryd.ntmps87
  go_wp2_with fail
  refine wp_loop_rounds 1 ?_
  rw [rounds_succ]
  go_wp2_with fail
  go_ret
  exact ⟨rfl, rfl⟩

set_option maxRecDepth 100000 in
set_option maxHeartbeats 4000000 in
theorem nodeForm_con (b o : Nat) (nm : ByteArray) (w : World) (sa : Option Addr) (sc : Nat) (hn : nameB nm = true) (hm : nm.size ≤ 9223372036854775807)
    (k0 : w.cell? ⟨b, o, none⟩ = some (.int .i64 1)) (k1 : w.cell? ⟨b, o + 1, none⟩ = some (.string nm)) (k2 : w.cell? ⟨b, o + 2, none⟩ = some (.int .i64 0)) (k3 : w.cell? ⟨b, o + 3, none⟩ = some (.slice sa 0 sc)) :
    Calls Tryd.prog 72 #[.pointer (some ⟨b, o, none⟩)] w fun e w' => e = .returned (.int .i64 0) ∧ w' = w := by
  have hn' := Lib.hid (name_any nm w hm)
  rw [hn] at hn'
  go_enter Tryd.func72, Tryd.ntmps72
  go_wp2_with fail
  refine hn'.out.mono ?_
  rintro e w' ⟨rfl, rfl⟩
  go_wp2_with fail
  refine (sortForm_nil sa sc w).mono ?_
  rintro e w' ⟨rfl, rfl⟩
  go_wp2_with fail
  go_ret
  exact ⟨rfl, rfl⟩

set_option maxRecDepth 100000 in
set_option maxHeartbeats 4000000 in
theorem fault_ok (mb : Nat) (n d most : Int) (w : World) (h : MeterAt mb n d most w) (hn : n ≤ 20000) (hd : d ≤ 500) :
    Calls Tryd.prog 46 #[.pointer (some ⟨mb, 0, none⟩)] w fun e w' => e = .returned (.int .i64 0) ∧ w' = w := by
  obtain ⟨c0, c1, c2, f0, f1⟩ := h
  go_enter Tryd.func46, Tryd.ntmps46
  go_wp2_with fail
  go_ret
  exact ⟨rfl, rfl⟩

theorem meter_new (w : World) (most : Int) : MeterAt w.heap.size 0 0 most (w.alloc (.cells #[.int .i64 0, .int .i64 0, .int .i64 most] 104)) := by
  have hb := Go.heap_alloc_new w (.cells #[.int .i64 0, .int .i64 0, .int .i64 most] 104)
  refine ⟨?_, ?_, ?_, Lib.frozen_of_heap hb 0, Lib.frozen_of_heap hb 1⟩
  · rw [Lib.cell_of_heap hb]; rfl
  · rw [Lib.cell_of_heap hb]; rfl
  · rw [Lib.cell_of_heap hb]; rfl

set_option maxRecDepth 100000 in
set_option maxHeartbeats 4000000 in
theorem size_ok (B b o : Nat) (T : Ty) (w : World) (hT : AtTy B w b o T) (hB : B ≤ w.heap.size) (hn : T.nodes ≤ 20000) (hd : T.depth ≤ 500) :
    Calls Tryd.prog 28 #[.pointer (some ⟨b, o, none⟩)] w fun e w' => e = .returned (.int .i64 0) ∧ Below w.heap.size w w' := by
  have h1 : Below w.heap.size w (w.alloc (.cells #[.int .i64 0, .int .i64 0, .int .i64 20000] 104)) := (Below.refl _ w).alloc (Nat.le_refl _) _
  have hc := Lib.hid (add_any (T.sz + 1) B w.heap.size b o T 0 0 20000 1 _ (by omega) hB (AtTy.later (h1.mono hB) (Nat.le_refl _) hT) (meter_new w 20000) (by omega) (by omega) (by omega) (by omega) (by omega))
  have H1 := Lib.hid h1
  clear h1
  go_enter Tryd.func28, Tryd.ntmps28
  go_wp2_with fail
  refine hc.out.mono ?_
  rintro e W ⟨rfl, hm, hb⟩
  have hf := Lib.hid (fault_ok w.heap.size _ _ 20000 W hm (by omega) (by omega))
  clear hm
  go_wp2_with fail
  refine hf.out.mono ?_
  rintro e w' ⟨rfl, rfl⟩
  go_wp2_with fail
  go_ret
  exact ⟨rfl, H1.out.trans hb⟩


/-- A node that is a constructor with a name, without an index and without a sort. -/
def conB (T : Ty) : Bool := decide (T.op = 1) && decide (T.index = 0) && T.sort.isEmpty && nameB T.name
/-- All nodes are so. -/
def PlainTy (T : Ty) : Prop := ∀ u ∈ T.pre, conB u = true
theorem mem_preL : ∀ (l : List Ty) (k : Nat) (h : k < l.length) (u : Ty), u ∈ l[k].pre → u ∈ Ty.preL l
  | x :: r, 0, _, u, hu => by simp only [Ty.preL]; exact List.mem_append_left _ hu
  | x :: r, k + 1, h, u, hu => by simp only [Ty.preL]; exact List.mem_append_right _ (mem_preL r k (by simpa using h) u hu)
theorem PlainTy.kid (T : Ty) (k : Nat) (h : k < T.args.length) (hT : PlainTy T) : PlainTy T.args[k] := fun u hu => hT u (by
  rw [Ty.pre_kids]
  exact List.mem_cons_of_mem _ (mem_preL T.args k h u hu))
theorem PlainTy.node {T : Ty} (h : PlainTy T) : T.op = 1 ∧ T.index = 0 ∧ T.sort = [] ∧ nameB T.name = true := by
  have := h T (by rw [Ty.pre_kids]; exact List.mem_cons_self)
  simp only [conB, Bool.and_eq_true, decide_eq_true_eq, List.isEmpty_iff] at this
  exact ⟨this.1.1.1, this.1.1.2, this.1.2, this.2⟩

theorem plain_node (B : Nat) (w : World) (b o : Nat) (T : Ty) (hT : PlainTy T) (h : AtTy B w b o T) : Calls Tryd.prog 72 #[.pointer (some ⟨b, o, none⟩)] w fun e w' => e = .returned (.int .i64 0) ∧ w' = w := by
  obtain ⟨_, _, op, ix, nm, srt, args, vs, a, cap, ab, ao, hb, k0, k1, k2, k3, k4, hop, hix, hnm, hs, hl, ha, he⟩ := h
  obtain ⟨h1, h2, h3, h4⟩ := hT.node
  simp only [Ty.op, Ty.index, Ty.sort, Ty.name] at h1 h2 h3 h4
  subst h1 h2 h3
  obtain ⟨sa, sc, sb, so, rfl, hsl, hsn, hsc⟩ := hs
  exact nodeForm_con b o _ w sa sc h4 hnm k0 k1 k2 k3

set_option maxRecDepth 100000 in
set_option maxHeartbeats 4000000 in
theorem form_in (n B b o : Nat) (T : Ty) (w : World) (hn : 3 ≤ n) (hB : B ≤ w.heap.size) (hT : AtTy B w b o T) (hP : PlainTy T) (hN : T.nodes ≤ 20000) (hD : T.depth ≤ 500) :
    CallsIn Fence.wide n Tryd.prog 56 #[.pointer (some ⟨b, o, none⟩)] w fun e w' => e = .returned (.int .i64 0) ∧ Below w.heap.size w w' := by
  have hdd : ∀ k : Nat, (Fence.wide.depth.isSome = true → 1 ≤ k) := fun k h => by cases h
  have HT := Lib.hid hT
  clear hT
  refine callsIn_of_wp_marks Tryd.func56 rfl trivial ?_ rfl
  simp only [Tryd.ntmps56, List.size_toArray, List.length_cons, List.length_nil, Nat.reduceAdd, Nat.reduceSub, Array.replicate_succ, Array.replicate_zero, List.push_toArray, List.append_toArray, List.nil_append, List.cons_append]
  gi_wp2
  refine ⟨trivial, hdd _, ?_⟩
  have b1 : Below w.heap.size w (w.alloc (.cells #[.int .i64 0] 37)) := (Below.refl _ w).alloc (Nat.le_refl _) _
  have hs := newCell (W := w) (v := .int .i64 0) (t := 37)
  generalize hw1 : w.alloc (.cells #[.int .i64 0] 37) = w1 at *
  have hsz : w1.heap.size = w.heap.size + 1 := by rw [← hw1]; simp
  have T1 := HT.out.later (b1.mono hB) (Nat.le_refl _)
  refine (callsIn_wide.2 (size_ok B b o T w1 T1 (by omega) hN hD)).mono ?_
  rintro e w2 ⟨rfl, b2⟩
  gi_wp2
  refine ⟨trivial, hdd _, ?_⟩
  refine (ynodes_ok (n - 1) b o w2).mono ?_
  rintro e w' ⟨rfl, rfl⟩
  gi_wp2
  have b3 : Below w2.heap.size w2 (w2.alloc (.cells #[.pointer (some ⟨b, o, none⟩)] 81)) := (Below.refl _ w2).alloc (Nat.le_refl _) _
  have hc := newCell (W := w2) (v := .pointer (some ⟨b, o, none⟩)) (t := 81)
  have hs3 : (w2.alloc (.cells #[.pointer (some ⟨b, o, none⟩)] 81)).heap.size = w2.heap.size + 1 := by simp
  generalize w2.alloc (.cells #[.pointer (some ⟨b, o, none⟩)] 81) = w3 at *
  have s2 := b2.size
  have b13 : Below w1.heap.size w1 w3 := b2.trans (b3.mono s2)
  have T3 := T1.later (b13.mono (by omega)) (Nat.le_refl _)
  refine wpIn_rangeFunc_ownF rfl (by omega) (gf := 84) (lb := #[.pointer (some ⟨w2.heap.size, 0, none⟩)]) rfl trivial (enters_of Tryd.func84 (by kernel_rfl) rfl)
    (ynodes_stops (n - 1) B w2.heap.size w3.heap.size b o T w3 PlainTy PlainTy.kid hP (by omega) (Nat.le_refl _) (by omega) T3 hc.1)
    belowK_t (belowK_b (Nat.le_refl _)) (Below.refl _ _) (fun _ => rfl)
    (fun _ W => Below w3.heap.size w3 W) (fun _ _ _ => False) (ownFrom_below (Nat.le_refl _) (Nat.le_refl _)) (fun _ _ _ _ _ hs _ _ => hs) (Below.refl _ _)
    (fun x => { tmps := #[.pointer (some ⟨b, o, none⟩), undef, .pointer (some ⟨w.heap.size, 0, none⟩), .int .i64 0, .pointer (some ⟨x.b, x.o, none⟩), undef, .pointer (some ⟨b, o, none⟩), .int .i64 0, .int .i64 0, .bool false, undef, .pointer (some ⟨b, o, none⟩), .func (.func 84) #[] #[.pointer (some ⟨w2.heap.size, 0, none⟩)], .pointer (some ⟨x.b, x.o, none⟩), undef, undef, undef, undef, undef], defers := [] }) ?assign ?body ?done ?stop
  case assign =>
    intro l x W K hK
    have henc : TyNode.enc x = #[.pointer (some ⟨x.b, x.o, none⟩)] := rfl
    rw [henc]
    obtain ⟨xb, xo, xt, xa, xg⟩ := x
    simp only at hK ⊢
    gi_wp2
    exact hK
  case body =>
    intro l pre x W hW _
    obtain ⟨xb, xo, xt, xa, xg⟩ := x
    have hnode := plain_node B W xb xo xt xg (xa.later (hW.mono (by omega)) (Nat.le_refl _))
    simp only
    gi_wp2
    refine ⟨trivial, hdd _, ?_⟩
    refine (CallsIn.inRound l (callsIn_wide.2 hnode)).mono ?_
    rintro e w' ⟨rfl, rfl⟩
    gi_wp2
    exact ⟨KeepsOthers.refl _, Below.refl _ _, hW⟩
  case done =>
    rintro D ys W hD _ hW hK
    have bW : Below w1.heap.size w1 W := b13.trans (hW.mono (by omega))
    have hcell := (bW.cell (p := ⟨w.heap.size, 0, none⟩) (by show w.heap.size < w1.heap.size; omega)).trans hs.1
    have hfroz := (bW.frozen (p := ⟨w.heap.size, 0, none⟩) (by show w.heap.size < w1.heap.size; omega)).trans hs.2
    have hD2 : D ≠ w.heap.size := by omega
    gi_wp2
    have hK' : (W.setCell ⟨w.heap.size, 0, none⟩ (.int .i64 0)).heap[D]? = some (.deferred (some [])) := (Below.heap_setCell W ⟨w.heap.size, 0, none⟩ _ D hD2).trans hK
    have bP : Below w3.heap.size (W.setCell ⟨w.heap.size, 0, none⟩ (.int .i64 0)) ((W.setCell ⟨w.heap.size, 0, none⟩ (.int .i64 0)).putObj D (.deferred none)) := belowK_b (w := w3) (Nat.le_refl _) _ D _ _ hD hK' rfl rfl
    refine ⟨by simp, .inl ⟨_, _, rfl, run_takeDeferred hK', ?_⟩⟩
    refine ⟨_, results_c rfl _ _ ⟨w.heap.size, 0, none⟩ (.int .i64 0) rfl (run_loadVar_cell _ _ _ _ (Tryd.isAgg37 _) ?_), rfl, ?_⟩
    · refine (bP.cell (p := ⟨w.heap.size, 0, none⟩) (by show w.heap.size < w3.heap.size; omega)).trans ?_
      exact World.cell?_setCell_same' _ _ _ (by rw [hcell]; rfl)
    · exact ((b1.trans (bW.mono (by omega))).setCell (p := ⟨w.heap.size, 0, none⟩) (Nat.le_refl _) _).trans (bP.mono (by omega))
  case stop =>
    rintro D c pre W _ _ h _
    exact h.elim

theorem form_plain (B b o : Nat) (T : Ty) (w : World) (hB : B ≤ w.heap.size) (hT : AtTy B w b o T) (hP : PlainTy T) (hN : T.nodes ≤ 20000) (hD : T.depth ≤ 500) :
    Calls Tryd.prog 56 #[.pointer (some ⟨b, o, none⟩)] w fun e w' => e = .returned (.int .i64 0) ∧ Below w.heap.size w w' :=
  callsIn_wide.1 (form_in 3 B b o T w (Nat.le_refl _) hB hT hP hN hD)
end Go.Proofs.YtdffhnfjcbnioaaDoor
