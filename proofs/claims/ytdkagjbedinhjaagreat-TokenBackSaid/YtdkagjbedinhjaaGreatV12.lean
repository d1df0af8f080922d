/-
  scan of any text.
-/
import Derived.Test.YtdkagjbedinhjaaGreatV11
namespace Go.Proofs.YtdkagjbedinhjaaGreat
open Go.RowKit Go.Shelf

attribute [local go_sem] Oper.semAt_some

/-- What scan answers. -/
def ScanPost (w : World) (R : SR) (x : Ending) (w' : World) : Prop := (match R with
  | (xs, none) => ∃ v, x = .returned (.tuple #[v, .int .i64 0, .int .i64 0]) ∧ w'.ownsRow (w.heap.size + 5) 35 3 v xs.length (tkCells xs)
  | (_, some (p, code)) => x = .returned (.tuple #[.slice none 0 0, .int .i64 (p : Int), .int .i64 code])) ∧ Below w.heap.size w w'

set_option maxRecDepth 100000 in
set_option maxHeartbeats 4000000 in
theorem scan_any_in (n mb : Nat) (K : ByteArray → Bool) (T : ByteArray) (w : World) (hn : 3 ≤ n) (hM : MapK mb K w) (hT : T.size ≤ 40000) :
    CallsIn Fence.wide n Tryz.prog 16 #[.map (some mb), .string T] w (ScanPost w (scanR K T)) := by
  have hdd : ∀ k : Nat, (Fence.wide.depth.isSome = true → 1 ≤ k) := fun k h => by cases h
  have hmf : ∀ (fn : Fn) (first cap : Array Value) (w : World), (Instr.makeFunc fn first cap).run Tryz.prog w = .ok (.func fn first cap) w := fun _ _ _ _ => rfl
  have hd : decide ((40000 : Int) < T.size) = false := by simp; omega
  obtain ⟨W, hW, hb, hz, x1, x2, x3, hs⟩ := scan_laid mb K T w hM
  have HW := Lib.hid hW
  clear hW
  refine callsIn_of_wp_marks Tryz.func16 rfl trivial ?_ rfl
  simp only [Tryz.ntmps16, List.size_toArray, List.length_cons, List.length_nil, Nat.reduceAdd, Nat.reduceSub, Array.replicate_succ, Array.replicate_zero, List.push_toArray, List.append_toArray, List.nil_append, List.cons_append]
  gi_wp2
  rw [HW.out]
  refine ⟨trivial, hdd _, ?_⟩
  refine (tokens_ok (n - 1) (w.heap.size + 1 + 1 + 1) W).mono ?_
  rintro e w' ⟨rfl, rfl⟩
  gi_wp2
  obtain ⟨i0, hi, hz0, hz1, hz2⟩ := info_parts infoTok
  have bV := (Below.refl W.heap.size W).alloc (Nat.le_refl _) (.cells #[.pointer (some ⟨w.heap.size + 1 + 1 + 1, 0, none⟩)] 62)
  have nV := Boxed.new W 62 (.pointer (some ⟨w.heap.size + 1 + 1 + 1, 0, none⟩))
  have zV : (W.alloc (.cells #[.pointer (some ⟨w.heap.size + 1 + 1 + 1, 0, none⟩)] 62)).heap.size = w.heap.size + 5 := by simp; omega
  rw [hz] at nV
  generalize W.alloc (.cells #[.pointer (some ⟨w.heap.size + 1 + 1 + 1, 0, none⟩)] 62) = V at *
  have hI0 : ScanI w [] V := ⟨⟨_, boxed_below x1 bV, World.ownsRow_nil _ _ _ _, trivial⟩, boxed_below x2 bV, boxed_below x3 bV, by omega, hb.trans (bV.mono hb.size)⟩
  refine range_boxedE rfl (by omega) (gf := 30) (lb := #[.pointer (some ⟨w.heap.size + 4, 0, none⟩)]) rfl trivial (enters_of Tryz.func30 (by kernel_rfl) rfl)
    (tokens_any (n - 1) (w.heap.size + 1 + 1 + 1) mb (w.heap.size + 4) (w.heap.size + 5) w.heap.size K T V (by omega) (hs.below bV) nV.cell (by omega) (by have := hM.lt; omega) (by omega) (by have := hM.lt; omega) (by omega) (by omega) (by omega))
    (fun h k => h.trans k) (fun X l o o' hl ho hc => (But.of ((Below.refl _ X).grown (grownBy_putObj' X l o') (by have := (Array.getElem?_eq_some_iff.1 ho).1; omega) (fun k e => by cases e; omega)))) (fun A B hA hAB => But.of (hAB.mono (by omega))) (Below.refl _ _) (fun _ => rfl)
    (ScanI w) (fun _ _ _ => False) (ScanI.calm w) (ScanI.own w _ (by omega)) (fun _ _ _ _ h _ => h) (fun _ _ _ _ _ h _ _ => h) (fun _ _ h => by rw [zV]; exact h.size) hI0
    (ScanA w mb T) (fun x a' => ScanA.own w mb T x a' _) ?assign ?body ?done ?pan ?stop
  case assign =>
    intro l pre x X Kk hI hK
    obtain ⟨xk, xt, xp⟩ := x
    have henc : encT (xk, xt, xp) = #[tokV xk xt (xp : Int)] := rfl
    rw [henc]
    gi_wp2
    exact hK _ _ ((Below.refl _ X).alloc (Nat.le_refl _) _) ⟨X.heap.size, hI.size, tok_new X xk xt (xp : Int), rfl⟩
  case body =>
    rintro l pre x a' X hI ⟨Bx, hBx, ht, rfl⟩ hlen
    obtain ⟨xk, xt, xp⟩ := x
    obtain ⟨v, bv, hrow, _⟩ := hI.row
    have cv := bv.cell
    have fv := bv.frozen
    obtain ⟨q0, q1, q2, _, _, _⟩ := ht.cells
    have hsz := hI.size
    gi_wp2_with (gi_at_builtin; refine wpListIn_append_own _ rfl _ _ 25 rfl (w.heap.size + 5) 35 i0 (.agg #[.int .i64 0, .string ⟨#[]⟩, .int .i64 0]) 3 32 Tryz.underlying25 hi hz0 hz1 hz2 rfl (by decide) _ _ _ rfl (hrow.alloc _) ⟨X.heap.size, 0, none⟩ 1 1 [.int .i64 xk, .string xt, .int .i64 (xp : Int)] rfl rfl (cells_new3 _ _ _ _ _) (by simp [Value.oneCell']) (by unfold maxLen; omega) (by omega) (by simp; omega) ?_; intro v' w1 hown' hgrow _; obtain ⟨g', cap', rfl⟩ := ownsRow_succ hown'; obtain ⟨hv1, hv2, hr2, hk2, hb2⟩ := boxed_appended bv (by decide) hrow hsz hown' hgrow; have hc1 := hv1.cell; have hf1 := hv1.frozen)
    exact ⟨hk2, hb2, ⟨⟨_, hv2, by rw [List.length_append, tkCells_snoc]; exact hr2, trivial⟩, (hb2.block _ (by omega) (by omega)).trans hI.at_, (hb2.block _ (by omega) (by omega)).trans hI.err, Nat.le_trans hI.size hb2.size, hI.below.trans (hb2.below (by omega) (Nat.le_refl _))⟩⟩
  case done =>
    rintro D ys X hD hR hI hK
    obtain ⟨v, bv, hrow, _⟩ := hI.row
    have cv := bv.cell
    have fv := bv.frozen
    have c2 := hI.at_.cell
    have f2 := hI.at_.frozen
    have c3 := hI.err.cell
    have f3 := hI.err.frozen
    have hva : ∃ a m c, v = .slice a m c := by
      rcases hrow.2 with ⟨h, _⟩ | ⟨g, cap, cur, h, _⟩
      · exact ⟨_, _, _, h⟩
      · exact ⟨_, _, _, h⟩
    obtain ⟨va, vm, vc, rfl⟩ := hva
    gi_wp2
    have b1 := (hI.row.elim fun _ _ => bv).set (.slice va vm vc)
    have r1 := hrow.kept (grownBy_setCell' X w.heap.size (.slice va vm vc)) (.inr (bv.not_row (by decide) hrow).symm)
    have a1 := hI.at_.other (B' := w.heap.size) (by omega) (.slice va vm vc)
    have e1 := hI.err.other (B' := w.heap.size) (by omega) (.slice va vm vc)
    have k1 := (Below.heap_setCell X ⟨w.heap.size, 0, none⟩ (.slice va vm vc) D (by show D ≠ w.heap.size; omega)).trans hK
    have l1 := hI.below.setCell (p := ⟨w.heap.size, 0, none⟩) (Nat.le_refl _) (.slice va vm vc)
    generalize X.setCell ⟨w.heap.size, 0, none⟩ (.slice va vm vc) = X1 at *
    have r2 := r1.kept (grownBy_setCell' X1 (w.heap.size + 1) (.int .i64 0)) (.inr (a1.not_row (by decide) r1).symm)
    have b2 := b1.other (B' := w.heap.size + 1) (by omega) (.int .i64 0)
    have a2 := a1.set (.int .i64 0)
    have e2 := e1.other (B' := w.heap.size + 1) (by omega) (.int .i64 0)
    have k2 := (Below.heap_setCell X1 ⟨w.heap.size + 1, 0, none⟩ (.int .i64 0) D (by show D ≠ w.heap.size + 1; omega)).trans k1
    have l2 := l1.setCell (p := ⟨w.heap.size + 1, 0, none⟩) (Nat.le_succ _) (.int .i64 0)
    generalize X1.setCell ⟨w.heap.size + 1, 0, none⟩ (.int .i64 0) = X2 at *
    have r3 := r2.kept (grownBy_setCell' X2 (w.heap.size + 1 + 1) (.int .i64 0)) (.inr (e2.not_row (by decide) r2).symm)
    have b3 := b2.other (B' := w.heap.size + 1 + 1) (by omega) (.int .i64 0)
    have a3 := a2.other (B' := w.heap.size + 1 + 1) (by omega) (.int .i64 0)
    have e3 := e2.set (.int .i64 0)
    have k3 := (Below.heap_setCell X2 ⟨w.heap.size + 1 + 1, 0, none⟩ (.int .i64 0) D (by show D ≠ w.heap.size + 1 + 1; omega)).trans k2
    have l3 := l2.setCell (p := ⟨w.heap.size + 1 + 1, 0, none⟩) (by show w.heap.size ≤ w.heap.size + 1 + 1; omega) (.int .i64 0)
    generalize X2.setCell ⟨w.heap.size + 1 + 1, 0, none⟩ (.int .i64 0) = X3 at *
    have b4 := b3.kept (grownBy_putObj' X3 D (.deferred none)) (by intro e; cases e; omega)
    have a4 := a3.kept (grownBy_putObj' X3 D (.deferred none)) (by intro e; cases e; omega)
    have e4 := e3.kept (grownBy_putObj' X3 D (.deferred none)) (by intro e; cases e; omega)
    have r4 := ownsRow_putObj r3 (.deferred none) k3 rfl
    have l4 := l3.trans (belowK_b (w := V) (n₀ := w.heap.size) (by omega) X3 D _ (.deferred none) hD k3 rfl rfl)
    refine ⟨by simp, .inl ⟨_, _, rfl, run_takeDeferred k3, ?_⟩⟩
    generalize X3.putObj D (.deferred none) = X4 at *
    refine ⟨by simp, .inr ⟨hdd _, _, _, 24, #[.pointer (some ⟨w.heap.size, 0, none⟩), .pointer (some ⟨w.heap.size + 1, 0, none⟩), .pointer (some ⟨w.heap.size + 1 + 1, 0, none⟩)], rfl, by simp [go_sem], fun _ _ => trivial, ?_⟩⟩
    refine (catch_idle (n - 1) _ _ _ _).mono ?_
    rintro e u' w'' ⟨rfl, rfl, rfl⟩
    refine ⟨_, results_ccc rfl _ _ ⟨w.heap.size, 0, none⟩ ⟨w.heap.size + 1, 0, none⟩ ⟨w.heap.size + 1 + 1, 0, none⟩ _ _ _ rfl rfl rfl (run_loadVar_cell _ _ _ _ (Tryz.isAgg25 _) b4.cell) (run_loadVar_cell _ _ _ _ (Tryz.isAgg3 _) a4.cell) (run_loadVar_cell _ _ _ _ (Tryz.isAgg26 _) e4.cell), ?_⟩
    unfold ScanPost
    rw [hR]
    exact ⟨⟨_, rfl, r4⟩, l4⟩
  case pan =>
    rintro D chain xs X hD ⟨p, code, hR, rfl⟩ hI hK
    obtain ⟨v, bv, hrow, _⟩ := hI.row
    have b4 := bv.kept (grownBy_putObj' X D (.deferred none)) (by intro e; cases e; omega)
    have a4 := hI.at_.kept (grownBy_putObj' X D (.deferred none)) (by intro e; cases e; omega)
    have e4 := hI.err.kept (grownBy_putObj' X D (.deferred none)) (by intro e; cases e; omega)
    have l4 := hI.below.trans (belowK_b (w := V) (n₀ := w.heap.size) (by omega) X D _ (.deferred none) hD hK rfl rfl)
    refine ⟨by simp, .inl ⟨_, _, rfl, run_takeDeferred hK, ?_⟩⟩
    generalize X.putObj D (.deferred none) = X4 at *
    refine ⟨by simp, .inr ⟨hdd _, _, _, 24, #[.pointer (some ⟨w.heap.size, 0, none⟩), .pointer (some ⟨w.heap.size + 1, 0, none⟩), .pointer (some ⟨w.heap.size + 1 + 1, 0, none⟩)], rfl, by simp [go_sem], fun _ _ => trivial, ?_⟩⟩
    refine (catch_fault (n - 1) p code X4 w.heap.size v b4 a4 e4).mono ?_
    rintro e u' w'' ⟨rfl, rfl, b5, a5, e5, l5⟩
    refine ⟨_, results_ccc rfl _ _ ⟨w.heap.size, 0, none⟩ ⟨w.heap.size + 1, 0, none⟩ ⟨w.heap.size + 1 + 1, 0, none⟩ _ _ _ rfl rfl rfl (run_loadVar_cell _ _ _ _ (Tryz.isAgg25 _) b5.cell) (run_loadVar_cell _ _ _ _ (Tryz.isAgg3 _) a5.cell) (run_loadVar_cell _ _ _ _ (Tryz.isAgg26 _) e5.cell), ?_⟩
    unfold ScanPost
    rw [hR]
    exact ⟨rfl, l4.trans l5⟩
  case stop =>
    rintro D c pre X hD _ h _
    exact h.elim
end Go.Proofs.YtdkagjbedinhjaaGreat
