/-
  scan of a text without errors.
-/
import Derived.Test.YtdkagjbedinhjaaGreatS8
import Derived.RangeFuncBox
import Derived.RangeFuncNested
import Derived.Maps.AppendAt
import Derived.RecoverIn
import Derived.Recover
namespace Go.Proofs.YtdkagjbedinhjaaGreat
open Go.RowKit Go.Shelf

attribute [local go_sem] Oper.semAt_some

theorem infoTok : (Tryz.prog.info? 35).map (fun i => (i.zero, i.size, i.bytes)) = some (some (.agg #[.int .i64 0, .string ⟨#[]⟩, .int .i64 0]), 3, 32) := by kernel_rfl

/-- The cells of tokens. -/
def tkCells (l : List Tk) : List Value := l.flatMap fun x => [.int .i64 x.1, .string x.2.1, .int .i64 (x.2.2 : Int)]
theorem tkCells_len (l : List Tk) : (tkCells l).length = l.length * 3 := by
  induction l with
  | nil => rfl
  | cons x r ih => unfold tkCells at *; simp only [List.flatMap_cons, List.length_append, ih, List.length_cons, List.length_nil]; omega
theorem tkCells_snoc (l : List Tk) (x : Tk) : tkCells (l ++ [x]) = tkCells l ++ [.int .i64 x.1, .string x.2.1, .int .i64 (x.2.2 : Int)] := by simp [tkCells]

/-- What scan lays at first. -/
theorem scan_laid (mb : Nat) (K : ByteArray → Bool) (T : ByteArray) (w : World) (hM : MapK mb K w) : ∃ W, (((w.alloc (.cells #[.slice none 0 0] 25)).alloc (.cells #[.int .i64 0] 3)).alloc (.cells #[.int .i64 0] 26)).alloc (.cells #[.map (some mb), .string T] 53) = W ∧ Below w.heap.size w W ∧ W.heap.size = w.heap.size + 4 ∧
    Boxed W w.heap.size 25 (.slice none 0 0) ∧ Boxed W (w.heap.size + 1) 3 (.int .i64 0) ∧ Boxed W (w.heap.size + 1 + 1) 26 (.int .i64 0) ∧ ScK (w.heap.size + 1 + 1 + 1) mb K T W := by
  have z1 : (w.alloc (.cells #[.slice none 0 0] 25)).heap.size = w.heap.size + 1 := by simp
  have n1 := Boxed.new w 25 (.slice none 0 0)
  have b1 := (Below.refl w.heap.size w).alloc (Nat.le_refl _) (.cells #[.slice none 0 0] 25)
  generalize w.alloc (.cells #[.slice none 0 0] 25) = w1 at *
  have z2 : (w1.alloc (.cells #[.int .i64 0] 3)).heap.size = w1.heap.size + 1 := by simp
  have n2 := Boxed.new w1 3 (.int .i64 0)
  have m1 := n1.alloc (.cells #[.int .i64 0] 3)
  have b2 := b1.alloc (by omega) (.cells #[.int .i64 0] 3)
  generalize w1.alloc (.cells #[.int .i64 0] 3) = w2 at *
  have z3 : (w2.alloc (.cells #[.int .i64 0] 26)).heap.size = w2.heap.size + 1 := by simp
  have n3 := Boxed.new w2 26 (.int .i64 0)
  have m2 := m1.alloc (.cells #[.int .i64 0] 26)
  have k2 := n2.alloc (.cells #[.int .i64 0] 26)
  have b3 := b2.alloc (by omega) (.cells #[.int .i64 0] 26)
  generalize w2.alloc (.cells #[.int .i64 0] 26) = w3 at *
  have z4 : (w3.alloc (.cells #[.map (some mb), .string T] 53)).heap.size = w3.heap.size + 1 := by simp
  have n4 := Go.heap_alloc_new w3 (.cells #[.map (some mb), .string T] 53)
  have m3 := m2.alloc (.cells #[.map (some mb), .string T] 53)
  have k3 := k2.alloc (.cells #[.map (some mb), .string T] 53)
  have l3 := n3.alloc (.cells #[.map (some mb), .string T] 53)
  have b4 := b3.alloc (by omega) (.cells #[.map (some mb), .string T] 53)
  rw [z1] at k3
  rw [z2, z1] at l3
  rw [z3, z2, z1] at n4
  exact ⟨_, rfl, b4, by omega, m3, k3, l3, n4, hM.later b4 hM.lt⟩

theorem catch_idle (n : Nat) (p q r : Value) (w : World) :
    CallsDIn Fence.wide n Tryz.prog 24 #[p, q, r] .returning w fun e u' w' => e = .returned (.tuple #[]) ∧ u' = .returning ∧ w' = w := by
  refine callsDIn_of_wpSIn Tryz.func24 rfl trivial fun c₀ cs hu => ?_
  apply wpSIn_seq
  apply wpSIn_region
  simp [wpOpsSIn, go_sem, recoverD, hu, Tryz.ntmps24, Exit.thenS]
  apply wpSIn_seq
  apply wpSIn_region
  simp [wpOpsSIn, go_sem, recoverD, hu, Tryz.ntmps24, Exit.thenS]
  refine wpSIn_cond (t := false) (by simp [Act.eval, Array.replicate]) ?_
  simp only [Bool.false_eq_true, if_false]
  refine wpSIn_of_wpIn rfl (wpIn_skip ?_)
  cases c₀
  simp_all [bodyPostS, results, Tryz.results24]

theorem run_loadVar_cell {P : Program} (w : World) (a : Addr) (v : Value) (ty : TypeId) (ha : (isAgg ty).run P w = .ok false w) (hc : w.cell? a = some v) : (loadVar ty a).run P w = .ok v w := by
  simp [loadVar, Sem.run_bind, ha, Result.andThen, hc]

theorem results_ccc {P : Program} {fn : Func} {p q r : Tmp} {t u s : TypeId} (h : fn.results = #[.cell p t, .cell q u, .cell r s]) (tmps : Array Value) (w : World) (a b c : Addr) (x y z : Value) (hp : tmps.getD p undef = .pointer (some a)) (hq : tmps.getD q undef = .pointer (some b)) (hr : tmps.getD r undef = .pointer (some c))
    (h1 : (loadVar t a).run P w = .ok x w) (h2 : (loadVar u b).run P w = .ok y w) (h3 : (loadVar s c).run P w = .ok z w) : (results fn tmps).run P w = .ok (.tuple #[x, y, z]) w := by
  have hp' : tmps[p]?.getD undef = .pointer (some a) := by simpa using hp
  have hq' : tmps[q]?.getD undef = .pointer (some b) := by simpa using hq
  have hr' : tmps[r]?.getD undef = .pointer (some c) := by simpa using hr
  simp [results, h, hp', hq', hr', asAddr, Sem.run_bind, h1, h2, h3, Result.andThen]

theorem cells_new3 (w : World) (x y z : Value) (t : TypeId) : ∀ j u, [x, y, z][j]? = some u → (w.alloc (.cells #[x, y, z] t)).cell? ((⟨w.heap.size, 0, none⟩ : Addr).add j) = some u := by
  intro j u hj
  have hb := Go.heap_alloc_new w (.cells #[x, y, z] t)
  match j, hj with
  | 0, hj => simp at hj; subst hj; rw [Addr.add_mid, Lib.cell_of_heap hb]; rfl
  | 1, hj => simp at hj; subst hj; rw [Addr.add_mid, Lib.cell_of_heap hb]; rfl
  | 2, hj => simp at hj; subst hj; rw [Addr.add_mid, Lib.cell_of_heap hb]; rfl

theorem ownsRow_below {B : Nat} {e : TypeId} {size : Nat} {v : Value} {k : Nat} {xs : List Value} {w w' : World} (h : w.ownsRow B e size v k xs) (hw : Below w.heap.size w w') : w'.ownsRow B e size v k xs := by
  refine ⟨h.1, ?_⟩
  rcases h.2 with h | ⟨g, cap, cur, rfl, hbg, hg, rest⟩
  · exact .inl h
  · exact .inr ⟨g, cap, cur, rfl, hbg, (hw.block g (Array.getElem?_eq_some_iff.1 hg).1).trans hg, rest⟩
theorem boxed_below {w w' : World} {B : Nat} {t : TypeId} {v : Value} (h : Boxed w B t v) (hw : Below w.heap.size w w') : Boxed w' B t v := (hw.block B h.lt).trans h

/-- Behind an append to the slice in a box that lies below what the rows own. -/
theorem boxed_appended {W w1 : World} {n₀ B : Nat} {t e : TypeId} {size : Nat} {v v' : Value} {k m : Nat} {xs ys : List Value} {tmp : Obj}
    (hv : Boxed W B t v) (hte : t ≠ e) (hrow : W.ownsRow n₀ e size v k xs) (hn₀ : n₀ ≤ W.heap.size)
    (hown' : w1.ownsRow n₀ e size v' m ys) (hgrow : (W.alloc tmp).grownBy w1 v.ownBlock) :
    Boxed w1 B t v ∧ Boxed (w1.setCell ⟨B, 0, none⟩ v') B t v' ∧ (w1.setCell ⟨B, 0, none⟩ v').ownsRow n₀ e size v' m ys ∧ KeepsOthers W (w1.setCell ⟨B, 0, none⟩ v') ∧ But n₀ B W (w1.setCell ⟨B, 0, none⟩ v') := by
  have hv1 : Boxed w1 B t v := (hv.alloc tmp).kept hgrow (hv.not_row hte hrow)
  refine ⟨hv1, hv1.set v', hown'.kept (grownBy_setCell' w1 B v') (.inr (hv1.not_row hte hown').symm), ?_, ?_⟩
  · refine ((KeepsOthers.alloc W tmp).trans (KeepsOthers.of_grownBy hgrow fun j o ej hj => ?_)).trans (KeepsOthers.setCell _ _ _)
    rcases (hrow.alloc tmp).2 with ⟨rfl, _⟩ | ⟨g, cap, cur, rfl, _, hgb, _⟩
    · simp [Value.ownBlock] at ej
    · obtain rfl : g = j := by simpa [Value.ownBlock] using ej
      rw [hgb] at hj; cases hj; rfl
  · refine (But.of (((Below.refl n₀ W).alloc hn₀ tmp).grown hgrow (by simp; omega) fun j ej => ?_)).setRb v'
    rcases hrow.2 with ⟨rfl, _⟩ | ⟨g, cap, cur, rfl, hb, _, _⟩
    · simp [Value.ownBlock] at ej
    · obtain rfl : g = j := by simpa [Value.ownBlock] using ej
      exact hb

/-- What stands between two rounds of scan's loop. -/
structure ScanI (w : World) (pre : List Tk) (X : World) : Prop where
  row : ∃ v, Boxed X w.heap.size 25 v ∧ X.ownsRow (w.heap.size + 5) 35 3 v pre.length (tkCells pre) ∧ True
  at_ : Boxed X (w.heap.size + 1) 3 (.int .i64 0)
  err : Boxed X (w.heap.size + 1 + 1) 26 (.int .i64 0)
  size : w.heap.size + 5 ≤ X.heap.size
  below : Below w.heap.size w X
theorem ScanI.calm (w : World) : Calm (ScanI w) := fun s A A' h hb => by
  obtain ⟨v, h1, h2, _⟩ := h.row
  exact ⟨⟨v, boxed_below h1 hb, ownsRow_below h2 hb, trivial⟩, boxed_below h.at_ hb, boxed_below h.err hb, Nat.le_trans h.size hb.size, h.below.trans (hb.mono h.below.size)⟩
theorem ScanI.own (w : World) (B : Nat) (hB : w.heap.size ≤ B) : OwnFrom B (ScanI w) := fun s A A' row h hg hr =>
  ⟨(Own.from (holdsRow_own (w.heap.size + 5) w.heap.size 25 35 3 (fun pre : List Tk => pre.length) (fun pre => tkCells pre) (fun _ _ => True)) B) s A A' row h.row hg hr,
   (Own.from (boxed_own (w.heap.size + 1) 3 (fun _ : List Tk => .int .i64 0)) B) s A A' row h.at_ hg hr,
   (Own.from (boxed_own (w.heap.size + 1 + 1) 26 (fun _ : List Tk => .int .i64 0)) B) s A A' row h.err hg hr,
   Nat.le_trans h.size hg.size, ownFrom_below (β := List Tk) (Nat.le_refl _) hB s A A' row h.below hg hr⟩

/-- The loop's variable in its box. -/
def ScanA (w : World) (mb : Nat) (T : ByteArray) (x : Tk) (a : Act) (X : World) : Prop := ∃ Bx, w.heap.size + 5 ≤ Bx ∧ TokAt Bx x.1 x.2.1 (x.2.2 : Int) X ∧ a = { tmps := #[.map (some mb), .string T, undef, undef, .pointer (some ⟨w.heap.size, 0, none⟩), .pointer (some ⟨w.heap.size + 1, 0, none⟩), .pointer (some ⟨w.heap.size + 1 + 1, 0, none⟩), .pointer (some ⟨w.heap.size + 1 + 1 + 1, 0, none⟩), .pointer (some ⟨Bx, 0, none⟩), .string T, .int .i64 (T.size : Int), .bool false, .func (.func 24) #[] #[.pointer (some ⟨w.heap.size, 0, none⟩), .pointer (some ⟨w.heap.size + 1, 0, none⟩), .pointer (some ⟨w.heap.size + 1 + 1, 0, none⟩)], .map (some mb), .string T, .agg #[.map (some mb), .string T], .func (.func 30) #[] #[.pointer (some ⟨w.heap.size + 4, 0, none⟩)], tokV x.1 x.2.1 (x.2.2 : Int), undef, undef, undef, undef, undef], defers := [] }
theorem ScanA.own (w : World) (mb : Nat) (T : ByteArray) (x : Tk) (a : Act) (B : Nat) : OwnFrom B (fun (_ : Unit) X => ScanA w mb T x a X) := fun _ A A' row ⟨Bx, h1, h2, h3⟩ hg hr =>
  ⟨Bx, h1, (hg.block Bx (Array.getElem?_eq_some_iff.1 h2).1 (fun e => by
    obtain ⟨_, o, ho, hc⟩ := hr Bx e.symm
    rw [show A.heap[Bx]? = _ from h2] at ho
    cases ho
    cases hc)).trans h2, h3⟩

set_option maxRecDepth 100000 in
set_option maxHeartbeats 4000000 in
theorem scan_ok_in (n mb : Nat) (K : ByteArray → Bool) (T : ByteArray) (N : Nat) (p en : Nat → Nat) (tk : Nat → Int × ByteArray) (w : World) (hn : 3 ≤ n) (hM : MapK mb K w) (hT : T.size ≤ 40000) (hN : N ≤ 40000) (hsc : Scans (w.heap.size + 1 + 1 + 1) mb K T N p en tk) :
    CallsIn Fence.wide n Tryz.prog 16 #[.map (some mb), .string T] w fun e w' => ∃ v, e = .returned (.tuple #[v, .int .i64 0, .int .i64 0]) ∧ w'.ownsRow (w.heap.size + 5) 35 3 v N (tkCells (come p tk N)) ∧ Below w.heap.size w w' := by
  have hdd : ∀ k : Nat, (Fence.wide.depth.isSome = true → 1 ≤ k) := fun k h => by cases h
  have hmf : ∀ (fn : Fn) (first cap : Array Value) (w : World), (Instr.makeFunc fn first cap).run Tryz.prog w = .ok (.func fn first cap) w := fun _ _ _ _ => rfl
  have hd : decide ((40000 : Int) < T.size) = false := by simp; omega
  obtain ⟨W, hW, hb, hz, x1, x2, x3, hs⟩ := scan_laid mb K T w hM
  have HW := Lib.hid hW
  clear hW
  refine callsIn_of_wp_marks Tryz.func16 rfl trivial ?_ rfl
  simp only [Tryz.ntmps16, List.size_toArray, List.length_cons, List.length_nil, Nat.reduceAdd, Nat.reduceSub, Array.replicate_succ, Array.replicate_zero, List.push_toArray, List.append_toArray, List.nil_append, List.cons_append]
  gi_wp2
  rw [HW.out]
  refine ⟨trivial, hdd _, ?_⟩
  refine (tokens_ok (n - 1) (w.heap.size + 1 + 1 + 1) W).mono ?_
  rintro e w' ⟨rfl, rfl⟩
  gi_wp2
  obtain ⟨i0, hi, hz0, hz1, hz2⟩ := info_parts infoTok
  have bV := (Below.refl W.heap.size W).alloc (Nat.le_refl _) (.cells #[.pointer (some ⟨w.heap.size + 1 + 1 + 1, 0, none⟩)] 62)
  have nV := Boxed.new W 62 (.pointer (some ⟨w.heap.size + 1 + 1 + 1, 0, none⟩))
  have zV : (W.alloc (.cells #[.pointer (some ⟨w.heap.size + 1 + 1 + 1, 0, none⟩)] 62)).heap.size = w.heap.size + 5 := by simp; omega
  rw [hz] at nV
  generalize W.alloc (.cells #[.pointer (some ⟨w.heap.size + 1 + 1 + 1, 0, none⟩)] 62) = V at *
  have hI0 : ScanI w [] V := ⟨⟨_, boxed_below x1 bV, World.ownsRow_nil _ _ _ _, trivial⟩, boxed_below x2 bV, boxed_below x3 bV, by omega, hb.trans (bV.mono hb.size)⟩
  refine range_boxed rfl (by omega) (gf := 30) (lb := #[.pointer (some ⟨w.heap.size + 4, 0, none⟩)]) rfl trivial (enters_of Tryz.func30 (by kernel_rfl) rfl)
    (tokens_stops (n - 1) (w.heap.size + 1 + 1 + 1) mb (w.heap.size + 4) (w.heap.size + 5) w.heap.size K T N p en tk hsc V (hs.below bV) nV.cell (by omega) (by have := hM.lt; omega) (by omega) (by have := hM.lt; omega) (by omega) (by omega) (by omega))
    (fun h k => h.trans k) (fun X l o o' hl ho hc => (But.of ((Below.refl _ X).grown (grownBy_putObj' X l o') (by have := (Array.getElem?_eq_some_iff.1 ho).1; omega) (fun k e => by cases e; omega)))) (fun A B hA hAB => But.of (hAB.mono (by omega))) (Below.refl _ _) (fun _ => rfl)
    (ScanI w) (fun _ _ _ => False) (ScanI.calm w) (ScanI.own w _ (by omega)) (fun _ _ _ _ h _ => h) (fun _ _ _ _ _ h _ _ => h) (fun _ _ h => by rw [zV]; exact h.size) hI0
    (ScanA w mb T) (fun x a' => ScanA.own w mb T x a' _) ?assign ?body ?done ?stop
  case assign =>
    intro l pre x X Kk hI hK
    obtain ⟨xk, xt, xp⟩ := x
    have henc : encT (xk, xt, xp) = #[tokV xk xt (xp : Int)] := rfl
    rw [henc]
    gi_wp2
    exact hK _ _ ((Below.refl _ X).alloc (Nat.le_refl _) _) ⟨X.heap.size, hI.size, tok_new X xk xt (xp : Int), rfl⟩
  case body =>
    rintro l pre x a' X hI ⟨Bx, hBx, ht, rfl⟩ hlen
    obtain ⟨xk, xt, xp⟩ := x
    obtain ⟨v, bv, hrow, _⟩ := hI.row
    have cv := bv.cell
    have fv := bv.frozen
    obtain ⟨q0, q1, q2, _, _, _⟩ := ht.cells
    have hsz := hI.size
    gi_wp2_with (gi_at_builtin; refine wpListIn_append_own _ rfl _ _ 25 rfl (w.heap.size + 5) 35 i0 (.agg #[.int .i64 0, .string ⟨#[]⟩, .int .i64 0]) 3 32 Tryz.underlying25 hi hz0 hz1 hz2 rfl (by decide) _ _ _ rfl (hrow.alloc _) ⟨X.heap.size, 0, none⟩ 1 1 [.int .i64 xk, .string xt, .int .i64 (xp : Int)] rfl rfl (cells_new3 _ _ _ _ _) (by simp [Value.oneCell']) (by unfold maxLen; omega) (by omega) (by simp; omega) ?_; intro v' w1 hown' hgrow _; obtain ⟨g', cap', rfl⟩ := ownsRow_succ hown'; obtain ⟨hv1, hv2, hr2, hk2, hb2⟩ := boxed_appended bv (by decide) hrow hsz hown' hgrow; have hc1 := hv1.cell; have hf1 := hv1.frozen)
    exact ⟨hk2, hb2, ⟨⟨_, hv2, by rw [List.length_append, tkCells_snoc]; exact hr2, trivial⟩, (hb2.block _ (by omega) (by omega)).trans hI.at_, (hb2.block _ (by omega) (by omega)).trans hI.err, Nat.le_trans hI.size hb2.size, hI.below.trans (hb2.below (by omega) (Nat.le_refl _))⟩⟩
  case done =>
    rintro D ys X hD rfl hI hK
    obtain ⟨v, bv, hrow, _⟩ := hI.row
    have cv := bv.cell
    have fv := bv.frozen
    have c2 := hI.at_.cell
    have f2 := hI.at_.frozen
    have c3 := hI.err.cell
    have f3 := hI.err.frozen
    rw [come_len] at hrow
    have hva : ∃ a m c, v = .slice a m c := by
      rcases hrow.2 with ⟨h, _⟩ | ⟨g, cap, cur, h, _⟩
      · exact ⟨_, _, _, h⟩
      · exact ⟨_, _, _, h⟩
    obtain ⟨va, vm, vc, rfl⟩ := hva
    gi_wp2
    have b1 := (hI.row.elim fun _ _ => bv).set (.slice va vm vc)
    have r1 := hrow.kept (grownBy_setCell' X w.heap.size (.slice va vm vc)) (.inr (bv.not_row (by decide) hrow).symm)
    have a1 := hI.at_.other (B' := w.heap.size) (by omega) (.slice va vm vc)
    have e1 := hI.err.other (B' := w.heap.size) (by omega) (.slice va vm vc)
    have k1 := (Below.heap_setCell X ⟨w.heap.size, 0, none⟩ (.slice va vm vc) D (by show D ≠ w.heap.size; omega)).trans hK
    have l1 := hI.below.setCell (p := ⟨w.heap.size, 0, none⟩) (Nat.le_refl _) (.slice va vm vc)
    generalize X.setCell ⟨w.heap.size, 0, none⟩ (.slice va vm vc) = X1 at *
    have r2 := r1.kept (grownBy_setCell' X1 (w.heap.size + 1) (.int .i64 0)) (.inr (a1.not_row (by decide) r1).symm)
    have b2 := b1.other (B' := w.heap.size + 1) (by omega) (.int .i64 0)
    have a2 := a1.set (.int .i64 0)
    have e2 := e1.other (B' := w.heap.size + 1) (by omega) (.int .i64 0)
    have k2 := (Below.heap_setCell X1 ⟨w.heap.size + 1, 0, none⟩ (.int .i64 0) D (by show D ≠ w.heap.size + 1; omega)).trans k1
    have l2 := l1.setCell (p := ⟨w.heap.size + 1, 0, none⟩) (Nat.le_succ _) (.int .i64 0)
    generalize X1.setCell ⟨w.heap.size + 1, 0, none⟩ (.int .i64 0) = X2 at *
    have r3 := r2.kept (grownBy_setCell' X2 (w.heap.size + 1 + 1) (.int .i64 0)) (.inr (e2.not_row (by decide) r2).symm)
    have b3 := b2.other (B' := w.heap.size + 1 + 1) (by omega) (.int .i64 0)
    have a3 := a2.other (B' := w.heap.size + 1 + 1) (by omega) (.int .i64 0)
    have e3 := e2.set (.int .i64 0)
    have k3 := (Below.heap_setCell X2 ⟨w.heap.size + 1 + 1, 0, none⟩ (.int .i64 0) D (by show D ≠ w.heap.size + 1 + 1; omega)).trans k2
    have l3 := l2.setCell (p := ⟨w.heap.size + 1 + 1, 0, none⟩) (by show w.heap.size ≤ w.heap.size + 1 + 1; omega) (.int .i64 0)
    generalize X2.setCell ⟨w.heap.size + 1 + 1, 0, none⟩ (.int .i64 0) = X3 at *
    have b4 := b3.kept (grownBy_putObj' X3 D (.deferred none)) (by intro e; cases e; omega)
    have a4 := a3.kept (grownBy_putObj' X3 D (.deferred none)) (by intro e; cases e; omega)
    have e4 := e3.kept (grownBy_putObj' X3 D (.deferred none)) (by intro e; cases e; omega)
    have r4 := ownsRow_putObj r3 (.deferred none) k3 rfl
    have l4 := l3.trans (belowK_b (w := V) (n₀ := w.heap.size) (by omega) X3 D _ (.deferred none) hD k3 rfl rfl)
    refine ⟨by simp, .inl ⟨_, _, rfl, run_takeDeferred k3, ?_⟩⟩
    generalize X3.putObj D (.deferred none) = X4 at *
    refine ⟨by simp, .inr ⟨hdd _, _, _, 24, #[.pointer (some ⟨w.heap.size, 0, none⟩), .pointer (some ⟨w.heap.size + 1, 0, none⟩), .pointer (some ⟨w.heap.size + 1 + 1, 0, none⟩)], rfl, by simp [go_sem], fun _ _ => trivial, ?_⟩⟩
    refine (catch_idle (n - 1) _ _ _ _).mono ?_
    rintro e u' w'' ⟨rfl, rfl, rfl⟩
    exact ⟨_, results_ccc rfl _ _ ⟨w.heap.size, 0, none⟩ ⟨w.heap.size + 1, 0, none⟩ ⟨w.heap.size + 1 + 1, 0, none⟩ _ _ _ rfl rfl rfl (run_loadVar_cell _ _ _ _ (Tryz.isAgg25 _) b4.cell) (run_loadVar_cell _ _ _ _ (Tryz.isAgg3 _) a4.cell) (run_loadVar_cell _ _ _ _ (Tryz.isAgg26 _) e4.cell), _, rfl, r4, l4⟩
  case stop =>
    rintro D c pre X hD _ h _
    exact h.elim
end Go.Proofs.YtdkagjbedinhjaaGreat
