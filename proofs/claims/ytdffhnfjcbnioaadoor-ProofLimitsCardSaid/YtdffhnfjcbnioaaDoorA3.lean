/-
  A strings.Builder that is the first field of a struct: WriteString, Len and String.
-/
import Derived.Test.YtdffhnfjcbnioaaDoorA2
namespace Go.Proofs.YtdffhnfjcbnioaaDoor
open Go.RowKit

/-- A builder at the head of a block of the type T, with the cells R behind it. -/
def BsAt (T : TypeId) (R : List Value) (B b : Nat) (p : Value) (l : List UInt8) (w : World) : Prop :=
  B ≤ b ∧ ∃ v, w.heap[b]? = some (.cells (p :: v :: R).toArray T (0, 0)) ∧ w.ownsRow B 5 1 v (Lib.byteCells l).length (Lib.byteCells l) ∧ v.ownBlock ≠ some b
def IsBs (T : TypeId) (R : List Value) (B b : Nat) (l : List UInt8) (w : World) : Prop :=
  BsAt T R B b (.pointer none) l w ∨ BsAt T R B b (.pointer (some ⟨b, 0, none⟩)) l w

section
variable {T : TypeId} {R : List Value} {B b : Nat} {p : Value} {l : List UInt8} {w w' : World}
theorem BsAt.lt (h : BsAt T R B b p l w) : b < w.heap.size := by
  obtain ⟨_, v, hb, _⟩ := h
  exact (Array.getElem?_eq_some_iff.1 hb).1
theorem BsAt.cell0 (h : BsAt T R B b p l w) : w.cell? ⟨b, 0, none⟩ = some p := by
  obtain ⟨_, v, hb, _⟩ := h
  rw [Lib.cell_of_heap hb]; rfl
theorem BsAt.frozen0 (h : BsAt T R B b p l w) : w.frozen? ⟨b, 0, none⟩ = false := by
  obtain ⟨_, v, hb, _⟩ := h
  exact Lib.frozen_of_heap hb 0
theorem BsAt.shape (h : BsAt T R B b p l w) : w.shape? b = some (T, R.length + 2) := by
  obtain ⟨_, v, hb, _⟩ := h
  simp [World.shape?, hb]
theorem BsAt.used (h : BsAt T R B b p l w) (q : Value) : BsAt T R B b q l (w.setCell ⟨b, 0, none⟩ q) := by
  obtain ⟨hB, v, hb, hown, hne⟩ := h
  refine ⟨hB, v, ?_, ?_, hne⟩
  · simp [World.setCell, Array.getElem?_modify, hb]
  · exact hown.kept (row := some b) ⟨rfl, rfl, rfl, by simp [World.setCell], fun k _ hk => Below.heap_setCell _ _ _ _ (fun e => hk (by simp [e]))⟩ (Or.inr hne)
theorem BsAt.below (h : BsAt T R B b p l w) (hw : Below w.heap.size w w') : BsAt T R B b p l w' := by
  have hlt := h.lt
  obtain ⟨hB, v, hb, hown, hne⟩ := h
  refine ⟨hB, v, (hw.block b hlt).trans hb, ?_, hne⟩
  refine ⟨hown.1, ?_⟩
  rcases hown.2 with h | ⟨g, cap, cur, rfl, hbg, hg, rest⟩
  · exact .inl h
  · exact .inr ⟨g, cap, cur, rfl, hbg, (hw.block g (Array.getElem?_eq_some_iff.1 hg).1).trans hg, rest⟩
theorem IsBs.below (h : IsBs T R B b l w) (hw : Below w.heap.size w w') : IsBs T R B b l w' := h.elim (fun h => .inl (h.below hw)) (fun h => .inr (h.below hw))
theorem IsBs.lt (h : IsBs T R B b l w) : b < w.heap.size := h.elim (fun h => h.lt) (fun h => h.lt)
end

/-- What is no row of bytes, and not the builder itself, is as it was. -/
def KeepU (b : Nat) (w w' : World) : Prop := ∀ k cs T fr, k ≠ b → w.heap[k]? = some (.cells cs T fr) → T ≠ 5 → w'.heap[k]? = w.heap[k]?
theorem KeepU.refl (b : Nat) (w : World) : KeepU b w w := fun _ _ _ _ _ _ _ => rfl
theorem KeepU.trans {b : Nat} {w w' w'' : World} (h : KeepU b w w') (h' : KeepU b w' w'') : KeepU b w w'' := fun k cs T fr hk hc hT => (h' k cs T fr hk ((h k cs T fr hk hc hT).trans hc) hT).trans (h k cs T fr hk hc hT)
theorem KeepU.below {b : Nat} {w w' : World} (h : Below w.heap.size w w') : KeepU b w w' := fun k cs T fr _ hc _ => h.block k (Array.getElem?_eq_some_iff.1 hc).1
theorem KeepU.set (b o : Nat) (w : World) (v : Value) : KeepU b w (w.setCell ⟨b, o, none⟩ v) := fun k cs T fr hk _ _ => Below.heap_setCell w ⟨b, o, none⟩ v k hk

theorem infoB : ∃ j, Tryd.prog.info? 58 = some j ∧ j.size = 2 := by
  have h : (Tryd.prog.info? 58).map (·.size) = some 2 := by kernel_rfl
  obtain ⟨j, hj, hs⟩ := Option.map_eq_some_iff.1 h
  exact ⟨j, hj, hs⟩

set_option maxHeartbeats 1000000 in
set_option maxRecDepth 100000 in
theorem bs_fresh (T n b : Nat) (w : World) (hlies : liesAt Tryd.prog Tryd.prog.depth T (n / Tryd.prog.cellsOf T) 0 58 1 = true) (hn : 0 < n) (h0 : w.cell? ⟨b, 0, none⟩ = some (.pointer none)) (hsh : w.shape? b = some (T, n)) (hfz : w.frozen? ⟨b, 0, none⟩ = false) :
    Calls Tryd.prog 53 #[.pointer (some ⟨b, 0, none⟩)] w fun e w' => e = .returned (.tuple #[]) ∧ w' = w.setCell ⟨b, 0, none⟩ (.pointer (some ⟨b, 0, none⟩)) := by
  obtain ⟨j, hj, hjs⟩ := infoB
  go_enter Tryd.func53, Tryd.ntmps53
  go_wp2
  rw [Lib.run_to_unsafe w ⟨b, 0, none⟩ Tryd.underlying55 Tryd.underlying122 hj (by rw [hjs]; decide) hsh hn]
  simp only [Result.andThen]
  rw [Oper.upon_value]
  go_wp2
  rw [run_callFunc_extern Tryd.func66 (by kernel_rfl) (by kernel_rfl) (by kernel_rfl) (e := Extern.AbiNoEscape.same) (by kernel_rfl)]
  rw [Lib.run_noEscape]
  simp only [Result.andThen]
  rw [Oper.upon_value]
  go_wp2
  rw [Lib.run_from_unsafe w ⟨b, 0, none⟩ Tryd.underlying122 Tryd.underlying55 hj hsh hlies]
  simp only [Result.andThen]
  rw [Oper.upon_value]
  go_wp2
  go_end0
  exact ⟨rfl, rfl⟩

theorem bs_check (T : TypeId) (R : List Value) (B b : Nat) (l : List UInt8) (w : World) (hlies : liesAt Tryd.prog Tryd.prog.depth T ((R.length + 2) / Tryd.prog.cellsOf T) 0 58 1 = true) (h : IsBs T R B b l w) :
    Calls Tryd.prog 53 #[.pointer (some ⟨b, 0, none⟩)] w fun e w' => e = .returned (.tuple #[]) ∧ (BsAt T R B b (.pointer (some ⟨b, 0, none⟩)) l w' ∧ Below B w w' ∧ KeepU b w w') := by
  rcases h with h | h
  · refine (bs_fresh T (R.length + 2) b w hlies (by omega) h.cell0 h.shape h.frozen0).mono ?_
    rintro e w' ⟨rfl, rfl⟩
    exact ⟨rfl, h.used _, (Below.refl B w).setCell (p := ⟨b, 0, none⟩) h.1 _, KeepU.set b 0 w _⟩
  · refine (check_used b w h.cell0).mono ?_
    rintro e w' ⟨rfl, rfl⟩
    exact ⟨rfl, h, Below.refl B _, KeepU.refl b _⟩

set_option maxHeartbeats 2000000 in
set_option maxRecDepth 100000 in
theorem bs_write (T : TypeId) (R : List Value) (B b : Nat) (l : List UInt8) (s : ByteArray) (w : World) (hlies : liesAt Tryd.prog Tryd.prog.depth T ((R.length + 2) / Tryd.prog.cellsOf T) 0 58 1 = true) (hT : T ≠ 5) (h : IsBs T R B b l w) (hlen : l.length + s.size ≤ 1000000) (hBw : B ≤ w.heap.size) :
    Calls Tryd.prog 38 #[.pointer (some ⟨b, 0, none⟩), .string s] w fun e w' => e = .returned (.tuple #[.int .i64 s.size, .nilIface]) ∧ (BsAt T R B b (.pointer (some ⟨b, 0, none⟩)) (l ++ s.data.toList) w' ∧ Below B w w' ∧ KeepU b w w') := by
  obtain ⟨i0, hi, hz0, hz1, hz2⟩ := info_parts info5
  have HC := Lib.hid (bs_check T R B b l w hlies h)
  clear h
  go_enter Tryd.func38, Tryd.ntmps38
  go_wp2_with fail
  refine HC.out.mono ?_
  rintro e w1 ⟨rfl, h1, hb1, hu1⟩
  obtain ⟨hB, v, hbk, hown, hne⟩ := h1
  have c0 : w1.cell? ⟨b, 0, none⟩ = some (.pointer (some ⟨b, 0, none⟩)) := by rw [Lib.cell_of_heap hbk]; rfl
  have c1 : w1.cell? ⟨b, 1, none⟩ = some v := by rw [Lib.cell_of_heap hbk]; rfl
  go_wp2_with (at_builtin; refine Lib.wpList_append_own_string _ rfl _ _ 56 9 rfl B 5 i0 Tryd.underlying56 Tryd.underlying9 hi hz0 hz1 hz2 _ _ _ rfl hown s rfl ?c3 ?c4 ?c5 ?_)
  case c3 => have := Lib.byteCells_length l; unfold maxLen; omega
  case c4 => rw [Lib.byteCells_length]; omega
  case c5 => have := hb1.size; omega
  intro v' w2 hown' hgrow _
  have hlt : b < w1.heap.size := (Array.getElem?_eq_some_iff.1 hbk).1
  have hb2 : w2.heap[b]? = some (.cells (.pointer (some ⟨b, 0, none⟩) :: v :: R).toArray T (0, 0)) := by
    rw [hgrow.block b hlt (fun e => hne e.symm)]
    exact hbk
  have d0 : w2.cell? ⟨b, 0, none⟩ = some (.pointer (some ⟨b, 0, none⟩)) := by rw [Lib.cell_of_heap hb2]; rfl
  have d1 : w2.cell? ⟨b, 1, none⟩ = some v := by rw [Lib.cell_of_heap hb2]; rfl
  have f1 : w2.frozen? ⟨b, 1, none⟩ = false := Lib.frozen_of_heap hb2 1
  obtain ⟨ao, n', cap, rfl⟩ : ∃ ao n' cap, v' = .slice ao n' cap := by
    rcases hown'.2 with ⟨hv, _⟩ | ⟨g, cap, cur, hv, _⟩
    · exact ⟨_, _, _, hv⟩
    · exact ⟨_, _, _, hv⟩
  have hcells : Lib.byteCells l ++ Lib.strCells s = Lib.byteCells (l ++ s.data.toList) := by rw [Lib.byteCells_append, ← Lib.strCells_eq]
  have HCE := Lib.hid hcells
  have hu2 : KeepU b w1 w2 := fun k cs T' fr hk hc hT' => hgrow.block k (Array.getElem?_eq_some_iff.1 hc).1 (fun e => by
    have := Lib.ownBlock_ne hown hc hT'
    exact this e.symm)
  have HU := Lib.hid (hu1.trans hu2)
  clear hu1 hu2
  clear hcells
  go_wp2
  go_ret2
  refine ⟨rfl, ?_, ?_, HU.out.trans (KeepU.set b 1 w2 _)⟩
  · have hown2 : w2.ownsRow B 5 1 (.slice ao n' cap) (Lib.byteCells (l ++ s.data.toList)).length (Lib.byteCells (l ++ s.data.toList)) := by
      rw [← HCE.out]
      simpa [Lib.strCells_length] using hown'
    have hne2 := Lib.ownBlock_ne hown2 hb2 hT
    refine ⟨hB, .slice ao n' cap, ?_, ?_, hne2⟩
    · simp [World.setCell, Array.getElem?_modify, hb2]
    · exact hown2.kept (row := some b) ⟨rfl, rfl, rfl, by simp [World.setCell], fun k _ hk => Below.heap_setCell _ _ _ _ (fun e => hk (by simp [e]))⟩ (Or.inr hne2)
  · exact (hb1.grown hgrow (by have := hb1.size; omega) (fun k hk => (hown.lt k hk).1)).setCell (p := ⟨b, 1, none⟩) hB _

set_option maxHeartbeats 2000000 in
set_option maxRecDepth 100000 in
theorem bs_len (T : TypeId) (R : List Value) (B b : Nat) (l : List UInt8) (w : World) (h : IsBs T R B b l w) :
    Calls Tryd.prog 37 #[.pointer (some ⟨b, 0, none⟩)] w fun e w' => e = .returned (.int .i64 l.length) ∧ w' = w := by
  obtain ⟨p, hB, v, hbk, hown, hne⟩ : ∃ p, BsAt T R B b p l w := h.elim (fun h => ⟨_, h⟩) (fun h => ⟨_, h⟩)
  rw [Lib.byteCells_length] at hown
  obtain ⟨g, cap, rfl⟩ : ∃ g cap, v = .slice g l.length cap := by
    rcases hown.2 with ⟨h1, h2⟩ | ⟨g, cap, cur, h1, _⟩
    · exact ⟨none, 0, by rw [h1, h2]⟩
    · exact ⟨_, cap, h1⟩
  have c1 : w.cell? ⟨b, 1, none⟩ = some (.slice g l.length cap) := by rw [Lib.cell_of_heap hbk]; rfl
  clear hown hbk
  go_enter Tryd.func37, Tryd.ntmps37
  go_wp2
  go_ret
  exact ⟨rfl, rfl⟩

set_option maxHeartbeats 2000000 in
set_option maxRecDepth 100000 in
theorem bs_string (T : TypeId) (R : List Value) (B b : Nat) (l : List UInt8) (w : World) (h : IsBs T R B b l w) (h0 : l ≠ []) :
    Calls Tryd.prog 16 #[.pointer (some ⟨b, 0, none⟩)] w fun e w' => e = .returned (.string ⟨l.toArray⟩) ∧ Below B w w' := by
  obtain ⟨p, hB, v, hbk, hown, hne⟩ : ∃ p, BsAt T R B b p l w := h.elim (fun h => ⟨_, h⟩) (fun h => ⟨_, h⟩)
  have hl0 : l.length ≠ 0 := by simpa using h0
  rw [Lib.byteCells_length] at hown
  obtain ⟨g, cap, cur, rfl, hbg, hg, hnc, hcm, hcs, htake⟩ : ∃ g cap cur, v = .slice (some ⟨g, 0, none⟩) l.length cap ∧ B ≤ g ∧ w.heap[g]? = some (.cells cur 5 (0, 0)) ∧ l.length ≤ cap ∧ cap ≤ maxLen ∧ cur.size = cap * 1 ∧ cur.toList.take (l.length * 1) = Lib.byteCells l := by
    rcases hown.2 with ⟨_, hz⟩ | ⟨g, cap, cur, hv, r⟩
    · exact absurd hz hl0
    · exact ⟨g, cap, cur, hv, r⟩
  have c1 : w.drew.cell? ⟨b, 1, none⟩ = some (.slice (some ⟨g, 0, none⟩) l.length cap) := by
    have : w.drew.heap[b]? = some (.cells (p :: .slice (some ⟨g, 0, none⟩) l.length cap :: R).toArray T (0, 0)) := hbk
    rw [Lib.cell_of_heap this]; rfl
  have hSD : (Builtin.unsafeSliceData_ #[56] 78 #[.slice (some ⟨g, 0, none⟩) l.length cap]).run Tryd.prog w.drew = .ok (.pointer (some ⟨g, 0, none⟩)) w.drew :=
    Lib.run_unsafeSliceData_row _ _ _ _ _ _ (by omega)
  have hUS : (Builtin.unsafeString_ #[78, 3] 9 #[.pointer (some ⟨g, 0, none⟩), .int .i64 l.length]).run Tryd.prog w.drew = .ok (.string ⟨l.toArray⟩) (w.drew.freeze ⟨g, 0, none⟩ l.length) := by
    refine Lib.run_unsafeString_row w.drew 78 3 9 5 Tryd.underlying78 (by kernel_rfl) g cur.size (by have hg' : w.drew.heap[g]? = some (.cells cur 5 (0, 0)) := hg; simp [World.shape?, hg']) l h0 (by omega) (by unfold maxLen at hcm; omega) ?_
    intro j x hx
    have := hown.cells (g := g) rfl j (.int .u8 x.toNat) (by simp [Lib.byteCells, hx])
    exact this
  have mixed : Tryd.prog.follows .mixedOrders = true := by kernel_rfl
  go_enter Tryd.func16, Tryd.ntmps16
  go_wp2
  go_region_o
  all_goals (go_wp2; go_ret; exact ⟨rfl, Lib.below_freeze (Below.drew (Below.refl B w)) (p := ⟨g, 0, none⟩) hbg _⟩)
end Go.Proofs.YtdffhnfjcbnioaaDoor
