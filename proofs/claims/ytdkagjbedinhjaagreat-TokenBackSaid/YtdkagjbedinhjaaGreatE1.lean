/-
  escape: its Replacer, made.
-/
import Derived.Test.YtdkagjbedinhjaaGreatZ3
namespace Go.Proofs.YtdkagjbedinhjaaGreat
open Go.RowKit Go.Shelf

/-- The six texts. -/
def sixCells : List Value := [.string ⟨#[92]⟩, .string ⟨#[92, 92]⟩, .string ⟨#[34]⟩, .string ⟨#[92, 34]⟩, .string ⟨#[10]⟩, .string ⟨#[92, 110]⟩]
theorem infoStr : (Tryz.prog.info? 9).map (fun i => (i.zero, i.size, i.bytes)) = some (some (.string ⟨#[]⟩), 1, 16) := by kernel_rfl

/-- A Replacer that was made, but not yet built. -/
structure RepNew (b : Nat) (w : World) : Prop where
  cells : ∃ g c, w.heap[b]? = some (.cells #[.int .u32 0, .int .i32 0, .int .u32 0, .nilIface, .slice (some ⟨g, 0, none⟩) 6 c] 88 (0, 0)) ∧ g < b ∧ ∀ j u, sixCells[j]? = some u → w.cell? ⟨g, j, none⟩ = some u

set_option maxRecDepth 100000 in
set_option maxHeartbeats 4000000 in
theorem newReplacer_six (g c : Nat) (w : World) (h : ∀ j u, sixCells[j]? = some u → w.cell? ⟨g, j, none⟩ = some u) :
    Calls Tryz.prog 34 #[.slice (some ⟨g, 0, none⟩) 6 c] w fun e w' => (∃ r, e = .returned (.pointer (some ⟨r, 0, none⟩)) ∧ w.heap.size ≤ r ∧ RepNew r w') ∧ Below w.heap.size w w' := by
  obtain ⟨i0, hi, hz0, hz1, hz2⟩ := info_parts infoStr
  have HC := Lib.hid h
  clear h
  go_enter Tryz.func34, Tryz.ntmps34
  go_wp2_with (at_builtin; refine wpList_append_own _ rfl _ _ 22 rfl w.heap.size 9 i0 (.string ⟨#[]⟩) 1 16 Tryz.underlying22 hi hz0 hz1 hz2 rfl (by decide) _ _ _ rfl (World.ownsRow_nil _ _ _ _) ⟨g, 0, none⟩ 6 c sixCells rfl rfl (fun j u hj => by rw [Addr.add_lit, Nat.zero_add]; exact HC.out j u hj) (by decide) (by decide) (by decide) (Nat.le_refl _) ?_)
  intro v' w1 hown hgrow hnil
  obtain ⟨g', c', rfl⟩ : ∃ g c, v' = .slice (some ⟨g, 0, none⟩) 6 c := by
    rcases hown.2 with ⟨_, h⟩ | ⟨g, cap, cur, h, _⟩
    · cases h
    · exact ⟨g, cap, h⟩
  have hlt := (hown.lt g' rfl).2
  have hcells : ∀ j u, sixCells[j]? = some u → w1.cell? ⟨g', j, none⟩ = some u := fun j u hj => (hown.cellAt j (by have := (List.getElem?_eq_some_iff.1 hj).1; exact this)).trans hj
  have hb := (Below.refl w.heap.size w).grown hgrow (Nat.le_refl _) (by intro k hk; simp [Value.ownBlock] at hk)
  obtain ⟨W, hW⟩ : ∃ W, w1.alloc (.cells #[.int .u32 0, .int .i32 0, .int .u32 0, .nilIface, .slice (some ⟨g', 0, none⟩) 6 c'] 88) = W := ⟨_, rfl⟩
  have HN := Lib.hid (show RepNew w1.heap.size W from ⟨g', c', by rw [← hW]; exact Go.heap_alloc_new _ _, hlt, fun j u hj => by rw [← hW]; exact Lib.cell?_alloc_some _ (hcells j u hj)⟩)
  have HB := Lib.hid (show Below w.heap.size w W by rw [← hW]; exact hb.alloc hb.size _)
  have HZ := Lib.hid hb.size
  have HW := Lib.hid hW
  clear hown hgrow hnil hcells hb hlt hW
  go_wp2_with fail
  rw [HW.out]
  go_ret
  exact ⟨⟨_, rfl, HZ.out, HN.out⟩, HB.out⟩
end Go.Proofs.YtdkagjbedinhjaaGreat
