/-
  slices.Grow of nil, Concat of two slices of strings; Algebra.Meet.
-/
import Derived.Test.YtlaibimdkamcfaaE6
import Derived.Laws.AppendOwnNone
import Derived.Lib.AppendZerosOnto
import Derived.Deep.RegionHeld3
import Derived.LoopN
import Derived.Lib.Walk
namespace Go.Proofs.Ytlaibimdkamcfaa
open Go.RowKit Go.Maps

theorem run_append_src {w : World} {base B2 n : Nat} {v vp : Value} {xs : List Value} {l : List ByteArray} (ty : TypeId) (hown : w.ownsRow base 9 1 v n xs) (hsrc : w.ownsRow B2 9 1 vp l.length (l.map Value.string)) (h : n + l.length ≤ 2000) (hb : base ≤ w.heap.size) :
    ∃ v' w', (Builtin.append_ #[27, 27] ty #[v, vp]).run Try.prog w = .ok v' w' ∧ w'.ownsRow base 9 1 v' (n + l.length) (xs ++ l.map Value.string) ∧ w.grownBy w' v.ownBlock := by
  obtain ⟨i9, hi9, hx0, hx1, hxb⟩ := info_parts Try.info9'
  rcases hsrc.2 with ⟨rfl, h0⟩ | ⟨g, cap, cur, rfl, _, hg, hcap, _, hcs, ht⟩
  · have hl : l = [] := List.eq_nil_of_length_eq_zero h0
    subst hl
    exact ⟨v, w, run_append_owned_none (P := Try.prog) (w := w) base 27 ty 9 i9 1 Try.underlying27 hi9 v n xs hown, by simpa using hown, World.grownBy.refl w _⟩
  · obtain ⟨v', w', hr, h1, h2, _⟩ := run_append_own (P := Try.prog) w base 27 ty 9 i9 (.string ByteArray.empty) 1 16 Try.underlying27 hi9 hx0 hx1 hxb rfl (by decide) v n xs hown ⟨g, 0, none⟩ l.length cap (l.map Value.string) (by simp)
      (fun j u hu => by
        rw [Go.WideShapes.add_plain, Nat.zero_add]
        have hj : j < l.length := by
          rcases Nat.lt_or_ge j l.length with hj | hj
          · exact hj
          · rw [List.getElem?_eq_none (by simpa using hj)] at hu; cases hu
        exact own_get hsrc hj hu)
      (fun u hu => by
        obtain ⟨s, _, rfl⟩ := List.mem_map.1 hu
        rfl)
      (by unfold maxLen; omega) (by omega) hb
    exact ⟨v', w', hr, h1, h2⟩

theorem zeroCells_size (z : Value) (h : z.cells.size = 1) (n : Nat) : (Builtin.zeroCells z.cells n).size = n := by
  unfold Builtin.zeroCells
  simp [h]

set_option maxRecDepth 100000 in
set_option maxHeartbeats 2000000 in
theorem grow_nil (n : Nat) (w : World) (hn : n ≤ 2000) :
    Calls Try.prog 89 #[.slice none 0 0, .int .i64 (n : Int)] w fun e w' => ∃ v, e = .returned v ∧ w'.ownsRow w.heap.size 9 1 v 0 [] ∧ Below w.heap.size w w' := by
  by_cases h0 : n = 0
  · subst h0
    go_enter Try.func89, Try.ntmps89
    go_wp2_with fail
    go_ret
    exact ⟨_, rfl, World.ownsRow_nil _ _ _ _, Below.refl _ _⟩
  · obtain ⟨i9, hi9, hx0, hx1, hxb⟩ := info_parts Try.info9'
    have hrz : ∀ ty, (Builtin.append_ #[27, 3] ty #[.slice none 0 0, .int .i64 (n : Int)]).run Try.prog w = _ := fun ty =>
      Lib.run_append_grow_zeros w 27 3 ty 9 i9 (.string ByteArray.empty) .i64 .i64 Try.underlying27 Try.underlying3 hi9 hx0 none 0 0 [] (run_firstCells_none _ _ _ _ _) n (by omega) (by rw [hx1]; decide) (by omega) (by omega) (by rw [hxb]; omega) (by rw [hxb]; exact growslice_fits (by omega) (by omega))
    simp only [Nat.zero_add] at hrz
    have hG := grownCap_ge w n 0 9
    have hG2 := grownCap_le_maxLen w n 0 9 (by unfold maxLen; omega)
    obtain ⟨G, hGe⟩ : ∃ G, G = grownCap w n 0 9 := ⟨_, rfl⟩
    rw [← hGe] at hrz hG hG2
    have hG63 : G ≤ 9223372036854775807 := by unfold maxLen at hG2; omega
    have hC0 : (([] : List Value).toArray ++ Builtin.zeroCells (Value.string ByteArray.empty).cells n ++ Builtin.zeroCells (Value.string ByteArray.empty).cells (G - n)).size = G := by
      simp only [Array.size_append]; rw [zeroCells_size _ rfl, zeroCells_size _ rfl]; simp; omega
    obtain ⟨C, hC⟩ : ∃ C, (([] : List Value).toArray ++ Builtin.zeroCells (Value.string ByteArray.empty).cells n ++ Builtin.zeroCells (Value.string ByteArray.empty).cells (G - n)) = C := ⟨_, rfl⟩
    rw [hC] at hC0 hrz
    have hrow : (w.alloc (.cells C 9)).drew.ownsRow w.heap.size 9 1 (.slice (some ⟨w.heap.size, 0, none⟩) 0 G) 0 [] := World.ownsRow_made w C G (Nat.le_refl _) hG2 (by omega)
    have hbl : Below w.heap.size w (w.alloc (.cells C 9)).drew := ((Below.refl _ w).alloc (Nat.le_refl _) _).drew
    clear hC hC0
    have HR := Lib.hid hrow
    have HB := Lib.hid hbl
    have HRZ := Lib.hid hrz
    clear hrow hbl hrz hGe
    go_enter Try.func89, Try.ntmps89
    go_wp2_with (at_builtin; refine Lib.wpList_append_run _ rfl _ _ _ _ rfl _ _ rfl rfl _ _ (HRZ.out _) ?_)
    go_ret
    exact ⟨_, rfl, HR.out, HB.out⟩

set_option maxRecDepth 100000 in
set_option maxHeartbeats 4000000 in
/-- slices.Concat of two slices of strings that are owned. -/
theorem concat_any (g B1 B2 : Nat) (vp vq : Value) (p q : List ByteArray) (w : World) (h0 : w.heap[g]? = some (.cells #[vp, vq] 27 (0, 0))) (hp : w.ownsRow B1 9 1 vp p.length (p.map Value.string)) (hq : w.ownsRow B2 9 1 vq q.length (q.map Value.string)) (hl : p.length + q.length ≤ 1000) :
    Calls Try.prog 77 #[.slice (some ⟨g, 0, none⟩) 2 2] w fun e w' => ∃ v, e = .returned v ∧ w'.ownsRow w.heap.size 9 1 v (p ++ q).length ((p ++ q).map Value.string) ∧ Below w.heap.size w w' := by
  have c0 : w.cell? ⟨g, 0, none⟩ = some vp := by rw [Lib.cell_of_heap h0]; rfl
  have c1 : w.cell? ⟨g, 1, none⟩ = some vq := by rw [Lib.cell_of_heap h0]; rfl
  obtain ⟨pa, pc, rfl⟩ := own_slice hp
  obtain ⟨qa, qc, rfl⟩ := own_slice hq
  have H0 := Lib.hid h0
  have HP := Lib.hid hp
  have HQ := Lib.hid hq
  clear h0 hp hq
  go_enter Try.func77, Try.ntmps77
  go_wp2_with fail
  refine wp_loop_rounds 3 ?_
  rw [rounds_succ]
  go_wp2_with fail
  rw [rounds_succ]
  go_wp2_with fail
  rw [rounds_succ]
  go_wp2_with fail
  have hgr := grow_nil (p.length + q.length) w (by omega)
  rw [Int.natCast_add] at hgr
  refine hgr.mono ?_
  rintro e w2 ⟨v2, rfl, ho2, hb2⟩
  have hgl := (Array.getElem?_eq_some_iff.1 H0.out).1
  have k0 := (hb2.cell (p := ⟨g, 0, none⟩) hgl).trans c0
  have k1 := (hb2.cell (p := ⟨g, 1, none⟩) hgl).trans c1
  have HP2 := Lib.hid ((KeepT.below 0 hb2).own (by decide) HP.out)
  have HQ2 := Lib.hid ((KeepT.below 0 hb2).own (by decide) HQ.out)
  obtain ⟨a2, c2, rfl⟩ := own_slice ho2
  obtain ⟨v3, w3, hr3, ho3, hg3⟩ := run_append_src 27 ho2 HP2.out (by omega) hb2.size
  simp only [Nat.zero_add, List.nil_append] at ho3
  have hb3 : Below w.heap.size w w3 := hb2.grown hg3 hb2.size (fun k e => (ho2.lt k e).1)
  have l0 := (hb3.cell (p := ⟨g, 0, none⟩) hgl).trans c0
  have l1 := (hb3.cell (p := ⟨g, 1, none⟩) hgl).trans c1
  have HQ3 : w3.ownsRow B2 9 1 (.slice qa q.length qc) q.length (q.map Value.string) := by
    have h := HQ.out
    refine ⟨h.1, ?_⟩
    rcases h.2 with h0 | ⟨g', cap', cur, hv, hB, hh, rest⟩
    · exact .inl h0
    · exact .inr ⟨g', cap', cur, hv, hB, (hb3.block g' (Array.getElem?_eq_some_iff.1 hh).1).trans hh, rest⟩
  obtain ⟨v4, w4, hr4, ho4, hg4⟩ := run_append_src 27 ho3 HQ3 (by omega) hb3.size
  have hb4 : Below w.heap.size w w4 := hb3.grown hg4 hb3.size (fun k e => (ho3.lt k e).1)
  obtain ⟨a3, c3, rfl⟩ := own_slice ho3
  obtain ⟨a4, c4, rfl⟩ := own_slice ho4
  have HO4 := Lib.hid ho4
  have HB4 := Lib.hid hb4
  have HR3 := Lib.hid hr3
  have HR4 := Lib.hid hr4
  clear ho2 ho3 ho4 hb2 hb3 hb4 hr3 hr4 hg3 hg4 HQ3 hgr c0 c1 hgl
  go_wp2_with fail
  refine wp_loop_rounds 3 ?_
  rw [rounds_succ]
  go_wp2_with (at_builtin; refine Lib.wpList_append_run _ rfl _ _ _ _ rfl _ _ rfl rfl _ _ HR3.out ?_)
  rw [rounds_succ]
  go_wp2_with (at_builtin; refine Lib.wpList_append_run _ rfl _ _ _ _ rfl _ _ rfl rfl _ _ HR4.out ?_)
  rw [rounds_succ]
  go_wp2_with fail
  go_ret
  refine ⟨_, rfl, ?_, HB4.out⟩
  have h := HO4.out
  rw [List.length_append, List.map_append]
  exact h
end Go.Proofs.Ytlaibimdkamcfaa
