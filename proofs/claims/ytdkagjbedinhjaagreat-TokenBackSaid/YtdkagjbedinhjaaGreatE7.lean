/-
  sync.Once: the Replacer's build, once.
-/
import Derived.Test.YtdkagjbedinhjaaGreatE6
namespace Go.Proofs.YtdkagjbedinhjaaGreat
open Go.RowKit Go.Shelf

/-- The Replacer's block: its cells. -/
def RepB (b : Nat) (d m s : Int) (i o : Value) (w : World) : Prop := w.heap[b]? = some (.cells #[.int .u32 d, .int .i32 m, .int .u32 s, i, o] 88 (0, 0))

/-- A byteStringReplacer, none of whose blocks is b. -/
def BSRx (b q : Nat) (w : World) : Prop := ∀ w', w.heap.size ≤ w'.heap.size → (∀ k, k < w.heap.size → k ≠ b → w'.heap[k]? = w.heap[k]?) → BSR q w'
theorem BSRx.now {b q : Nat} {w : World} (h : BSRx b q w) : BSR q w := h w (Nat.le_refl _) (fun _ _ _ => rfl)
theorem BSRx.set {b q : Nat} {w : World} (h : BSRx b q w) (j : Nat) (v : Value) : BSRx b q (w.setCell ⟨b, j, none⟩ v) := fun w' hs hw => by
  have e : (w.setCell ⟨b, j, none⟩ v).heap.size = w.heap.size := by simp [World.setCell]
  rw [e] at hs hw
  exact h w' hs fun k hk hkb => (hw k hk hkb).trans (heap_setCell_other _ _ _ _ hkb)

set_option maxRecDepth 100000 in
set_option maxHeartbeats 4000000 in
theorem buildOnce_six (b g c : Nat) (m : Int) (w : World) (hb : RepB b 0 m 0 .nilIface (.slice (some ⟨g, 0, none⟩) 6 c) w) (hg : g < w.heap.size) (hc : ∀ j u, sixCells[j]? = some u → w.cell? ⟨g, j, none⟩ = some u) :
    Calls Tryz.prog 50 #[.pointer (some ⟨b, 0, none⟩)] w fun e w' => e = .returned (.tuple #[]) ∧ ∃ q, BSRx b q w' ∧ RepB b 0 m 0 (.iface 119 (.pointer (some ⟨q, 0, none⟩))) (.slice none 0 0) w' ∧ Below b w w' := by
  have HB := Lib.hid (build_six b g c _ _ _ _ w hb hg hc)
  have hlt : b < w.heap.size := (Array.getElem?_eq_some_iff.1 hb).1
  have HBW := Lib.hid hb
  clear hb hc
  go_enter Tryz.func50, Tryz.ntmps50
  go_wp2_with fail
  (with_reducible refine HB.out.mono ?_)
  rintro e w1 ⟨⟨q, rfl, hrb⟩, hbl⟩
  have hb1 : RepB b 0 m 0 .nilIface (.slice (some ⟨g, 0, none⟩) 6 c) w1 := (hbl.block b hlt).trans HBW.out
  have k3 := Lib.cell_of_heap hb1 3
  have f3 := Lib.frozen_of_heap hb1 3
  have hb2 := heap_setCell_same w1 b 3 _ _ (.iface 119 (.pointer (some ⟨q, 0, none⟩))) hb1
  obtain ⟨w2, hw2⟩ : ∃ w2, w1.setCell ⟨b, 3, none⟩ (.iface 119 (.pointer (some ⟨q, 0, none⟩))) = w2 := ⟨_, rfl⟩
  rw [hw2] at hb2
  have k4 := Lib.cell_of_heap hb2 4
  have f4 := Lib.frozen_of_heap hb2 4
  have hb3 := heap_setCell_same w2 b 4 _ _ (.slice none 0 0) hb2
  have HRB := Lib.hid hrb
  have HB3 := Lib.hid hb3
  have HB2 := Lib.hid hb2
  have HB1 := Lib.hid hb1
  have HBL := Lib.hid hbl
  clear hrb hb1 hb2 hb3 hbl
  simp at k3 k4
  go_wp2_with fail
  go_end0
  have hs2 : w2.heap.size = w1.heap.size := by rw [← hw2]; simp [World.setCell]
  have hs3 : (w2.setCell ⟨b, 4, none⟩ (.slice none 0 0)).heap.size = w2.heap.size := by simp [World.setCell]
  refine ⟨rfl, q, fun w' hz hw => ?_, HB3.out, ?_⟩
  · rw [hs3, hs2] at hz hw
    refine HRB.out.done HRB.out.leq hz (fun g hg1 hg2 => ?_)
    rw [hw g hg2 (by omega), heap_setCell_other _ _ _ _ (by show g ≠ b; omega), ← hw2, heap_setCell_other _ _ _ _ (by show g ≠ b; omega)]
  · refine Below.setCell ?_ (p := ⟨b, 4, none⟩) (Nat.le_refl _) _
    rw [← hw2]
    exact (HBL.out.mono (Nat.le_of_lt hlt)).setCell (p := ⟨b, 3, none⟩) (Nat.le_refl _) _

theorem RepB.put1 {b : Nat} {d m s : Int} {i o : Value} {w : World} (h : RepB b d m s i o w) (m' : Int) : RepB b d m' s i o (w.setCell ⟨b, 1, none⟩ (.int .i32 m')) := heap_setCell_same w b 1 _ _ _ h
theorem RepB.put0 {b : Nat} {d m s : Int} {i o : Value} {w : World} (h : RepB b d m s i o w) (d' : Int) : RepB b d' m s i o (w.setCell ⟨b, 0, none⟩ (.int .u32 d')) := heap_setCell_same w b 0 _ _ _ h
theorem RepB.c0 {b : Nat} {d m s : Int} {i o : Value} {w : World} (h : RepB b d m s i o w) : w.cell? ⟨b, 0, none⟩ = some (.int .u32 d) := Lib.cell_of_heap h 0
theorem RepB.c1 {b : Nat} {d m s : Int} {i o : Value} {w : World} (h : RepB b d m s i o w) : w.cell? ⟨b, 1, none⟩ = some (.int .i32 m) := Lib.cell_of_heap h 1
theorem RepB.c3 {b : Nat} {d m s : Int} {i o : Value} {w : World} (h : RepB b d m s i o w) : w.cell? ⟨b, 3, none⟩ = some i := Lib.cell_of_heap h 3
theorem RepB.f {b : Nat} {d m s : Int} {i o : Value} {w : World} (h : RepB b d m s i o w) (j : Nat) : w.frozen? ⟨b, j, none⟩ = false := Lib.frozen_of_heap h j

set_option maxRecDepth 100000 in
set_option maxHeartbeats 2000000 in
/-- The mark, read. -/
theorem load_mark (a : Addr) (d : Int) (w : World) (hc : w.cell? a = some (.int .u32 d)) :
    Calls Tryz.prog 59 #[.pointer (some a)] w fun e w' => e = .returned (.bool (d != 0)) ∧ w' = w := by
  have hl := run_call_load (P := Tryz.prog) Tryz.func64 (by kernel_rfl) (by kernel_rfl) (by kernel_rfl) .u32 (by kernel_rfl) hc
  go_enter Tryz.func59, Tryz.ntmps59
  go_wp2_with fail
  go_ret
  exact ⟨rfl, rfl⟩

set_option maxRecDepth 100000 in
set_option maxHeartbeats 4000000 in
theorem slow_six (b g c : Nat) (w : World) (hb : RepB b 0 0 0 .nilIface (.slice (some ⟨g, 0, none⟩) 6 c) w) (hg : g < w.heap.size) (hgb : g ≠ b) (hc : ∀ j u, sixCells[j]? = some u → w.cell? ⟨g, j, none⟩ = some u) :
    Calls Tryz.prog 60 #[.pointer (some ⟨b, 0, none⟩), .func (.func 50) #[.pointer (some ⟨b, 0, none⟩)] #[]] w fun e w' => e = .returned (.tuple #[]) ∧ ∃ q, BSRx b q w' ∧ RepB b 1 0 0 (.iface 119 (.pointer (some ⟨q, 0, none⟩))) (.slice none 0 0) w' ∧ Below b w w' := by
  have hlt : b < w.heap.size := (Array.getElem?_eq_some_iff.1 hb).1
  have HL := Lib.hid (lock_free ⟨b, 1, none⟩ w hb.c1 (hb.f 1))
  obtain ⟨W, hW⟩ : ∃ W, w.setCell ⟨b, 1, none⟩ (.int .i32 1) = W := ⟨_, rfl⟩
  have hbW := hb.put1 1
  rw [hW] at hbW
  have HBW := Lib.hid (show Below b w W by rw [← hW]; exact (Below.refl _ w).setCell (p := ⟨b, 1, none⟩) (Nat.le_refl _) _)
  have hsW : W.heap.size = w.heap.size := by rw [← hW]; simp [World.setCell]
  have HO := Lib.hid (buildOnce_six b g c 1 W hbW (by omega) (fun j u hj => by rw [← hW, World.cell?_setCell_other _ _ _ _ (by intro e; exact hgb (congrArg Addr.block e).symm)]; exact hc j u hj))
  have HLM := Lib.hid (load_mark ⟨b, 0, none⟩ 0 W hbW.c0)
  have hnot : ∀ (x : Bool) (w : World), (Op.unary .not (.bool x)).run Tryz.prog w = .ok (.bool (!x)) w := fun _ _ => rfl
  have HW := Lib.hid hW
  clear hb hc hbW hsW hW
  go_enter_defers Tryz.func60, Tryz.ntmps60
  go_wp2_with fail
  (with_reducible refine HL.out.mono ?_)
  rintro e w1 ⟨rfl, rfl⟩
  rw [HW.out]
  go_wp2_with fail
  (with_reducible refine HLM.out.mono ?_)
  rintro e w1 ⟨rfl, rfl⟩
  go_wp2_with fail
  (with_reducible refine HO.out.mono ?_)
  rintro e w2 ⟨rfl, q, hx, hr, hbl⟩
  have HX := Lib.hid hx
  have HR := Lib.hid hr
  have HB2 := Lib.hid (HBW.out.trans hbl)
  have HR0 := Lib.hid ((show RepB b 0 1 0 _ _ w2.drew from hr).put0 1)
  clear hx hr hbl
  go_wp2_with fail
  refine leaves_cons (f := 67) (args := #[.pointer (some ⟨b, 0, none⟩), .bool true]) (by simp) (by simp [go_sem]) ?_
  refine (store_mark ⟨b, 0, none⟩ (.int .u32 0) .returning _ HR.out.c0 (HR.out.f 0)).mono ?_
  rintro e u' w'' ⟨rfl, rfl, rfl⟩
  refine leaves_cons (f := 66) (args := #[.pointer (some ⟨b, 1, none⟩)]) (by simp [settle]) (by simp [go_sem]) ?_
  refine (unlock_held ⟨b, 1, none⟩ _ _ HR0.out.c1 (HR0.out.f 1)).mono ?_
  rintro e u' w'' ⟨rfl, rfl, rfl⟩
  simp [Leaves, settle, results, Tryz.results60]
  exact ⟨q, ((show BSRx b q w2.drew from HX.out).set 0 _).set 1 _, HR0.out.put1 0, (HB2.out.drew.setCell (p := ⟨b, 0, none⟩) (Nat.le_refl _) _).setCell (p := ⟨b, 1, none⟩) (Nat.le_refl _) _⟩

set_option maxRecDepth 100000 in
set_option maxHeartbeats 4000000 in
theorem do_six (b g c : Nat) (w : World) (hb : RepB b 0 0 0 .nilIface (.slice (some ⟨g, 0, none⟩) 6 c) w) (hg : g < w.heap.size) (hgb : g ≠ b) (hc : ∀ j u, sixCells[j]? = some u → w.cell? ⟨g, j, none⟩ = some u) :
    Calls Tryz.prog 49 #[.pointer (some ⟨b, 0, none⟩), .func (.func 50) #[.pointer (some ⟨b, 0, none⟩)] #[]] w fun e w' => e = .returned (.tuple #[]) ∧ ∃ q, BSRx b q w' ∧ RepB b 1 0 0 (.iface 119 (.pointer (some ⟨q, 0, none⟩))) (.slice none 0 0) w' ∧ Below b w w' := by
  have HLM := Lib.hid (load_mark ⟨b, 0, none⟩ 0 w hb.c0)
  have HSL := Lib.hid (slow_six b g c w hb hg hgb hc)
  have hnot : ∀ (x : Bool) (w : World), (Op.unary .not (.bool x)).run Tryz.prog w = .ok (.bool (!x)) w := fun _ _ => rfl
  clear hb hc
  go_enter Tryz.func49, Tryz.ntmps49
  go_wp2_with fail
  (with_reducible refine HLM.out.mono ?_)
  rintro e w1 ⟨rfl, rfl⟩
  go_wp2_with fail
  (with_reducible refine HSL.out.mono ?_)
  rintro e w2 ⟨rfl, h⟩
  have H := Lib.hid h
  clear h
  go_wp2_with fail
  go_end0
  exact ⟨rfl, H.out⟩

set_option maxRecDepth 100000 in
set_option maxHeartbeats 4000000 in
theorem replace_six (b g c : Nat) (s : ByteArray) (w : World) (hb : RepB b 0 0 0 .nilIface (.slice (some ⟨g, 0, none⟩) 6 c) w) (hg : g < w.heap.size) (hgb : g ≠ b) (hc : ∀ j u, sixCells[j]? = some u → w.cell? ⟨g, j, none⟩ = some u) (hs : s.size ≤ 40000) :
    Calls Tryz.prog 35 #[.pointer (some ⟨b, 0, none⟩), .string s] w fun e w' => e = .returned (.string ⟨(escT s.data.toList).toArray⟩) ∧ Below b w w' := by
  have hlt : b < w.heap.size := (Array.getElem?_eq_some_iff.1 hb).1
  have HD := Lib.hid (do_six b g c w hb hg hgb hc)
  clear hb hc
  go_enter Tryz.func35, Tryz.ntmps35
  go_wp2_with fail
  (with_reducible refine HD.out.mono ?_)
  rintro e w1 ⟨rfl, q, hx, hr, hbl⟩
  have HRP := Lib.hid (bsr_replace q s w1 hx.now hs)
  have k3 := hr.c3
  have HBL := Lib.hid hbl
  clear hx hr hbl
  have hm : ∀ w, (method 285 119 (.pointer (some ⟨q, 0, none⟩)) "Replace").run Tryz.prog w = .ok (124, .pointer (some ⟨q, 0, none⟩)) w := fun _ => by kernel_rfl
  go_wp2_with fail
  (with_reducible refine HRP.out.mono ?_)
  rintro e w2 ⟨rfl, hb2⟩
  have HB2 := Lib.hid (HBL.out.trans (hb2.mono (Nat.le_trans (Nat.le_of_lt hlt) HBL.out.size)))
  clear hb2
  go_wp2_with fail
  go_ret
  exact ⟨rfl, HB2.out⟩

set_option maxRecDepth 100000 in
set_option maxHeartbeats 4000000 in
/-- escape does what it should. -/
theorem escapes : Escapes := fun s w hs => by
  go_enter Tryz.func27, Tryz.ntmps27
  obtain ⟨W, hW⟩ : ∃ W, w.alloc (.cells #[.string ⟨#[92]⟩, .string ⟨#[92, 92]⟩, .string ⟨#[34]⟩, .string ⟨#[92, 34]⟩, .string ⟨#[10]⟩, .string ⟨#[92, 110]⟩] 9) = W := ⟨_, rfl⟩
  have HB := Lib.hid (show Below w.heap.size w W by rw [← hW]; exact (Below.refl _ w).alloc (Nat.le_refl _) _)
  have HN := Lib.hid (newReplacer_six w.heap.size 6 W (fun j u hj => by rw [← hW, Lib.cell_of_heap (Go.heap_alloc_new _ _), List.getElem?_toArray]; exact hj))
  have HW := Lib.hid hW
  clear hW
  go_wp2_with fail
  rw [HW.out]
  (with_reducible refine HN.out.mono ?_)
  rintro e w1 ⟨⟨r, rfl, hr1, hr2⟩, hb1⟩
  obtain ⟨g, c, hh, hgr, hcc⟩ := hr2.cells
  have hlt : r < w1.heap.size := (Array.getElem?_eq_some_iff.1 hh).1
  have HR := Lib.hid (replace_six r g c s w1 hh (by omega) (by omega) hcc hs)
  have HB1 := Lib.hid (HB.out.trans (hb1.mono HB.out.size))
  have HLE := Lib.hid (Nat.le_trans HB.out.size hr1)
  clear hr1 hr2 hh hgr hcc hb1
  go_wp2_with fail
  (with_reducible refine HR.out.mono ?_)
  rintro e w2 ⟨rfl, hb2⟩
  have HB2 := Lib.hid (HB1.out.trans (hb2.mono HLE.out))
  clear hb2
  go_wp2_with fail
  go_ret
  exact ⟨rfl, HB2.out⟩
end Go.Proofs.YtdkagjbedinhjaaGreat
