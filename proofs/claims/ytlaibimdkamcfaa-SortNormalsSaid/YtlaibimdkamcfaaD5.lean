/-
  Algebra.upward; what a function with ranges over functions in a loop leaves with: marks, one behind the other; a loop whose rounds push marks.
-/
import Derived.Test.YtlaibimdkamcfaaD4
namespace Go.Proofs.Ytlaibimdkamcfaa
open Go.RowKit Go.Shelf

set_option maxRecDepth 100000 in
set_option maxHeartbeats 1000000 in
theorem upward_any (na ua ba ta : Option Addr) (nl nc ul uc bl bc tl tc i : Nat) (mv tm sm : Option Nat) (w : World) :
    Calls Try.prog 68 #[.agg #[.slice na nl nc, .map mv, .slice ua ul uc, .slice ba bl bc, .slice ta tl tc, .map tm, .map sm], .int .i64 (i : Int)] w fun e w' =>
      e = .returned (.func (.func 83) #[] #[.pointer (some ⟨w.heap.size + 1, 0, none⟩), .pointer (some ⟨w.heap.size, 0, none⟩)]) ∧
      w' = (w.alloc (.cells #[.slice na nl nc, .map mv, .slice ua ul uc, .slice ba bl bc, .slice ta tl tc, .map tm, .map sm] 70)).alloc (.cells #[.int .i64 (i : Int)] 3) := by
  go_enter Try.func68, Try.ntmps68
  go_wp2_with fail
  go_ret
  exact ⟨rfl, rfl⟩

def marksOf (Ds : List Nat) : List Deferred := Ds.map fun D => { target := .collected D, args := #[] }

/-- The lists of deferred calls that the ranges have left: empty ones, from block B on. -/
structure MarksAt (B : Nat) (Ds : List Nat) (W : World) : Prop where
  nodup : Ds.Nodup
  at_ : ∀ D, D ∈ Ds → B ≤ D ∧ W.heap[D]? = some (.deferred (some []))

/-- Whatever is no list of deferred calls lies as it lay. -/
structure KeepsND (W W' : World) : Prop where
  size : W.heap.size ≤ W'.heap.size
  same : ∀ (b : Nat) (o : Obj), W.heap[b]? = some o → (∀ ds, o ≠ .deferred ds) → W'.heap[b]? = some o
theorem KeepsND.refl (W : World) : KeepsND W W := ⟨Nat.le_refl _, fun _ _ h _ => h⟩
theorem KeepsND.trans {A B C : World} (h : KeepsND A B) (k : KeepsND B C) : KeepsND A C := ⟨Nat.le_trans h.size k.size, fun b o hb hd => k.same b o (h.same b o hb hd) hd⟩

theorem MarksAt.later {B B' : Nat} {Ds : List Nat} {W W' : World} (h : MarksAt B Ds W) (hs : ∀ D, D ∈ Ds → D < B') (hb : Below B' W W') : MarksAt B Ds W' :=
  ⟨h.nodup, fun D hD => ⟨(h.at_ D hD).1, (hb.block D (hs D hD)).trans (h.at_ D hD).2⟩⟩

theorem leaves_marks {F : Fence} {n : Nat} {P : Program} {fn : Func} {tmps : Array Value} {R : Ending → World → Prop} {B : Nat} : ∀ (Ds : List Nat) (W : World), MarksAt B Ds W →
    (∀ W', Below B W W' → KeepsND W W' → LeavesIn F n P fn tmps R [] .returning W') → LeavesInM F n P fn tmps R (marksOf Ds) .returning W
  | [], W, _, h => h W (Below.refl _ _) (.refl _)
  | D :: Ds, W, hm, h => by
    have hD := hm.at_ D List.mem_cons_self
    have hn := List.nodup_cons.1 hm.nodup
    have hk : KeepsND W (W.putObj D (.deferred none)) := by
      refine ⟨by simp, fun b o hb hd => ?_⟩
      by_cases e : b = D
      · subst e; rw [hD.2] at hb; cases hb; exact absurd rfl (hd _)
      · exact (World.putObj_heap_other e).trans hb
    refine ⟨by simp, .inl ⟨D, _, rfl, run_takeDeferred hD.2, ?_⟩⟩
    refine leaves_marks (B := B) Ds _ ⟨hn.2, fun D' hD' => ⟨(hm.at_ D' (List.mem_cons_of_mem _ hD')).1, ?_⟩⟩ fun W' hb hk' => h W' ((below_put hD.2 hD.1).trans hb) (hk.trans hk')
    exact (World.putObj_heap_other (by rintro rfl; exact hn.1 hD')).trans (hm.at_ D' (List.mem_cons_of_mem _ hD')).2

/-- A loop whose rounds push marks: the frame as a function of the slots that it writes. -/
theorem loop_marks {F : Fence} {n : Nat} {P : Program} {c : Code} {Q : Exit → Act → World → Prop} (T : (Nat → Value) → Array Value) (Rel : (Nat → Value) → List Deferred → World → Prop) (μ : Array Value → Nat) {s0 : Nat → Value} {ds0 : List Deferred} {w : World} (h0 : Rel s0 ds0 w)
    (round : ∀ s ds w, Rel s ds w → c.wpIn F n P (Exit.then (fun a' w' => a'.tmps = T (fun i => a'.tmps.getD i undef) ∧ Rel (fun i => a'.tmps.getD i undef) a'.defers w' ∧ μ a'.tmps < μ (T s)) Q) { tmps := T s, defers := ds } w) :
    (Code.loop c).wpIn F n P Q { tmps := T s0, defers := ds0 } w := by
  refine wpIn_loop (fun a w => ∃ s ds, a = { tmps := T s, defers := ds } ∧ Rel s ds w) (fun a _ => μ a.tmps) ⟨s0, ds0, rfl, h0⟩ ?_
  rintro a w ⟨s, ds, rfl, hr⟩
  refine wpIn_mono (round s ds w hr) ?_
  rintro e a' w' h
  cases e with
  | normal =>
    obtain ⟨h1, h2, h3⟩ := h
    refine ⟨⟨_, a'.defers, ?_, h2⟩, h3⟩
    cases a'
    simp only [Act.mk.injEq, and_true]
    exact h1
  | _ => exact h
end Go.Proofs.Ytlaibimdkamcfaa
