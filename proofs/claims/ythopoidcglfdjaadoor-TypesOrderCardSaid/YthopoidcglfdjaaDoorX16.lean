/-
  The reader: the list of a sort, the index of a variable, the head of a type.
-/
import Derived.Test.YthopoidcglfdjaaDoorX15
import Derived.Maps.AppendAt
namespace Go.Proofs.YthopoidcglfdjaaDoor
open Go.RowKit

theorem info9 : (Tryd.prog.info? 9).map (fun i => (i.zero, i.size, i.bytes)) = some (some (.string ByteArray.empty), 1, 16) := by kernel_rfl
theorem hs_own {B : Nat} {w : World} {v : Value} {s : ByteArray} (h : w.ownsRow B 9 1 v 1 [.string s]) (hs : s.size ≤ 9223372036854775807) : HasStrs w.heap.size w v [s] := by
  rcases h.2 with ⟨_, h0⟩ | ⟨g, cap, cur, rfl, hbg, hg, hn, hc, hcs, ht⟩
  · omega
  · refine ⟨_, cap, g, 0, rfl, ⟨hn, by unfold maxLen at hc; omega⟩, fun _ => ⟨rfl, (Array.getElem?_eq_some_iff.1 hg).1⟩, fun i hi => ?_⟩
    obtain rfl : i = 0 := by simpa using hi
    refine ⟨?_, hs⟩
    rw [Lib.cell_of_heap hg]
    have e : cur.toList[0]? = some (.string s) := by
      have := congrArg (·[0]?) ht
      simpa using this
    simpa using e

theorem own_but {B rb e n k : Nat} {w w' : World} {v : Value} {xs : List Value} (h : w.ownsRow B e k v n xs) (hb : But w.heap.size rb w w') (hr : rb < B) : w'.ownsRow B e k v n xs := by
  refine ⟨h.1, ?_⟩
  rcases h.2 with h | ⟨g, cap, cur, rfl, hbg, hg, rest⟩
  · exact .inl h
  · exact .inr ⟨g, cap, cur, rfl, hbg, (hb.block g (Array.getElem?_eq_some_iff.1 hg).1 (by omega)).trans hg, rest⟩

theorem own_set {B e n k : Nat} {w : World} {v : Value} {xs : List Value} (h : w.ownsRow B e k v n xs) (p : Addr) (u : Value) (hr : p.block < B) : (w.setCell p u).ownsRow B e k v n xs := by
  refine ⟨h.1, ?_⟩
  rcases h.2 with h | ⟨g, cap, cur, rfl, hbg, hg, rest⟩
  · exact .inl h
  · exact .inr ⟨g, cap, cur, rfl, hbg, (Below.heap_setCell w p u g (by omega)).trans hg, rest⟩
theorem own_mono {B B' e n k : Nat} {w : World} {v : Value} {xs : List Value} (h : w.ownsRow B e k v n xs) (hB : B' ≤ B) : w.ownsRow B' e k v n xs := by
  refine ⟨h.1, ?_⟩
  rcases h.2 with h | ⟨g, cap, cur, rfl, hbg, rest⟩
  · exact .inl h
  · exact .inr ⟨g, cap, cur, rfl, Nat.le_trans hB hbg, rest⟩
theorem own_form {B e k n : Nat} {w : World} {v : Value} {xs : List Value} (h : w.ownsRow B e k v n xs) : ∃ a cap, v = .slice a n cap := by
  rcases h.2 with ⟨rfl, rfl⟩ | ⟨g, cap, cur, rfl, _⟩
  · exact ⟨_, _, rfl⟩
  · exact ⟨_, _, rfl⟩

set_option maxRecDepth 100000 in
set_option maxHeartbeats 4000000 in
theorem list_c (rb : Nat) (w : World) (h : RAt rb ⟨#[99, 125, 44, 32, 112, 114, 111, 112, 41]⟩ w) :
    Calls Tryd.prog 54 #[.pointer (some ⟨rb, 0, none⟩)] w fun e w' => ∃ v, e = .returned v ∧ w'.ownsRow w.heap.size 9 1 v 1 [.string ⟨#[99]⟩] ∧ RAt rb ⟨#[44, 32, 112, 114, 111, 112, 41]⟩ w' ∧ But w.heap.size rb w w' := by
  obtain ⟨i0, hi, hz0, hz1, hz2⟩ := info_parts info9
  have hword := Lib.hid (word_any rb _ _ _ w h (splitWord_c w))
  have hlt := h.2.2
  clear h
  go_enter Tryd.func54, Tryd.ntmps54
  go_wp2_with fail
  refine wp_loop_rounds 1 ?_
  rw [rounds_succ]
  go_wp2_with fail
  refine hword.out.mono ?_
  rintro e w1 ⟨rfl, hr1, hb1⟩
  have R1 := Lib.hid hr1
  clear hr1
  have s1 := hb1.size
  go_wp2_with (at_builtin; refine wpList_append_own_at _ rfl _ _ 22 rfl w.heap.size 9 i0 (.string ByteArray.empty) 1 16 Tryd.underlying22 hi hz0 hz1 hz2 rfl (by decide) _ _ _ rfl (World.ownsRow_nil _ _ _ _) ⟨w1.heap.size, 0, none⟩ 1 1 [.string ⟨#[99]⟩] rfl rfl (cell_one_new _ _ _) (fun x hx => by simp at hx; subst hx; rfl) (by unfold maxLen; omega) (by omega) (by simp; omega) ?_; intro v' w3 hown' hgrow3 hnil3 hlie3)
  have hg : (w1.alloc (.cells #[.string ⟨#[99]⟩] 9)).grownBy w3 none := hgrow3
  have b3 : Below w1.heap.size w1 w3 := ((Below.refl _ w1).alloc (Nat.le_refl _) _).grown hg (by simp) (fun k e => by cases e)
  have hn := Lib.hid (next_any rb _ ⟨#[125]⟩ ⟨#[44, 32, 112, 114, 111, 112, 41]⟩ true w3 (R1.out.below b3 (by omega)) (by decide) (by decide))
  clear hnil3 hlie3 hgrow3
  refine hn.out.mono ?_
  rintro e w4 ⟨rfl, hr4, hb4⟩
  have R4 := Lib.hid hr4
  clear hr4
  have O4 := own_but hown' hb4 hlt
  have s3 := b3.size
  go_wp2_with fail
  go_ret
  exact ⟨_, rfl, O4, R4.out, (hb1.trans (But.of (b3.mono (by omega)))).trans (hb4.mono (by omega))⟩

set_option maxRecDepth 100000 in
set_option maxHeartbeats 4000000 in
theorem splitIndex_a (w : World) : Calls Tryd.prog 63 #[.string ⟨#[97, 46, 48]⟩] w fun e w' => e = .returned (.tuple #[.string ⟨#[97]⟩, .int .i64 0, .bool true]) ∧ Below w.heap.size w w' := by
  have hb : Below w.heap.size w w := Below.refl _ _
  have hl := Lib.hid (Tryd.strings_LastIndexByte ⟨#[97, 46, 48]⟩ 46 (by decide) w)
  have he : Lib.lastIndexByte ⟨#[97, 46, 48]⟩ 46 = 1 := by decide
  rw [he] at hl
  have hx : (⟨#[97, 46, 48]⟩ : ByteArray).extract 2 3 = ⟨#[48]⟩ := by decide
  have hi := Lib.hid (readIndex0 w)
  clear he
  go_enter Tryd.func63, Tryd.ntmps63
  go_wp2_with fail
  refine hl.out.mono ?_
  rintro e w' ⟨rfl, rfl⟩
  go_wp2_with fail
  refine hi.out.mono ?_
  rintro e w' ⟨rfl, rfl⟩
  go_wp2_with fail
  (try simp only [Exit.inBlock, Exit.then])
  refine bodyPost_ret (results_tmp3 rfl _ _ _) rfl ?_
  exact ⟨rfl, hb⟩

theorem run_loadVar_25 (w : World) (g : Nat) (v0 v1 v2 v3 v4 : Value) (h0 : w.cell? ⟨g, 0, none⟩ = some v0) (h1 : w.cell? ⟨g, 1, none⟩ = some v1) (h2 : w.cell? ⟨g, 2, none⟩ = some v2) (h3 : w.cell? ⟨g, 3, none⟩ = some v3) (h4 : w.cell? ⟨g, 4, none⟩ = some v4) :
    (loadVar 25 ⟨g, 0, none⟩).run Tryd.prog w = .ok (.agg #[v0, v1, v2, v3, v4]) w := by
  have hl : (loadCells ⟨g, 0, none⟩ 5).run Tryd.prog w = .ok #[v0, v1, v2, v3, v4] w :=
    run_loadCells_list (P := Tryd.prog) w ⟨g, 0, none⟩ [v0, v1, v2, v3, v4] (fun j v hv => by
      have hadd : (⟨g, 0, none⟩ : Addr).add j = ⟨g, j, none⟩ := by unfold Addr.add; split <;> simp_all
      rw [hadd]
      match j with
      | 0 => simp at hv; subst hv; exact h0
      | 1 => simp at hv; subst hv; exact h1
      | 2 => simp at hv; subst hv; exact h2
      | 3 => simp at hv; subst hv; exact h3
      | 4 => simp at hv; subst hv; exact h4
      | (n + 5) => simp at hv)
  have hagg : (isAgg 25).run Tryd.prog w = .ok true w := by
    unfold isAgg
    rw [Sem.run_bind, run_underlying Tryd.underlying25 w]
    rfl
  simp [loadVar, Sem.run_bind, hagg, hl]

/-- A type in a block of its own. -/
def Box (g : Nat) (v0 v1 v2 v3 v4 : Value) (w : World) : Prop := w.heap[g]? = some (.cells #[v0, v1, v2, v3, v4] 25 (0, 0))
section
variable {g rb B : Nat} {v0 v1 v2 v3 v4 : Value} {w w' : World}
theorem Box.lt (h : Box g v0 v1 v2 v3 v4 w) : g < w.heap.size := (Array.getElem?_eq_some_iff.1 h).1
theorem Box.c0 (h : Box g v0 v1 v2 v3 v4 w) : w.cell? ⟨g, 0, none⟩ = some v0 := by rw [Lib.cell_of_heap h]; rfl
theorem Box.c1 (h : Box g v0 v1 v2 v3 v4 w) : w.cell? ⟨g, 1, none⟩ = some v1 := by rw [Lib.cell_of_heap h]; rfl
theorem Box.c2 (h : Box g v0 v1 v2 v3 v4 w) : w.cell? ⟨g, 2, none⟩ = some v2 := by rw [Lib.cell_of_heap h]; rfl
theorem Box.c3 (h : Box g v0 v1 v2 v3 v4 w) : w.cell? ⟨g, 3, none⟩ = some v3 := by rw [Lib.cell_of_heap h]; rfl
theorem Box.c4 (h : Box g v0 v1 v2 v3 v4 w) : w.cell? ⟨g, 4, none⟩ = some v4 := by rw [Lib.cell_of_heap h]; rfl
theorem Box.fr (h : Box g v0 v1 v2 v3 v4 w) (j : Nat) : w.frozen? ⟨g, j, none⟩ = false := Lib.frozen_of_heap h j
theorem Box.new (w : World) (v0 v1 v2 v3 v4 : Value) : Box w.heap.size v0 v1 v2 v3 v4 (w.alloc (.cells #[v0, v1, v2, v3, v4] 25)) := Go.heap_alloc_new w _
theorem Box.but (h : Box g v0 v1 v2 v3 v4 w) (hb : But B rb w w') (hg : g < B) (hr : g ≠ rb) : Box g v0 v1 v2 v3 v4 w' := (hb.block g hg hr).trans h
theorem Box.below (h : Box g v0 v1 v2 v3 v4 w) (hb : Below B w w') (hg : g < B) : Box g v0 v1 v2 v3 v4 w' := (hb.block g hg).trans h
theorem Box.store (h : Box g v0 v1 v2 v3 v4 w) (u0 u1 u2 u3 u4 : Value) : Box g u0 u1 u2 u3 u4 (((((w.setCell ⟨g, 0, none⟩ u0).setCell ⟨g, 1, none⟩ u1).setCell ⟨g, 2, none⟩ u2).setCell ⟨g, 3, none⟩ u3).setCell ⟨g, 4, none⟩ u4) :=
  Go.heap_setCell_same _ g 4 _ 25 u4 (Go.heap_setCell_same _ g 3 _ 25 u3 (Go.heap_setCell_same _ g 2 _ 25 u2 (Go.heap_setCell_same _ g 1 _ 25 u1 (Go.heap_setCell_same _ g 0 _ 25 u0 h))))
theorem Box.put3 (h : Box g v0 v1 v2 v3 v4 w) (u : Value) : Box g v0 v1 v2 u v4 (w.setCell ⟨g, 3, none⟩ u) := Go.heap_setCell_same _ g 3 _ 25 u h
theorem Box.put4 (h : Box g v0 v1 v2 v3 v4 w) (u : Value) : Box g v0 v1 v2 v3 u (w.setCell ⟨g, 4, none⟩ u) := Go.heap_setCell_same _ g 4 _ 25 u h
theorem Box.res {fn : Func} {p : Tmp} (h : Box g v0 v1 v2 v3 v4 w) (hr : fn.results = #[.cell p 25]) (tmps : Array Value) (hp : tmps.getD p undef = .pointer (some ⟨g, 0, none⟩)) : (results fn tmps).run Tryd.prog w = .ok (.agg #[v0, v1, v2, v3, v4]) w :=
  results_c hr tmps w ⟨g, 0, none⟩ _ hp (run_loadVar_25 w g v0 v1 v2 v3 v4 h.c0 h.c1 h.c2 h.c3 h.c4)
theorem But.store5 (h : But B rb w w') (hg : B ≤ g) (u0 u1 u2 u3 u4 : Value) : But B rb w (((((w'.setCell ⟨g, 0, none⟩ u0).setCell ⟨g, 1, none⟩ u1).setCell ⟨g, 2, none⟩ u2).setCell ⟨g, 3, none⟩ u3).setCell ⟨g, 4, none⟩ u4) :=
  ((((h.setCell ⟨g, 0, none⟩ hg u0).setCell ⟨g, 1, none⟩ hg u1).setCell ⟨g, 2, none⟩ hg u2).setCell ⟨g, 3, none⟩ hg u3).setCell ⟨g, 4, none⟩ hg u4
theorem Box.setFar {p : Addr} (h : Box g v0 v1 v2 v3 v4 w) (hp : g ≠ p.block) (u : Value) : Box g v0 v1 v2 v3 v4 (w.setCell p u) := (Below.heap_setCell w p u g hp).trans h
theorem own_store5 {e n k : Nat} {v : Value} {xs : List Value} (h : w.ownsRow B e k v n xs) (hg : g < B) (u0 u1 u2 u3 u4 : Value) : (((((w.setCell ⟨g, 0, none⟩ u0).setCell ⟨g, 1, none⟩ u1).setCell ⟨g, 2, none⟩ u2).setCell ⟨g, 3, none⟩ u3).setCell ⟨g, 4, none⟩ u4).ownsRow B e k v n xs :=
  own_set (own_set (own_set (own_set (own_set h ⟨g, 0, none⟩ u0 hg) ⟨g, 1, none⟩ u1 hg) ⟨g, 2, none⟩ u2 hg) ⟨g, 3, none⟩ u3 hg) ⟨g, 4, none⟩ u4 hg
theorem RAt.setFar {s : ByteArray} {p : Addr} (h : RAt rb s w) (hp : rb ≠ p.block) (u : Value) : RAt rb s (w.setCell p u) := by
  have hk := Below.heap_setCell w p u rb hp
  exact ⟨(World.cell?_of_block (w := w) (a := ⟨rb, 0, none⟩) hk).trans h.1, (World.frozen?_of_block (w := w) (a := ⟨rb, 0, none⟩) hk).trans h.2.1, by simpa using h.2.2⟩
theorem RAt.store5 {s : ByteArray} (h : RAt rb s w) (hg : rb ≠ g) (u0 u1 u2 u3 u4 : Value) : RAt rb s (((((w.setCell ⟨g, 0, none⟩ u0).setCell ⟨g, 1, none⟩ u1).setCell ⟨g, 2, none⟩ u2).setCell ⟨g, 3, none⟩ u3).setCell ⟨g, 4, none⟩ u4) :=
  ((((h.setFar (p := ⟨g, 0, none⟩) hg u0).setFar (p := ⟨g, 1, none⟩) hg u1).setFar (p := ⟨g, 2, none⟩) hg u2).setFar (p := ⟨g, 3, none⟩) hg u3).setFar (p := ⟨g, 4, none⟩) hg u4
end

set_option maxRecDepth 100000 in
set_option maxHeartbeats 4000000 in
theorem head_con (rb : Nat) (s a t : ByteArray) (w : World) (h : RAt rb s w) (hq : Lib.hasPrefix s.data.toList [39] = false) (hq2 : Lib.hasPrefix s.data.toList [63] = false)
    (ht : (⟨(Lib.trimPrefix s.data.toList [39]).toArray⟩ : ByteArray) = s) (ht2 : (⟨(Lib.trimPrefix s.data.toList [63]).toArray⟩ : ByteArray) = s)
    (hw : ∀ w, Calls Tryd.prog 70 #[.string s] w fun e w' => e = .returned (.tuple #[.string a, .string t]) ∧ Below w.heap.size w w') :
    Calls Tryd.prog 52 #[.pointer (some ⟨rb, 0, none⟩)] w fun e w' => e = .returned (.agg #[.int .i64 1, .string a, .int .i64 0, .slice none 0 0, .slice none 0 0]) ∧ RAt rb t w' ∧ But w.heap.size rb w w' := by
  have hlt := h.2.2
  have N1 := Lib.hid fun W (hr : RAt rb s W) => next_any rb s ⟨#[39]⟩ s false W hr hq ht
  have N2 := Lib.hid fun W (hr : RAt rb s W) => next_any rb s ⟨#[63]⟩ s false W hr hq2 ht2
  have N3 := Lib.hid fun W (hr : RAt rb s W) => word_any rb s a t W hr (hw W)
  have b1 : Below w.heap.size w (w.alloc (.cells #[.int .i64 0, .string ⟨#[]⟩, .int .i64 0, .slice none 0 0, .slice none 0 0] 25)) := (Below.refl _ w).alloc (Nat.le_refl _) _
  have B1 := Lib.hid b1
  have R1 := Lib.hid (h.below b1 hlt)
  have X1 := Lib.hid (Box.new w (.int .i64 0) (.string ⟨#[]⟩) (.int .i64 0) (.slice none 0 0) (.slice none 0 0))
  clear hq hq2 ht ht2 hw h b1
  go_enter Tryd.func52, Tryd.ntmps52
  go_wp2_with fail
  refine (N1.out _ R1.out).mono ?_
  rintro e w2 ⟨rfl, r2, k2⟩
  have X2 := Lib.hid (X1.out.but k2 X1.out.lt (by omega))
  have R2 := Lib.hid r2
  have K2 := Lib.hid ((But.of (rb := rb) B1.out).trans (k2.mono B1.out.size))
  clear r2 k2
  go_wp2_with fail
  refine (N2.out _ R2.out).mono ?_
  rintro e w3 ⟨rfl, r3, k3⟩
  have X3 := Lib.hid (X2.out.but k3 X2.out.lt (by omega))
  have R3 := Lib.hid r3
  have K3 := Lib.hid (K2.out.trans (k3.mono K2.out.size))
  clear r3 k3
  go_wp2_with fail
  refine (N3.out _ R3.out).mono ?_
  rintro e w4 ⟨rfl, r4, k4⟩
  have x4 := X3.out.but k4 X3.out.lt (by omega)
  have R4 := Lib.hid r4
  have K4 := Lib.hid (K3.out.trans (k4.mono K3.out.size))
  have X4 := Lib.hid x4
  have q0 := x4.c0
  have q1 := x4.c1
  have q2 := x4.c2
  have q3 := x4.c3
  have q4 := x4.c4
  have g0 := x4.fr 0
  have g1 := x4.fr 1
  have g2 := x4.fr 2
  have g3 := x4.fr 3
  have g4 := x4.fr 4
  clear r4 k4 x4
  go_wp2_with fail
  (try simp only [Exit.inBlock, Exit.then])
  refine bodyPost_ret ((X4.out.store _ _ _ _ _).res rfl _ rfl) rfl ?_
  exact ⟨rfl, R4.out.store5 (by omega) _ _ _ _ _, K4.out.store5 (Nat.le_refl _) _ _ _ _ _⟩

/-- Four texts. -/
def sA : ByteArray := ⟨#[63, 97, 46, 48, 123, 99, 125, 44, 32, 112, 114, 111, 112, 41]⟩
def sA1 : ByteArray := ⟨#[97, 46, 48, 123, 99, 125, 44, 32, 112, 114, 111, 112, 41]⟩
def sA2 : ByteArray := ⟨#[123, 99, 125, 44, 32, 112, 114, 111, 112, 41]⟩
def sA3 : ByteArray := ⟨#[99, 125, 44, 32, 112, 114, 111, 112, 41]⟩
def sA4 : ByteArray := ⟨#[44, 32, 112, 114, 111, 112, 41]⟩
def sP : ByteArray := ⟨#[112, 114, 111, 112, 41]⟩
def sP1 : ByteArray := ⟨#[41]⟩
def sF : ByteArray := ⟨#[102, 117, 110, 40, 63, 97, 46, 48, 123, 99, 125, 44, 32, 112, 114, 111, 112, 41]⟩
def sF1 : ByteArray := ⟨#[40, 63, 97, 46, 48, 123, 99, 125, 44, 32, 112, 114, 111, 112, 41]⟩

set_option maxRecDepth 100000 in
set_option maxHeartbeats 4000000 in
theorem head_a (rb : Nat) (w : World) (h : RAt rb sA w) :
    Calls Tryd.prog 52 #[.pointer (some ⟨rb, 0, none⟩)] w fun e w' => e = .returned (.agg #[.int .i64 3, .string ⟨#[97]⟩, .int .i64 0, .slice none 0 0, .slice none 0 0]) ∧ RAt rb sA2 w' ∧ But w.heap.size rb w w' := by
  have hlt := h.2.2
  have N1 := Lib.hid fun W (hr : RAt rb sA W) => next_any rb sA ⟨#[39]⟩ sA false W hr (by decide) (by decide)
  have N2 := Lib.hid fun W (hr : RAt rb sA W) => next_any rb sA ⟨#[63]⟩ sA1 true W hr (by decide) (by decide)
  have N3 := Lib.hid fun W (hr : RAt rb sA1 W) => word_any rb sA1 ⟨#[97, 46, 48]⟩ sA2 W hr (splitWord_a W)
  have b1 : Below w.heap.size w (w.alloc (.cells #[.int .i64 0, .string ⟨#[]⟩, .int .i64 0, .slice none 0 0, .slice none 0 0] 25)) := (Below.refl _ w).alloc (Nat.le_refl _) _
  have B1 := Lib.hid b1
  have R1 := Lib.hid (h.below b1 hlt)
  have X1 := Lib.hid (Box.new w (.int .i64 0) (.string ⟨#[]⟩) (.int .i64 0) (.slice none 0 0) (.slice none 0 0))
  clear h b1
  go_enter Tryd.func52, Tryd.ntmps52
  go_wp2_with fail
  refine (N1.out _ R1.out).mono ?_
  rintro e w2 ⟨rfl, r2, k2⟩
  have X2 := Lib.hid (X1.out.but k2 X1.out.lt (by omega))
  have R2 := Lib.hid r2
  have K2 := Lib.hid ((But.of (rb := rb) B1.out).trans (k2.mono B1.out.size))
  clear r2 k2
  go_wp2_with fail
  refine (N2.out _ R2.out).mono ?_
  rintro e w3 ⟨rfl, r3, k3⟩
  have X3 := Lib.hid (X2.out.but k3 X2.out.lt (by omega))
  have R3 := Lib.hid r3
  have K3 := Lib.hid (K2.out.trans (k3.mono K2.out.size))
  clear r3 k3
  go_wp2_with fail
  refine (N3.out _ R3.out).mono ?_
  rintro e w4 ⟨rfl, r4, k4⟩
  have X4 := Lib.hid (X3.out.but k4 X3.out.lt (by omega))
  have R4 := Lib.hid r4
  have K4 := Lib.hid (K3.out.trans (k4.mono K3.out.size))
  clear r4 k4
  go_wp2_with fail
  refine (splitIndex_a w4).mono ?_
  rintro e w5 ⟨rfl, b5⟩
  have x5 := X4.out.below b5 X4.out.lt
  have R5 := Lib.hid (R4.out.below b5 R4.out.2.2)
  have K5 := Lib.hid (K4.out.trans (But.of (b5.mono K4.out.size)))
  have X5 := Lib.hid x5
  have q0 := x5.c0
  have q1 := x5.c1
  have q2 := x5.c2
  have q3 := x5.c3
  have q4 := x5.c4
  have g0 := x5.fr 0
  have g1 := x5.fr 1
  have g2 := x5.fr 2
  have g3 := x5.fr 3
  have g4 := x5.fr 4
  clear b5 x5
  go_wp2_with fail
  (try simp only [Exit.inBlock, Exit.then])
  refine bodyPost_ret ((X5.out.store _ _ _ _ _).res rfl _ rfl) rfl ?_
  exact ⟨rfl, R5.out.store5 (by omega) _ _ _ _ _, K5.out.store5 (Nat.le_refl _) _ _ _ _ _⟩
end Go.Proofs.YthopoidcglfdjaaDoor
