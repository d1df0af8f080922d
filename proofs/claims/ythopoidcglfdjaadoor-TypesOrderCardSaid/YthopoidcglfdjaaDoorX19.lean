/-
  ReadPrefix and Read at the text of the last words.
-/
import Derived.Test.YthopoidcglfdjaaDoorX18
import Derived.Recover
namespace Go.Proofs.YthopoidcglfdjaaDoor
open Go.RowKit

/-- A type as it was read: where its memory lies. -/
def ReadTy (B gb cap2 : Nat) (sa : Option Addr) (sc : Nat) (w : World) : Prop :=
  w.ownsRow B 25 5 (.slice (some ⟨gb, 0, none⟩) 2 cap2) 2 [Value.int IntKind.i64 3, Value.string ⟨#[97]⟩, Value.int IntKind.i64 0, Value.slice sa 1 sc, Value.slice none 0 0, Value.int IntKind.i64 1, Value.string ⟨#[112, 114, 111, 112]⟩, Value.int IntKind.i64 0, Value.slice none 0 0, Value.slice none 0 0] ∧ w.ownsRow B 9 1 (.slice sa 1 sc) 1 [.string ⟨#[99]⟩]
/-- Its value. -/
def readV (gb cap2 : Nat) : Value := .agg #[.int .i64 1, .string ⟨#[102, 117, 110]⟩, .int .i64 0, .slice none 0 0, .slice (some ⟨gb, 0, none⟩) 2 cap2]
theorem ReadTy.has {B gb cap2 : Nat} {sa : Option Addr} {sc : Nat} {w : World} (h : ReadTy B gb cap2 sa sc w) : HasTy w.heap.size w (readV gb cap2) tyFun := funTy h.1 h.2
theorem own_below {B e n k : Nat} {w w' : World} {v : Value} {xs : List Value} (h : w.ownsRow B e k v n xs) (hb : Below w.heap.size w w') : w'.ownsRow B e k v n xs := by
  refine ⟨h.1, ?_⟩
  rcases h.2 with h | ⟨g, cap, cur, rfl, hbg, hg, rest⟩
  · exact .inl h
  · exact .inr ⟨g, cap, cur, rfl, hbg, (hb.block g (Array.getElem?_eq_some_iff.1 hg).1).trans hg, rest⟩
theorem ReadTy.below {B gb cap2 : Nat} {sa : Option Addr} {sc : Nat} {w w' : World} (h : ReadTy B gb cap2 sa sc w) (hb : Below w.heap.size w w') : ReadTy B gb cap2 sa sc w' := ⟨own_below h.1 hb, own_below h.2 hb⟩
theorem ReadTy.store5 {B gb cap2 g : Nat} {sa : Option Addr} {sc : Nat} {w : World} (h : ReadTy B gb cap2 sa sc w) (hg : g < B) (u0 u1 u2 u3 u4 : Value) : ReadTy B gb cap2 sa sc (((((w.setCell ⟨g, 0, none⟩ u0).setCell ⟨g, 1, none⟩ u1).setCell ⟨g, 2, none⟩ u2).setCell ⟨g, 3, none⟩ u3).setCell ⟨g, 4, none⟩ u4) :=
  ⟨own_store5 h.1 hg _ _ _ _ _, own_store5 h.2 hg _ _ _ _ _⟩
theorem ReadTy.mono {B B' gb cap2 : Nat} {sa : Option Addr} {sc : Nat} {w : World} (h : ReadTy B gb cap2 sa sc w) (hB : B' ≤ B) : ReadTy B' gb cap2 sa sc w := ⟨own_mono h.1 hB, own_mono h.2 hB⟩

theorem catch_idle (p q r : Value) (w : World) :
    CallsD Tryd.prog 38 #[p, q, r] .returning w fun e u' w' => e = .returned (.tuple #[]) ∧ u' = .returning ∧ w' = w := by
  refine callsD_of_wpS Tryd.func38 rfl fun c₀ cs hu => ?_
  apply wpS_seq
  apply wpS_region
  simp [wpOpsS, go_sem, recoverD, hu, Tryd.ntmps38, Exit.thenS]
  refine wpS_cond (t := false) (by simp [Act.eval, Array.replicate]) ?_
  simp only [Bool.false_eq_true, if_false]
  refine wpS_of_wp (wp_skip ?_)
  cases c₀
  simp_all [bodyPostS, results, Tryd.results38]

theorem results_ccc {P : Program} {fn : Func} {p q r : Tmp} {t u s : TypeId} (h : fn.results = #[.cell p t, .cell q u, .cell r s]) (tmps : Array Value) (w : World) (a b c : Addr) (x y z : Value) (hp : tmps.getD p undef = .pointer (some a)) (hq : tmps.getD q undef = .pointer (some b)) (hr : tmps.getD r undef = .pointer (some c))
    (h1 : (loadVar t a).run P w = .ok x w) (h2 : (loadVar u b).run P w = .ok y w) (h3 : (loadVar s c).run P w = .ok z w) : (results fn tmps).run P w = .ok (.tuple #[x, y, z]) w := by
  have hp' : tmps[p]?.getD undef = .pointer (some a) := by simpa using hp
  have hq' : tmps[q]?.getD undef = .pointer (some b) := by simpa using hq
  have hr' : tmps[r]?.getD undef = .pointer (some c) := by simpa using hr
  simp [results, h, hp', hq', hr', asAddr, Sem.run_bind, h1, h2, h3, Result.andThen]

theorem blk_set {w : World} {g : Nat} {o : Option Obj} (h : w.heap[g]? = o) (p : Addr) (hp : g ≠ p.block) (u : Value) : (w.setCell p u).heap[g]? = o := (Below.heap_setCell w p u g hp).trans h

set_option maxRecDepth 100000 in
set_option maxHeartbeats 4000000 in
theorem readPrefix_ok (w : World) :
    Calls Tryd.prog 25 #[.string sF] w fun e w' => ∃ gb cap2 sa sc, e = .returned (.tuple #[.agg #[.int .i64 1, .string ⟨#[102, 117, 110]⟩, .int .i64 0, .slice none 0 0, .slice (some ⟨gb, 0, none⟩) 2 cap2], .string ⟨#[]⟩, .bool true]) ∧ ReadTy w.heap.size gb cap2 sa sc w' ∧ Below w.heap.size w w' := by
  have hmf : ∀ (fn : Fn) (first cap : Array Value) (w : World), (Instr.makeFunc fn first cap).run Tryd.prog w = .ok (.func fn first cap) w := fun _ _ _ _ => rfl
  go_enter_defers Tryd.func25, Tryd.ntmps25
  go_wp2_with fail
  have hb : Below w.heap.size w ((((w.alloc (.cells #[.int .i64 0, .string ⟨#[]⟩, .int .i64 0, .slice none 0 0, .slice none 0 0] 25)).alloc (.cells #[.string ⟨#[]⟩] 9)).alloc (.cells #[.bool false] 4)).alloc (.cells #[.string sF] 74)) := ((((Below.refl _ w).alloc (Nat.le_refl _) _).alloc (by simp) _).alloc (by simp; omega) _).alloc (by simp; omega) _
  have hsz : ((((w.alloc (.cells #[.int .i64 0, .string ⟨#[]⟩, .int .i64 0, .slice none 0 0, .slice none 0 0] 25)).alloc (.cells #[.string ⟨#[]⟩] 9)).alloc (.cells #[.bool false] 4)).alloc (.cells #[.string sF] 74)).heap.size = w.heap.size + 4 := by simp
  have h0 : ((((w.alloc (.cells #[.int .i64 0, .string ⟨#[]⟩, .int .i64 0, .slice none 0 0, .slice none 0 0] 25)).alloc (.cells #[.string ⟨#[]⟩] 9)).alloc (.cells #[.bool false] 4)).alloc (.cells #[.string sF] 74)).heap[w.heap.size]? = some (.cells #[.int .i64 0, .string ⟨#[]⟩, .int .i64 0, .slice none 0 0, .slice none 0 0] 25) := by
    rw [Below.heap_alloc _ _ _ (by simp; omega), Below.heap_alloc _ _ _ (by simp; omega), Below.heap_alloc _ _ _ (by simp)]; exact Go.heap_alloc_new w _
  have h1 : ((((w.alloc (.cells #[.int .i64 0, .string ⟨#[]⟩, .int .i64 0, .slice none 0 0, .slice none 0 0] 25)).alloc (.cells #[.string ⟨#[]⟩] 9)).alloc (.cells #[.bool false] 4)).alloc (.cells #[.string sF] 74)).heap[w.heap.size + 1]? = some (.cells #[.string ⟨#[]⟩] 9) := by
    rw [Below.heap_alloc _ _ _ (by simp), Below.heap_alloc _ _ _ (by simp)]; exact Go.heap_alloc2_new w _ _
  have h2 : ((((w.alloc (.cells #[.int .i64 0, .string ⟨#[]⟩, .int .i64 0, .slice none 0 0, .slice none 0 0] 25)).alloc (.cells #[.string ⟨#[]⟩] 9)).alloc (.cells #[.bool false] 4)).alloc (.cells #[.string sF] 74)).heap[w.heap.size + 1 + 1]? = some (.cells #[.bool false] 4) := by
    rw [Below.heap_alloc _ _ _ (by simp)]
    have := Go.heap_alloc_new ((w.alloc (.cells #[.int .i64 0, .string ⟨#[]⟩, .int .i64 0, .slice none 0 0, .slice none 0 0] 25)).alloc (.cells #[.string ⟨#[]⟩] 9)) (.cells #[.bool false] 4)
    simpa using this
  have h3 : ((((w.alloc (.cells #[.int .i64 0, .string ⟨#[]⟩, .int .i64 0, .slice none 0 0, .slice none 0 0] 25)).alloc (.cells #[.string ⟨#[]⟩] 9)).alloc (.cells #[.bool false] 4)).alloc (.cells #[.string sF] 74)).heap[w.heap.size + 1 + 1 + 1]? = some (.cells #[.string sF] 74) := by
    have := Go.heap_alloc_new (((w.alloc (.cells #[.int .i64 0, .string ⟨#[]⟩, .int .i64 0, .slice none 0 0, .slice none 0 0] 25)).alloc (.cells #[.string ⟨#[]⟩] 9)).alloc (.cells #[.bool false] 4)) (.cells #[.string sF] 74)
    simpa using this
  generalize ((((w.alloc (.cells #[.int .i64 0, .string ⟨#[]⟩, .int .i64 0, .slice none 0 0, .slice none 0 0] 25)).alloc (.cells #[.string ⟨#[]⟩] 9)).alloc (.cells #[.bool false] 4)).alloc (.cells #[.string sF] 74)) = w4 at *
  have r4 : RAt (w.heap.size + 1 + 1 + 1) sF w4 := ⟨by rw [Lib.cell_of_heap h3]; rfl, Lib.frozen_of_heap h3 0, by omega⟩
  refine (typ_fun _ w4 r4).mono ?_
  rintro e w5 ⟨gb, cap2, sa, sc, rfl, o5, s5, r5, k5⟩
  rw [hsz] at o5 s5
  have x5 : Box w.heap.size _ _ _ _ _ w5 := (k5.block w.heap.size (by omega) (by omega)).trans h0
  have y5 : w5.heap[w.heap.size + 1]? = some (.cells #[.string ⟨#[]⟩] 9) := (k5.block _ (by omega) (by omega)).trans h1
  have t5 : w5.heap[w.heap.size + 1 + 1]? = some (.cells #[.bool false] 4) := (k5.block _ (by omega) (by omega)).trans h2
  have b5 : Below w.heap.size w w5 := hb.trans (k5.below (by omega) (by omega))
  have X5 := Lib.hid x5
  have xq0 := x5.c0
  have xg0 := x5.fr 0
  have xq1 := x5.c1
  have xg1 := x5.fr 1
  have xq2 := x5.c2
  have xg2 := x5.fr 2
  have xq3 := x5.c3
  have xg3 := x5.fr 3
  have xq4 := x5.c4
  have xg4 := x5.fr 4
  have X6 := Lib.hid (x5.store (.int .i64 1) (.string ⟨#[102, 117, 110]⟩) (.int .i64 0) (.slice none 0 0) (.slice (some ⟨gb, 0, none⟩) 2 cap2))
  have O6 := Lib.hid (own_store5 o5 (show w.heap.size < w.heap.size + 4 by omega) (.int .i64 1) (.string ⟨#[102, 117, 110]⟩) (.int .i64 0) (.slice none 0 0) (.slice (some ⟨gb, 0, none⟩) 2 cap2))
  have S6 := Lib.hid (own_store5 s5 (show w.heap.size < w.heap.size + 4 by omega) (.int .i64 1) (.string ⟨#[102, 117, 110]⟩) (.int .i64 0) (.slice none 0 0) (.slice (some ⟨gb, 0, none⟩) 2 cap2))
  have R6 := Lib.hid (r5.store5 (show w.heap.size + 1 + 1 + 1 ≠ w.heap.size by omega) (.int .i64 1) (.string ⟨#[102, 117, 110]⟩) (.int .i64 0) (.slice none 0 0) (.slice (some ⟨gb, 0, none⟩) 2 cap2))
  have Y6 := Lib.hid (blk_set (blk_set (blk_set (blk_set (blk_set y5 ⟨w.heap.size, 0, none⟩ (by show w.heap.size + 1 ≠ w.heap.size; omega) (.int .i64 1)) ⟨w.heap.size, 1, none⟩ (by show w.heap.size + 1 ≠ w.heap.size; omega) (.string ⟨#[102, 117, 110]⟩)) ⟨w.heap.size, 2, none⟩ (by show w.heap.size + 1 ≠ w.heap.size; omega) (.int .i64 0)) ⟨w.heap.size, 3, none⟩ (by show w.heap.size + 1 ≠ w.heap.size; omega) (.slice none 0 0)) ⟨w.heap.size, 4, none⟩ (by show w.heap.size + 1 ≠ w.heap.size; omega) (.slice (some ⟨gb, 0, none⟩) 2 cap2))
  have T6 := Lib.hid (blk_set (blk_set (blk_set (blk_set (blk_set t5 ⟨w.heap.size, 0, none⟩ (by show w.heap.size + 1 + 1 ≠ w.heap.size; omega) (.int .i64 1)) ⟨w.heap.size, 1, none⟩ (by show w.heap.size + 1 + 1 ≠ w.heap.size; omega) (.string ⟨#[102, 117, 110]⟩)) ⟨w.heap.size, 2, none⟩ (by show w.heap.size + 1 + 1 ≠ w.heap.size; omega) (.int .i64 0)) ⟨w.heap.size, 3, none⟩ (by show w.heap.size + 1 + 1 ≠ w.heap.size; omega) (.slice none 0 0)) ⟨w.heap.size, 4, none⟩ (by show w.heap.size + 1 + 1 ≠ w.heap.size; omega) (.slice (some ⟨gb, 0, none⟩) 2 cap2))
  have B6 := Lib.hid (((((b5.setCell (p := ⟨w.heap.size, 0, none⟩) (Nat.le_refl _) (.int .i64 1)).setCell (p := ⟨w.heap.size, 1, none⟩) (Nat.le_refl _) (.string ⟨#[102, 117, 110]⟩)).setCell (p := ⟨w.heap.size, 2, none⟩) (Nat.le_refl _) (.int .i64 0)).setCell (p := ⟨w.heap.size, 3, none⟩) (Nat.le_refl _) (.slice none 0 0)).setCell (p := ⟨w.heap.size, 4, none⟩) (Nat.le_refl _) (.slice (some ⟨gb, 0, none⟩) 2 cap2))
  go_wp2_with fail
  generalize ((((w5.setCell ⟨w.heap.size, 0, none⟩ (.int .i64 1)).setCell ⟨w.heap.size, 1, none⟩ (.string ⟨#[102, 117, 110]⟩)).setCell ⟨w.heap.size, 2, none⟩ (.int .i64 0)).setCell ⟨w.heap.size, 3, none⟩ (.slice none 0 0)).setCell ⟨w.heap.size, 4, none⟩ (.slice (some ⟨gb, 0, none⟩) 2 cap2) = w6 at *
  have d6 := Lib.hid (show Box w.heap.size _ _ _ _ _ w6.drew from X6.out)
  have q0 := d6.out.c0
  have q1 := d6.out.c1
  have q2 := d6.out.c2
  have q3 := d6.out.c3
  have q4 := d6.out.c4
  have g0 := d6.out.fr 0
  have g1 := d6.out.fr 1
  have g2 := d6.out.fr 2
  have g3 := d6.out.fr 3
  have g4 := d6.out.fr 4
  have y6 : w6.drew.heap[w.heap.size + 1]? = some (.cells #[.string ⟨#[]⟩] 9) := Y6.out
  have t6 : w6.drew.heap[w.heap.size + 1 + 1]? = some (.cells #[.bool false] 4) := T6.out
  have yc : w6.drew.cell? ⟨w.heap.size + 1, 0, none⟩ = some (.string ⟨#[]⟩) := by rw [Lib.cell_of_heap y6]; rfl
  have yf : w6.drew.frozen? ⟨w.heap.size + 1, 0, none⟩ = false := Lib.frozen_of_heap y6 0
  have tc : w6.drew.cell? ⟨w.heap.size + 1 + 1, 0, none⟩ = some (.bool false) := by rw [Lib.cell_of_heap t6]; rfl
  have tf : w6.drew.frozen? ⟨w.heap.size + 1 + 1, 0, none⟩ = false := Lib.frozen_of_heap t6 0
  have rc : w6.drew.cell? ⟨w.heap.size + 1 + 1 + 1, 0, none⟩ = some (.string ⟨#[]⟩) := R6.out.1
  have p0 := X6.out.c0
  have pg0 := X6.out.fr 0
  have p1 := X6.out.c1
  have pg1 := X6.out.fr 1
  have p2 := X6.out.c2
  have pg2 := X6.out.fr 2
  have p3 := X6.out.c3
  have pg3 := X6.out.fr 3
  have p4 := X6.out.c4
  have pg4 := X6.out.fr 4
  have yc' : w6.cell? ⟨w.heap.size + 1, 0, none⟩ = some (.string ⟨#[]⟩) := yc
  have yf' : w6.frozen? ⟨w.heap.size + 1, 0, none⟩ = false := yf
  have tc' : w6.cell? ⟨w.heap.size + 1 + 1, 0, none⟩ = some (.bool false) := tc
  have tf' : w6.frozen? ⟨w.heap.size + 1 + 1, 0, none⟩ = false := tf
  have rc' : w6.cell? ⟨w.heap.size + 1 + 1 + 1, 0, none⟩ = some (.string ⟨#[]⟩) := rc
  have n1 : w.heap.size + 1 ≠ w.heap.size := by omega
  have n2 : w.heap.size + 1 + 1 ≠ w.heap.size := by omega
  have n3 : w.heap.size + 1 + 1 + 1 ≠ w.heap.size := by omega
  have n4 : w.heap.size + 1 + 1 ≠ w.heap.size + 1 := by omega
  clear y6 t6 x5 y5 t5 b5 xq0 xq1 xq2 xq3 xq4 xg0 xg1 xg2 xg3 xg4 h0 h1 h2 h3 r5 k5 o5 s5 hb
  go_region
  have x7 := X6.out.store (.int .i64 1) (.string ⟨#[102, 117, 110]⟩) (.int .i64 0) (.slice none 0 0) (.slice (some ⟨gb, 0, none⟩) 2 cap2)
  have o7 := own_store5 O6.out (show w.heap.size < w.heap.size + 4 by omega) (.int .i64 1) (.string ⟨#[102, 117, 110]⟩) (.int .i64 0) (.slice none 0 0) (.slice (some ⟨gb, 0, none⟩) 2 cap2)
  have s7 := own_store5 S6.out (show w.heap.size < w.heap.size + 4 by omega) (.int .i64 1) (.string ⟨#[102, 117, 110]⟩) (.int .i64 0) (.slice none 0 0) (.slice (some ⟨gb, 0, none⟩) 2 cap2)
  have y7 := blk_set (blk_set (blk_set (blk_set (blk_set Y6.out ⟨w.heap.size, 0, none⟩ n1 (.int .i64 1)) ⟨w.heap.size, 1, none⟩ n1 (.string ⟨#[102, 117, 110]⟩)) ⟨w.heap.size, 2, none⟩ n1 (.int .i64 0)) ⟨w.heap.size, 3, none⟩ n1 (.slice none 0 0)) ⟨w.heap.size, 4, none⟩ n1 (.slice (some ⟨gb, 0, none⟩) 2 cap2)
  have t7 := blk_set (blk_set (blk_set (blk_set (blk_set T6.out ⟨w.heap.size, 0, none⟩ n2 (.int .i64 1)) ⟨w.heap.size, 1, none⟩ n2 (.string ⟨#[102, 117, 110]⟩)) ⟨w.heap.size, 2, none⟩ n2 (.int .i64 0)) ⟨w.heap.size, 3, none⟩ n2 (.slice none 0 0)) ⟨w.heap.size, 4, none⟩ n2 (.slice (some ⟨gb, 0, none⟩) 2 cap2)
  have b7 := ((((B6.out.setCell (p := ⟨w.heap.size, 0, none⟩) (Nat.le_refl _) (.int .i64 1)).setCell (p := ⟨w.heap.size, 1, none⟩) (Nat.le_refl _) (.string ⟨#[102, 117, 110]⟩)).setCell (p := ⟨w.heap.size, 2, none⟩) (Nat.le_refl _) (.int .i64 0)).setCell (p := ⟨w.heap.size, 3, none⟩) (Nat.le_refl _) (.slice none 0 0)).setCell (p := ⟨w.heap.size, 4, none⟩) (Nat.le_refl _) (.slice (some ⟨gb, 0, none⟩) 2 cap2)
  generalize ((((w6.setCell ⟨w.heap.size, 0, none⟩ (.int .i64 1)).setCell ⟨w.heap.size, 1, none⟩ (.string ⟨#[102, 117, 110]⟩)).setCell ⟨w.heap.size, 2, none⟩ (.int .i64 0)).setCell ⟨w.heap.size, 3, none⟩ (.slice none 0 0)).setCell ⟨w.heap.size, 4, none⟩ (.slice (some ⟨gb, 0, none⟩) 2 cap2) = w7 at *
  have x8 := (x7.setFar (p := ⟨w.heap.size + 1, 0, none⟩) n1.symm (.string ⟨#[]⟩)).setFar (p := ⟨w.heap.size + 1 + 1, 0, none⟩) n2.symm (.bool true)
  have o8 := own_set (own_set o7 ⟨w.heap.size + 1, 0, none⟩ (.string ⟨#[]⟩) (by show w.heap.size + 1 < w.heap.size + 4; omega)) ⟨w.heap.size + 1 + 1, 0, none⟩ (.bool true) (by show w.heap.size + 1 + 1 < w.heap.size + 4; omega)
  have s8 := own_set (own_set s7 ⟨w.heap.size + 1, 0, none⟩ (.string ⟨#[]⟩) (by show w.heap.size + 1 < w.heap.size + 4; omega)) ⟨w.heap.size + 1 + 1, 0, none⟩ (.bool true) (by show w.heap.size + 1 + 1 < w.heap.size + 4; omega)
  have y8 := blk_set (Go.heap_setCell_same _ _ 0 _ 9 (.string ⟨#[]⟩) y7) ⟨w.heap.size + 1 + 1, 0, none⟩ n4.symm (.bool true)
  have t8 := Go.heap_setCell_same _ _ 0 _ 4 (.bool true) (blk_set t7 ⟨w.heap.size + 1, 0, none⟩ n4 (.string ⟨#[]⟩))
  have b8 := (b7.setCell (p := ⟨w.heap.size + 1, 0, none⟩) (by show w.heap.size ≤ w.heap.size + 1; omega) (.string ⟨#[]⟩)).setCell (p := ⟨w.heap.size + 1 + 1, 0, none⟩) (by show w.heap.size ≤ w.heap.size + 1 + 1; omega) (.bool true)
  generalize (w7.setCell ⟨w.heap.size + 1, 0, none⟩ (.string ⟨#[]⟩)).setCell ⟨w.heap.size + 1 + 1, 0, none⟩ (.bool true) = w8 at *
  have X8 : Hid (Box w.heap.size _ _ _ _ _ w8.drew) := Lib.hid x8
  have O8 := Lib.hid (show w8.drew.ownsRow _ _ _ _ _ _ from o8)
  have S8 := Lib.hid (show w8.drew.ownsRow _ _ _ _ _ _ from s8)
  have Y8 : Hid (w8.drew.heap[w.heap.size + 1]? = _) := Lib.hid y8
  have T8 : Hid (w8.drew.heap[w.heap.size + 1 + 1]? = _) := Lib.hid t8
  have B8 := Lib.hid (b8.trans (below_drewN (Below.refl w.heap.size w8) 1))
  clear q0 q1 q2 q3 q4 g0 g1 g2 g3 g4 p0 p1 p2 p3 p4 pg0 pg1 pg2 pg3 pg4 yc yf tc tf rc yc' yf' tc' tf' rc' x8 o8 s8 y8 t8 b8 x7 o7 s7 y7 t7 b7
  go_wp2_with fail
  refine leaves_cons (f := 38) (args := #[.pointer (some ⟨w.heap.size, 0, none⟩), .pointer (some ⟨w.heap.size + 1, 0, none⟩), .pointer (some ⟨w.heap.size + 1 + 1, 0, none⟩)]) (by simp) (by simp [go_sem]) ?_
  refine (catch_idle _ _ _ _).mono ?_
  rintro e u' w'' ⟨rfl, rfl, rfl⟩
  refine ⟨_, results_ccc rfl _ _ ⟨w.heap.size, 0, none⟩ ⟨w.heap.size + 1, 0, none⟩ ⟨w.heap.size + 1 + 1, 0, none⟩ _ (.string ⟨#[]⟩) (.bool true) rfl rfl rfl (run_loadVar_25 _ _ _ _ _ _ _ X8.out.c0 X8.out.c1 X8.out.c2 X8.out.c3 X8.out.c4) (run_loadVar_cell _ _ _ _ (Tryd.isAgg9 _) (by rw [Lib.cell_of_heap Y8.out]; rfl)) (run_loadVar_cell _ _ _ _ (Tryd.isAgg4 _) (by rw [Lib.cell_of_heap T8.out]; rfl)), ?_⟩
  exact ⟨gb, cap2, sa, sc, rfl, ReadTy.mono ⟨O8.out, S8.out⟩ (by omega), B8.out⟩

theorem results_ct {P : Program} {fn : Func} {p q : Tmp} {t : TypeId} (h : fn.results = #[.cell p t, .tmp q]) (tmps : Array Value) (w : World) (a : Addr) (x : Value) (hp : tmps.getD p undef = .pointer (some a)) (h1 : (loadVar t a).run P w = .ok x w) : (results fn tmps).run P w = .ok (.tuple #[x, tmps.getD q undef]) w := by
  have hp' : tmps[p]?.getD undef = .pointer (some a) := by simpa using hp
  simp [results, h, hp', asAddr, h1, Result.andThen]

set_option maxRecDepth 100000 in
set_option maxHeartbeats 4000000 in
theorem read_ok (w : World) :
    Calls Tryd.prog 13 #[.string sF] w fun e w' => ∃ gb cap2 sa sc, e = .returned (.tuple #[.agg #[.int .i64 1, .string ⟨#[102, 117, 110]⟩, .int .i64 0, .slice none 0 0, .slice (some ⟨gb, 0, none⟩) 2 cap2], .int .i64 0]) ∧ ReadTy w.heap.size gb cap2 sa sc w' ∧ Below w.heap.size w w' := by
  have hlen : sF.size = 18 := by decide
  have b1 : Below w.heap.size w (w.alloc (.cells #[.int .i64 0, .string ⟨#[]⟩, .int .i64 0, .slice none 0 0, .slice none 0 0] 25)) := (Below.refl _ w).alloc (Nat.le_refl _) _
  have x1 := Box.new w (.int .i64 0) (.string ⟨#[]⟩) (.int .i64 0) (.slice none 0 0) (.slice none 0 0)
  have s1 : (w.alloc (.cells #[.int .i64 0, .string ⟨#[]⟩, .int .i64 0, .slice none 0 0, .slice none 0 0] 25)).heap.size = w.heap.size + 1 := by simp
  have B1 := Lib.hid b1
  have X1 := Lib.hid x1
  clear b1 x1
  go_enter Tryd.func13, Tryd.ntmps13
  go_wp2_with fail
  generalize w.alloc (.cells #[.int .i64 0, .string ⟨#[]⟩, .int .i64 0, .slice none 0 0, .slice none 0 0] 25) = w1 at *
  refine (readPrefix_ok w1).mono ?_
  rintro e w2 ⟨gb, cap2, sa, sc, rfl, t2, b2⟩
  have z2 := b2.size
  have X2 := Lib.hid (X1.out.below b2 (by omega))
  have T2 := Lib.hid t2
  have B2 := Lib.hid (B1.out.trans (b2.mono (by omega)))
  clear t2 b2
  have b3 : Below w2.heap.size w2 (w2.alloc (.cells #[.int .i64 1, .string ⟨#[102, 117, 110]⟩, .int .i64 0, .slice none 0 0, .slice (some ⟨gb, 0, none⟩) 2 cap2] 25)) := (Below.refl _ w2).alloc (Nat.le_refl _) _
  have s3 : (w2.alloc (.cells #[.int .i64 1, .string ⟨#[102, 117, 110]⟩, .int .i64 0, .slice none 0 0, .slice (some ⟨gb, 0, none⟩) 2 cap2] 25)).heap.size = w2.heap.size + 1 := by simp
  have Y3 := Lib.hid (Box.new w2 (.int .i64 1) (.string ⟨#[102, 117, 110]⟩) (.int .i64 0) (.slice none 0 0) (.slice (some ⟨gb, 0, none⟩) 2 cap2))
  have T3 := Lib.hid (T2.out.below b3)
  have X3 := Lib.hid (X2.out.below b3 X2.out.lt)
  have B3 := Lib.hid (B2.out.trans (b3.mono B2.out.size))
  obtain ⟨vs, hvs, a3⟩ := T2.out.has.boxed (Nat.le_refl _) 25
  have A3 := Lib.hid a3
  cases hvs
  clear b3 a3
  go_wp2_with fail
  generalize w2.alloc (.cells #[.int .i64 1, .string ⟨#[102, 117, 110]⟩, .int .i64 0, .slice none 0 0, .slice (some ⟨gb, 0, none⟩) 2 cap2] 25) = w3 at *
  obtain ⟨ab, ao, cap, hf⟩ := funAt_of A3.out
  refine (form_ok (w2.heap.size + 1) w2.heap.size 0 ab ao cap w3 (by omega) hf).mono ?_
  rintro e w4 ⟨rfl, b4⟩
  have b4' : Below w3.heap.size w3 w4 := b4.mono (by omega)
  have x4 := X3.out.below b4' X3.out.lt
  have y4 := Y3.out.below b4' (by omega)
  have X4 := Lib.hid x4
  have T4 := Lib.hid (T3.out.below b4')
  have B4 := Lib.hid (B3.out.trans (b4.mono (by omega)))
  have xq0 := x4.c0
  have xg0 := x4.fr 0
  have yq0 := y4.c0
  have xq1 := x4.c1
  have xg1 := x4.fr 1
  have yq1 := y4.c1
  have xq2 := x4.c2
  have xg2 := x4.fr 2
  have yq2 := y4.c2
  have xq3 := x4.c3
  have xg3 := x4.fr 3
  have yq3 := y4.c3
  have xq4 := x4.c4
  have xg4 := x4.fr 4
  have yq4 := y4.c4
  clear b4 b4' x4 y4 hf
  go_wp2_with fail
  (try simp only [Exit.inBlock, Exit.then])
  have X5 := X4.out.store (.int .i64 1) (.string ⟨#[102, 117, 110]⟩) (.int .i64 0) (.slice none 0 0) (.slice (some ⟨gb, 0, none⟩) 2 cap2)
  refine bodyPost_ret (results_ct rfl _ _ ⟨w.heap.size, 0, none⟩ _ rfl (run_loadVar_25 _ _ _ _ _ _ _ X5.c0 X5.c1 X5.c2 X5.c3 X5.c4)) rfl ?_
  exact ⟨gb, cap2, sa, sc, rfl, (T4.out.store5 (by omega) _ _ _ _ _).mono (by omega), ((((B4.out.setCell (p := ⟨w.heap.size, 0, none⟩) (Nat.le_refl _) _).setCell (p := ⟨w.heap.size, 1, none⟩) (Nat.le_refl _) _).setCell (p := ⟨w.heap.size, 2, none⟩) (Nat.le_refl _) _).setCell (p := ⟨w.heap.size, 3, none⟩) (Nat.le_refl _) _).setCell (p := ⟨w.heap.size, 4, none⟩) (Nat.le_refl _) _⟩
end Go.Proofs.YthopoidcglfdjaaDoor
