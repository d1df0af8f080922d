/-
  The error of a node of a proof, whole: none, for the kinds that the statement's proofs have.
-/
import Derived.Test.YtdffhnfjcbnioaaDoorP4
import Derived.Deep.RegionHeld3
import Derived.LoopN
namespace Go.Proofs.YtdffhnfjcbnioaaDoor
open Go.RowKit

set_option maxRecDepth 100000 in
set_option maxHeartbeats 4000000 in
theorem more_assume (B b o : Nat) (T : Pf) (w : World) (hB : B ≤ w.heap.size) (hT : AtPf B w b o T) (hK : Kinds w) (h0 : T.op = 3) (h1 : T.name = ⟨#[]⟩) :
    Calls Tryd.prog 19 #[.pointer (some ⟨b, o, none⟩)] w fun e w' => e = .returned (.bool false) ∧ Below w.heap.size w w' := by
  obtain ⟨_, c0, _⟩ := hT.own
  rw [h0] at c0
  obtain ⟨g0, g1, g2, g3, g4, g5⟩ := hK.ass
  simp only [Nat.reduceMul, Nat.reduceAdd] at g0 g1 g2 g3 g4 g5
  have hb1 : Below w.heap.size w (w.alloc (.cells #[.string ⟨#[97, 115, 115, 117, 109, 101]⟩, .bool false, .bool true, .bool false, .bool false, .int .i64 0] 67)) := (Below.refl _ w).alloc (Nat.le_refl _) _
  have T1 := hT.later (hb1.mono hB) (Nat.le_refl _)
  obtain ⟨hb, _, d1, dt, d11, d12, d13, d14, d15⟩ := T1.own
  rw [h1] at d1
  have HB1 := Lib.hid hb1
  clear hT hK h0 h1 hb1 T1 dt
  go_enter Tryd.func19, Tryd.ntmps19
  go_wp2_with fail
  go_ret
  exact ⟨rfl, HB1.out⟩

set_option maxRecDepth 100000 in
set_option maxHeartbeats 4000000 in
theorem more_impI (B b o : Nat) (T : Pf) (w : World) (hB : B ≤ w.heap.size) (hT : AtPf B w b o T) (hK : Kinds w) (h0 : T.op = 4) (h1 : T.name = ⟨#[]⟩) :
    Calls Tryd.prog 19 #[.pointer (some ⟨b, o, none⟩)] w fun e w' => e = .returned (.bool false) ∧ Below w.heap.size w w' := by
  obtain ⟨_, c0, _⟩ := hT.own
  rw [h0] at c0
  obtain ⟨g0, g1, g2, g3, g4, g5⟩ := hK.imp
  simp only [Nat.reduceMul, Nat.reduceAdd] at g0 g1 g2 g3 g4 g5
  have hb1 : Below w.heap.size w (w.alloc (.cells #[.string ⟨#[105, 109, 112, 73]⟩, .bool false, .bool true, .bool false, .bool false, .int .i64 1] 67)) := (Below.refl _ w).alloc (Nat.le_refl _) _
  have T1 := hT.later (hb1.mono hB) (Nat.le_refl _)
  obtain ⟨hb, _, d1, dt, d11, d12, d13, d14, d15⟩ := T1.own
  rw [h1] at d1
  have HB1 := Lib.hid hb1
  clear hT hK h0 h1 hb1 T1 dt
  go_enter Tryd.func19, Tryd.ntmps19
  go_wp2_with fail
  go_ret
  exact ⟨rfl, HB1.out⟩

set_option maxRecDepth 100000 in
set_option maxHeartbeats 2000000 in
theorem large_ok (B b o : Nat) (T : Pf) (w : World) (hB : B ≤ w.heap.size) (hT : AtPf B w b o T) (hn : T.tm.nodes ≤ 20000) (hd : T.tm.depth ≤ 500) :
    Calls Tryd.prog 20 #[.pointer (some ⟨b, o, none⟩)] w fun e w' => e = .returned (.bool false) ∧ Below w.heap.size w w' := by
  obtain ⟨hb, _, _, ct, c11, c12, _⟩ := hT.own
  have HS := Lib.hid (tsize_ok B b (o + 2) T.tm w ct hB hn hd)
  clear hT ct
  go_enter Tryd.func20, Tryd.ntmps20
  go_wp2_with fail
  refine wp_loop_rounds 1 ?_
  rw [rounds_succ]
  go_wp2_with fail
  refine wp_loop_rounds 1 ?_
  rw [rounds_succ]
  go_wp2_with fail
  refine HS.out.mono ?_
  rintro e W ⟨rfl, hW⟩
  go_wp2_with fail
  go_ret
  exact ⟨rfl, hW⟩

set_option maxRecDepth 100000 in
set_option maxHeartbeats 4000000 in
theorem node_axiom (B b o : Nat) (T : Pf) (w : World) (hB : B ≤ w.heap.size) (hT : AtPf B w b o T) (hK : Kinds w) (h0 : T.op = 1)  (h2 : T.tm = tm0) (hl : T.kids.length = 0) (hn : T.tm.nodes ≤ 20000) (hd : T.tm.depth ≤ 500) :
    Calls Tryd.prog 12 #[.pointer (some ⟨b, o, none⟩)] w fun e w' => e = .returned (.int .i64 0) ∧ Below w.heap.size w w' := by
  have hbd : Below w.heap.size w w.drew := below_drewN (Below.refl _ _) 1
  have HM := Lib.hid (more_axiom B b o T w.drew hB (hT.later (hbd.mono hB) (Nat.le_refl _)) (hK.later hbd) h0 h2)
  have HL := Lib.hid fun W (h : Below w.heap.size w W) => large_ok B b o T W (Nat.le_trans hB h.size) (hT.later (h.mono hB) (Nat.le_refl _)) hn hd
  obtain ⟨hb, c0, _⟩ := hT.own
  rw [h0] at c0
  obtain ⟨_, _, _, _, _, g5⟩ := hK.axi
  simp only [Nat.reduceMul, Nat.reduceAdd] at g5
  obtain ⟨a, cap, kb, ko, _, c16, _⟩ := hT.kid
  rw [hl] at c16
  have q0 : w.drew.cell? ⟨b, o, none⟩ = _ := c0
  have q5 : w.drew.cell? ⟨0, 11, none⟩ = _ := g5
  have q16 : w.drew.cell? ⟨b, o + 16, none⟩ = _ := c16
  have hb2 : b < w.heap.size := Nat.lt_of_lt_of_le hb hB
  have G5 := Lib.hid fun W (h : Below w.heap.size w W) => (h.cell (p := ⟨0, 11, none⟩) hK.pos).trans g5
  have C0 := Lib.hid fun W (h : Below w.heap.size w W) => (h.cell (p := ⟨b, o, none⟩) hb2).trans c0
  have C16 := Lib.hid fun W (h : Below w.heap.size w W) => (h.cell (p := ⟨b, o + 16, none⟩) hb2).trans c16
  have HBD := Lib.hid hbd
  clear hT hK h0 hl hbd h2
  go_enter Tryd.func12, Tryd.ntmps12
  go_wp2_with fail
  go_region_held3 (fun W => W.cell? ⟨b, o, none⟩ = some (.int .i64 1) ∧ W.cell? ⟨0, 11, none⟩ = some (.int .i64 0) ∧ W.cell? ⟨b, o + 16, none⟩ = some (.slice a 0 cap))
    (refine ⟨?_, ?_, ?_⟩ <;> assumption)
    ((first
      | (go_at_call 19
         refine HM.out.mono ?_
         rintro e w1 ⟨rfl, hw1⟩
         have HB1 := Lib.hid (HBD.out.trans hw1)
         have p0 := C0.out w1 HB1.out
         have p5 := G5.out w1 HB1.out
         have p16 := C16.out w1 HB1.out)
      | fail))
  clear q0 q5 q16 p0 p5 p16 c0 c16 g5
  go_wp2_with fail
  refine (HL.out w1 HB1.out).mono ?_
  rintro e W ⟨rfl, hW⟩
  have HBW := Lib.hid (HB1.out.trans (hW.mono HB1.out.size))
  go_wp2_with fail
  go_ret
  exact ⟨rfl, HBW.out⟩

set_option maxRecDepth 100000 in
set_option maxHeartbeats 4000000 in
theorem node_sym (B b o : Nat) (T : Pf) (w : World) (hB : B ≤ w.heap.size) (hT : AtPf B w b o T) (hK : Kinds w) (h0 : T.op = 9) (h1 : T.name = ⟨#[]⟩) (h2 : T.tm = tm0) (hl : T.kids.length = 1) (hn : T.tm.nodes ≤ 20000) (hd : T.tm.depth ≤ 500) :
    Calls Tryd.prog 12 #[.pointer (some ⟨b, o, none⟩)] w fun e w' => e = .returned (.int .i64 0) ∧ Below w.heap.size w w' := by
  have hbd : Below w.heap.size w w.drew := below_drewN (Below.refl _ _) 1
  have HM := Lib.hid (more_sym B b o T w.drew hB (hT.later (hbd.mono hB) (Nat.le_refl _)) (hK.later hbd) h0 h1 h2)
  have HL := Lib.hid fun W (h : Below w.heap.size w W) => large_ok B b o T W (Nat.le_trans hB h.size) (hT.later (h.mono hB) (Nat.le_refl _)) hn hd
  obtain ⟨hb, c0, _⟩ := hT.own
  rw [h0] at c0
  obtain ⟨_, _, _, _, _, g5⟩ := hK.sym
  simp only [Nat.reduceMul, Nat.reduceAdd] at g5
  obtain ⟨a, cap, kb, ko, _, c16, _⟩ := hT.kid
  rw [hl] at c16
  have q0 : w.drew.cell? ⟨b, o, none⟩ = _ := c0
  have q5 : w.drew.cell? ⟨0, 59, none⟩ = _ := g5
  have q16 : w.drew.cell? ⟨b, o + 16, none⟩ = _ := c16
  have hb2 : b < w.heap.size := Nat.lt_of_lt_of_le hb hB
  have G5 := Lib.hid fun W (h : Below w.heap.size w W) => (h.cell (p := ⟨0, 59, none⟩) hK.pos).trans g5
  have C0 := Lib.hid fun W (h : Below w.heap.size w W) => (h.cell (p := ⟨b, o, none⟩) hb2).trans c0
  have C16 := Lib.hid fun W (h : Below w.heap.size w W) => (h.cell (p := ⟨b, o + 16, none⟩) hb2).trans c16
  have HBD := Lib.hid hbd
  clear hT hK h0 hl hbd h1 h2
  go_enter Tryd.func12, Tryd.ntmps12
  go_wp2_with fail
  go_region_held3 (fun W => W.cell? ⟨b, o, none⟩ = some (.int .i64 9) ∧ W.cell? ⟨0, 59, none⟩ = some (.int .i64 1) ∧ W.cell? ⟨b, o + 16, none⟩ = some (.slice a 1 cap))
    (refine ⟨?_, ?_, ?_⟩ <;> assumption)
    ((first
      | (go_at_call 19
         refine HM.out.mono ?_
         rintro e w1 ⟨rfl, hw1⟩
         have HB1 := Lib.hid (HBD.out.trans hw1)
         have p0 := C0.out w1 HB1.out
         have p5 := G5.out w1 HB1.out
         have p16 := C16.out w1 HB1.out)
      | fail))
  clear q0 q5 q16 p0 p5 p16 c0 c16 g5
  go_wp2_with fail
  refine (HL.out w1 HB1.out).mono ?_
  rintro e W ⟨rfl, hW⟩
  have HBW := Lib.hid (HB1.out.trans (hW.mono HB1.out.size))
  go_wp2_with fail
  go_ret
  exact ⟨rfl, HBW.out⟩

set_option maxRecDepth 100000 in
set_option maxHeartbeats 4000000 in
theorem node_trans (B b o : Nat) (T : Pf) (w : World) (hB : B ≤ w.heap.size) (hT : AtPf B w b o T) (hK : Kinds w) (h0 : T.op = 10) (h1 : T.name = ⟨#[]⟩) (h2 : T.tm = tm0) (hl : T.kids.length = 2) (hn : T.tm.nodes ≤ 20000) (hd : T.tm.depth ≤ 500) :
    Calls Tryd.prog 12 #[.pointer (some ⟨b, o, none⟩)] w fun e w' => e = .returned (.int .i64 0) ∧ Below w.heap.size w w' := by
  have hbd : Below w.heap.size w w.drew := below_drewN (Below.refl _ _) 1
  have HM := Lib.hid (more_trans B b o T w.drew hB (hT.later (hbd.mono hB) (Nat.le_refl _)) (hK.later hbd) h0 h1 h2)
  have HL := Lib.hid fun W (h : Below w.heap.size w W) => large_ok B b o T W (Nat.le_trans hB h.size) (hT.later (h.mono hB) (Nat.le_refl _)) hn hd
  obtain ⟨hb, c0, _⟩ := hT.own
  rw [h0] at c0
  obtain ⟨_, _, _, _, _, g5⟩ := hK.tra
  simp only [Nat.reduceMul, Nat.reduceAdd] at g5
  obtain ⟨a, cap, kb, ko, _, c16, _⟩ := hT.kid
  rw [hl] at c16
  have q0 : w.drew.cell? ⟨b, o, none⟩ = _ := c0
  have q5 : w.drew.cell? ⟨0, 65, none⟩ = _ := g5
  have q16 : w.drew.cell? ⟨b, o + 16, none⟩ = _ := c16
  have hb2 : b < w.heap.size := Nat.lt_of_lt_of_le hb hB
  have G5 := Lib.hid fun W (h : Below w.heap.size w W) => (h.cell (p := ⟨0, 65, none⟩) hK.pos).trans g5
  have C0 := Lib.hid fun W (h : Below w.heap.size w W) => (h.cell (p := ⟨b, o, none⟩) hb2).trans c0
  have C16 := Lib.hid fun W (h : Below w.heap.size w W) => (h.cell (p := ⟨b, o + 16, none⟩) hb2).trans c16
  have HBD := Lib.hid hbd
  clear hT hK h0 hl hbd h1 h2
  go_enter Tryd.func12, Tryd.ntmps12
  go_wp2_with fail
  go_region_held3 (fun W => W.cell? ⟨b, o, none⟩ = some (.int .i64 10) ∧ W.cell? ⟨0, 65, none⟩ = some (.int .i64 2) ∧ W.cell? ⟨b, o + 16, none⟩ = some (.slice a 2 cap))
    (refine ⟨?_, ?_, ?_⟩ <;> assumption)
    ((first
      | (go_at_call 19
         refine HM.out.mono ?_
         rintro e w1 ⟨rfl, hw1⟩
         have HB1 := Lib.hid (HBD.out.trans hw1)
         have p0 := C0.out w1 HB1.out
         have p5 := G5.out w1 HB1.out
         have p16 := C16.out w1 HB1.out)
      | fail))
  clear q0 q5 q16 p0 p5 p16 c0 c16 g5
  go_wp2_with fail
  refine (HL.out w1 HB1.out).mono ?_
  rintro e W ⟨rfl, hW⟩
  have HBW := Lib.hid (HB1.out.trans (hW.mono HB1.out.size))
  go_wp2_with fail
  go_ret
  exact ⟨rfl, HBW.out⟩

set_option maxRecDepth 100000 in
set_option maxHeartbeats 4000000 in
theorem node_assume (B b o : Nat) (T : Pf) (w : World) (hB : B ≤ w.heap.size) (hT : AtPf B w b o T) (hK : Kinds w) (h0 : T.op = 3) (h1 : T.name = ⟨#[]⟩)  (hl : T.kids.length = 0) (hn : T.tm.nodes ≤ 20000) (hd : T.tm.depth ≤ 500) :
    Calls Tryd.prog 12 #[.pointer (some ⟨b, o, none⟩)] w fun e w' => e = .returned (.int .i64 0) ∧ Below w.heap.size w w' := by
  have hbd : Below w.heap.size w w.drew := below_drewN (Below.refl _ _) 1
  have HM := Lib.hid (more_assume B b o T w.drew hB (hT.later (hbd.mono hB) (Nat.le_refl _)) (hK.later hbd) h0 h1)
  have HL := Lib.hid fun W (h : Below w.heap.size w W) => large_ok B b o T W (Nat.le_trans hB h.size) (hT.later (h.mono hB) (Nat.le_refl _)) hn hd
  obtain ⟨hb, c0, _⟩ := hT.own
  rw [h0] at c0
  obtain ⟨_, _, _, _, _, g5⟩ := hK.ass
  simp only [Nat.reduceMul, Nat.reduceAdd] at g5
  obtain ⟨a, cap, kb, ko, _, c16, _⟩ := hT.kid
  rw [hl] at c16
  have q0 : w.drew.cell? ⟨b, o, none⟩ = _ := c0
  have q5 : w.drew.cell? ⟨0, 23, none⟩ = _ := g5
  have q16 : w.drew.cell? ⟨b, o + 16, none⟩ = _ := c16
  have hb2 : b < w.heap.size := Nat.lt_of_lt_of_le hb hB
  have G5 := Lib.hid fun W (h : Below w.heap.size w W) => (h.cell (p := ⟨0, 23, none⟩) hK.pos).trans g5
  have C0 := Lib.hid fun W (h : Below w.heap.size w W) => (h.cell (p := ⟨b, o, none⟩) hb2).trans c0
  have C16 := Lib.hid fun W (h : Below w.heap.size w W) => (h.cell (p := ⟨b, o + 16, none⟩) hb2).trans c16
  have HBD := Lib.hid hbd
  clear hT hK h0 hl hbd h1
  go_enter Tryd.func12, Tryd.ntmps12
  go_wp2_with fail
  go_region_held3 (fun W => W.cell? ⟨b, o, none⟩ = some (.int .i64 3) ∧ W.cell? ⟨0, 23, none⟩ = some (.int .i64 0) ∧ W.cell? ⟨b, o + 16, none⟩ = some (.slice a 0 cap))
    (refine ⟨?_, ?_, ?_⟩ <;> assumption)
    ((first
      | (go_at_call 19
         refine HM.out.mono ?_
         rintro e w1 ⟨rfl, hw1⟩
         have HB1 := Lib.hid (HBD.out.trans hw1)
         have p0 := C0.out w1 HB1.out
         have p5 := G5.out w1 HB1.out
         have p16 := C16.out w1 HB1.out)
      | fail))
  clear q0 q5 q16 p0 p5 p16 c0 c16 g5
  go_wp2_with fail
  refine (HL.out w1 HB1.out).mono ?_
  rintro e W ⟨rfl, hW⟩
  have HBW := Lib.hid (HB1.out.trans (hW.mono HB1.out.size))
  go_wp2_with fail
  go_ret
  exact ⟨rfl, HBW.out⟩

set_option maxRecDepth 100000 in
set_option maxHeartbeats 4000000 in
theorem node_impI (B b o : Nat) (T : Pf) (w : World) (hB : B ≤ w.heap.size) (hT : AtPf B w b o T) (hK : Kinds w) (h0 : T.op = 4) (h1 : T.name = ⟨#[]⟩)  (hl : T.kids.length = 1) (hn : T.tm.nodes ≤ 20000) (hd : T.tm.depth ≤ 500) :
    Calls Tryd.prog 12 #[.pointer (some ⟨b, o, none⟩)] w fun e w' => e = .returned (.int .i64 0) ∧ Below w.heap.size w w' := by
  have hbd : Below w.heap.size w w.drew := below_drewN (Below.refl _ _) 1
  have HM := Lib.hid (more_impI B b o T w.drew hB (hT.later (hbd.mono hB) (Nat.le_refl _)) (hK.later hbd) h0 h1)
  have HL := Lib.hid fun W (h : Below w.heap.size w W) => large_ok B b o T W (Nat.le_trans hB h.size) (hT.later (h.mono hB) (Nat.le_refl _)) hn hd
  obtain ⟨hb, c0, _⟩ := hT.own
  rw [h0] at c0
  obtain ⟨_, _, _, _, _, g5⟩ := hK.imp
  simp only [Nat.reduceMul, Nat.reduceAdd] at g5
  obtain ⟨a, cap, kb, ko, _, c16, _⟩ := hT.kid
  rw [hl] at c16
  have q0 : w.drew.cell? ⟨b, o, none⟩ = _ := c0
  have q5 : w.drew.cell? ⟨0, 29, none⟩ = _ := g5
  have q16 : w.drew.cell? ⟨b, o + 16, none⟩ = _ := c16
  have hb2 : b < w.heap.size := Nat.lt_of_lt_of_le hb hB
  have G5 := Lib.hid fun W (h : Below w.heap.size w W) => (h.cell (p := ⟨0, 29, none⟩) hK.pos).trans g5
  have C0 := Lib.hid fun W (h : Below w.heap.size w W) => (h.cell (p := ⟨b, o, none⟩) hb2).trans c0
  have C16 := Lib.hid fun W (h : Below w.heap.size w W) => (h.cell (p := ⟨b, o + 16, none⟩) hb2).trans c16
  have HBD := Lib.hid hbd
  clear hT hK h0 hl hbd h1
  go_enter Tryd.func12, Tryd.ntmps12
  go_wp2_with fail
  go_region_held3 (fun W => W.cell? ⟨b, o, none⟩ = some (.int .i64 4) ∧ W.cell? ⟨0, 29, none⟩ = some (.int .i64 1) ∧ W.cell? ⟨b, o + 16, none⟩ = some (.slice a 1 cap))
    (refine ⟨?_, ?_, ?_⟩ <;> assumption)
    ((first
      | (go_at_call 19
         refine HM.out.mono ?_
         rintro e w1 ⟨rfl, hw1⟩
         have HB1 := Lib.hid (HBD.out.trans hw1)
         have p0 := C0.out w1 HB1.out
         have p5 := G5.out w1 HB1.out
         have p16 := C16.out w1 HB1.out)
      | fail))
  clear q0 q5 q16 p0 p5 p16 c0 c16 g5
  go_wp2_with fail
  refine (HL.out w1 HB1.out).mono ?_
  rintro e W ⟨rfl, hW⟩
  have HBW := Lib.hid (HB1.out.trans (hW.mono HB1.out.size))
  go_wp2_with fail
  go_ret
  exact ⟨rfl, HBW.out⟩

/-- A node of one of these kinds, as it should be. -/
def OkPf (p : Pf) : Prop :=
  p.tm.nodes ≤ 20000 ∧ p.tm.depth ≤ 500 ∧ ((p.op = 1 ∧ p.tm = tm0 ∧ p.kids.length = 0) ∨ (p.op = 9 ∧ p.name = ⟨#[]⟩ ∧ p.tm = tm0 ∧ p.kids.length = 1) ∨ (p.op = 10 ∧ p.name = ⟨#[]⟩ ∧ p.tm = tm0 ∧ p.kids.length = 2) ∨ (p.op = 3 ∧ p.name = ⟨#[]⟩ ∧ p.kids.length = 0) ∨ (p.op = 4 ∧ p.name = ⟨#[]⟩ ∧ p.kids.length = 1))
theorem node_good (B b o : Nat) (T : Pf) (w : World) (hB : B ≤ w.heap.size) (hT : AtPf B w b o T) (hK : Kinds w) (h : OkPf T) :
    Calls Tryd.prog 12 #[.pointer (some ⟨b, o, none⟩)] w fun e w' => e = .returned (.int .i64 0) ∧ Below w.heap.size w w' := by
  obtain ⟨hn, hd, ⟨h0, h2, hl⟩ | ⟨h0, h1, h2, hl⟩ | ⟨h0, h1, h2, hl⟩ | ⟨h0, h1, hl⟩ | ⟨h0, h1, hl⟩⟩ := h
  · exact node_axiom B b o T w hB hT hK h0 h2 hl hn hd
  · exact node_sym B b o T w hB hT hK h0 h1 h2 hl hn hd
  · exact node_trans B b o T w hB hT hK h0 h1 h2 hl hn hd
  · exact node_assume B b o T w hB hT hK h0 h1 hl hn hd
  · exact node_impI B b o T w hB hT hK h0 h1 hl hn hd
/-- All nodes of a proof are so. -/
def GoodPf (p : Pf) : Prop := ∀ u ∈ p.pre, OkPf u
theorem pmem_preL : ∀ (l : List Pf) (k : Nat) (h : k < l.length) (u : Pf), u ∈ l[k].pre → u ∈ Pf.preL l
  | x :: r, 0, _, u, hu => by simp only [Pf.preL]; exact List.mem_append_left _ hu
  | x :: r, k + 1, h, u, hu => by simp only [Pf.preL]; exact List.mem_append_right _ (pmem_preL r k (by simpa using h) u hu)
theorem GoodPf.kid (T : Pf) (k : Nat) (h : k < T.kids.length) (hT : GoodPf T) : GoodPf T.kids[k] := fun u hu => hT u (by
  rw [Pf.pre_kids]
  exact List.mem_cons_of_mem _ (pmem_preL T.kids k h u hu))
theorem GoodPf.node {T : Pf} (h : GoodPf T) : OkPf T := h T (by rw [Pf.pre_kids]; exact List.mem_cons_self)
theorem good_axiom : OkPf (.mk 1 nmA tm0 []) := ⟨by decide, by decide, .inl ⟨rfl, rfl, rfl⟩⟩
theorem good_chain : ∀ k, GoodPf (chain k)
  | 0 => fun u hu => by
    simp only [chain, Pf.pre, Pf.preL, List.mem_singleton] at hu
    rw [hu]; exact good_axiom
  | k + 1 => fun u hu => by
    simp only [chain, Pf.pre, Pf.preL, List.append_nil, List.mem_cons] at hu
    rcases hu with rfl | hu
    · exact ⟨by show Tm.nodes tm0 ≤ 20000; decide, by show Tm.depth tm0 ≤ 500; decide, .inr (.inl ⟨rfl, rfl, rfl, rfl⟩)⟩
    · exact good_chain k u hu
theorem good_bush : ∀ k, GoodPf (bush k)
  | 0 => fun u hu => by
    simp only [bush, Pf.pre, Pf.preL, List.mem_singleton] at hu
    rw [hu]; exact good_axiom
  | k + 1 => fun u hu => by
    simp only [bush, Pf.pre, Pf.preL, List.append_nil, List.mem_cons, List.mem_append] at hu
    rcases hu with rfl | hu | hu
    · exact ⟨by show Tm.nodes tm0 ≤ 20000; decide, by show Tm.depth tm0 ≤ 500; decide, .inr (.inr (.inl ⟨rfl, rfl, rfl, rfl⟩))⟩
    · exact good_bush k u hu
    · exact good_bush k u hu
end Go.Proofs.YtdffhnfjcbnioaaDoor
