/-
  The error of a node of a proof: of the kinds that the statement's proofs have there is none.
-/
import Derived.Test.YtdffhnfjcbnioaaDoorW2
namespace Go.Proofs.YtdffhnfjcbnioaaDoor
open Go.RowKit

/-- What the table of kinds says of one. -/
def KindAt (W : World) (k : Nat) (word : ByteArray) (n t i z : Bool) (kids : Int) : Prop :=
  W.cell? ⟨0, k * 6, none⟩ = some (.string word) ∧ W.cell? ⟨0, k * 6 + 1, none⟩ = some (.bool n) ∧ W.cell? ⟨0, k * 6 + 2, none⟩ = some (.bool t) ∧ W.cell? ⟨0, k * 6 + 3, none⟩ = some (.bool i) ∧ W.cell? ⟨0, k * 6 + 4, none⟩ = some (.bool z) ∧ W.cell? ⟨0, k * 6 + 5, none⟩ = some (.int .i64 kids)
/-- The kinds that the statement's proofs have. -/
structure Kinds (W : World) : Prop where
  pos : 0 < W.heap.size
  axi : KindAt W 1 ⟨#[97, 120, 105, 111, 109]⟩ true false false false 0
  ass : KindAt W 3 ⟨#[97, 115, 115, 117, 109, 101]⟩ false true false false 0
  imp : KindAt W 4 ⟨#[105, 109, 112, 73]⟩ false true false false 1
  sym : KindAt W 9 ⟨#[115, 121, 109]⟩ false false false false 1
  tra : KindAt W 10 ⟨#[116, 114, 97, 110, 115]⟩ false false false false 2

theorem KindAt.later {W W' : World} {k : Nat} {word : ByteArray} {n t i z : Bool} {kids : Int} {B : Nat} (h : KindAt W k word n t i z kids) (hB : 0 < B) (hb : Below B W W') : KindAt W' k word n t i z kids := by
  obtain ⟨g0, g1, g2, g3, g4, g5⟩ := h
  exact ⟨(hb.cell (p := ⟨0, k * 6, none⟩) hB).trans g0, (hb.cell (p := ⟨0, k * 6 + 1, none⟩) hB).trans g1, (hb.cell (p := ⟨0, k * 6 + 2, none⟩) hB).trans g2, (hb.cell (p := ⟨0, k * 6 + 3, none⟩) hB).trans g3, (hb.cell (p := ⟨0, k * 6 + 4, none⟩) hB).trans g4, (hb.cell (p := ⟨0, k * 6 + 5, none⟩) hB).trans g5⟩
theorem Kinds.later {W W' : World} (h : Kinds W) (hb : Below W.heap.size W W') : Kinds W' :=
  ⟨Nat.lt_of_lt_of_le h.pos hb.size, h.axi.later h.pos hb, h.ass.later h.pos hb, h.imp.later h.pos hb, h.sym.later h.pos hb, h.tra.later h.pos hb⟩

theorem AtTm.val {B : Nat} {W : World} {b o : Nat} {T : Tm} (h : AtTm B W b o T) : ∃ (sa : Option Addr) (sc : Nat) (ta : Option Addr) (tc : Nat) (ka : Option Addr) (kc : Nat), b < B ∧ W.cell? ⟨b, o, none⟩ = some (.int .i64 T.op) ∧ W.cell? ⟨b, o + 1, none⟩ = some (.string T.name) ∧ W.cell? ⟨b, o + 2, none⟩ = some (.int .i64 T.num) ∧
    W.cell? ⟨b, o + 3, none⟩ = some (.int .i64 T.ty.op) ∧ W.cell? ⟨b, o + 4, none⟩ = some (.string T.ty.name) ∧ W.cell? ⟨b, o + 5, none⟩ = some (.int .i64 T.ty.index) ∧ W.cell? ⟨b, o + 6, none⟩ = some (.slice sa T.ty.sort.length sc) ∧ W.cell? ⟨b, o + 7, none⟩ = some (.slice ta T.ty.args.length tc) ∧ W.cell? ⟨b, o + 8, none⟩ = some (.slice ka T.kids.length kc) ∧
    HasTm B W (.agg #[.int .i64 T.op, .string T.name, .int .i64 T.num, .int .i64 T.ty.op, .string T.ty.name, .int .i64 T.ty.index, .slice sa T.ty.sort.length sc, .slice ta T.ty.args.length tc, .slice ka T.kids.length kc]) T := by
  obtain ⟨_, _, op, num, nm, ty, kids, a, cap, kb, ko, hb, c0, c1, c2, ct, c8, hop, hnum, hnm, hl, hk, he⟩ := h
  obtain ⟨sa, sc, ta, tc, _, t0, t1, t2, t3, t4, tv⟩ := ct.val
  exact ⟨sa, sc, ta, tc, a, cap, hb, c0, c1, c2, t0, t1, t2, t3, t4, c8, _, ta, tc, a, cap, kb, ko, rfl, tv, hop, hnum, hnm, hl, hk, he⟩

/-- The zero term as a value. -/
theorem hasTm0 (B : Nat) (W : World) : HasTm B W (.agg #[.int .i64 0, .string ⟨#[]⟩, .int .i64 0, .int .i64 0, .string ⟨#[]⟩, .int .i64 0, .slice none 0 0, .slice none 0 0, .slice none 0 0]) tm0 :=
  ⟨.slice none 0 0, none, 0, none, 0, 0, 0, rfl, ⟨.slice none 0 0, none, 0, 0, 0, rfl, by decide, by decide, by decide, ⟨none, 0, 0, 0, rfl, by decide, fun h => absurd rfl h, fun i hi => by simp [tm0, ty0, Tm.ty, Ty.sort] at hi⟩, by decide, fun h => absurd rfl h, fun i hi => by simp [tm0, ty0, Tm.ty, Ty.args] at hi⟩,
    by decide, by decide, by decide, by decide, fun h => absurd rfl h, fun i hi => by simp [tm0, Tm.kids] at hi⟩

/-- Is the zero term one? -/
theorem tm0_self (B : Nat) (v : Value) (W : World) (hB : B ≤ W.heap.size) (h : HasTm B W v tm0) :
    Calls Tryd.prog 27 #[v, .agg #[.int .i64 0, .string ⟨#[]⟩, .int .i64 0, .int .i64 0, .string ⟨#[]⟩, .int .i64 0, .slice none 0 0, .slice none 0 0, .slice none 0 0]] W fun e w' => e = .returned (.bool true) ∧ Below W.heap.size W w' := by
  have := tequal_val B v _ tm0 tm0 W hB h (hasTm0 B W)
  rwa [Tm.cmp_self] at this

/-- What a node of a proof holds beside its kids. -/
theorem AtPf.own {B : Nat} {W : World} {b o : Nat} {T : Pf} (h : AtPf B W b o T) : b < B ∧ W.cell? ⟨b, o, none⟩ = some (.int .i64 T.op) ∧ W.cell? ⟨b, o + 1, none⟩ = some (.string T.name) ∧ AtTm B W b (o + 2) T.tm ∧
    W.cell? ⟨b, o + 11, none⟩ = some (.slice none 0 0) ∧ W.cell? ⟨b, o + 12, none⟩ = some (.slice none 0 0) ∧ W.cell? ⟨b, o + 13, none⟩ = some (.slice none 0 0) ∧ W.cell? ⟨b, o + 14, none⟩ = some (.slice none 0 0) ∧ W.cell? ⟨b, o + 15, none⟩ = some (.int .i64 0) := by
  obtain ⟨_, _, op, nm, tm, kids, a, cap, kb, ko, hb, c0, c1, ct, c11, c12, c13, c14, c15, c16, hop, hnm, hl, hk, he⟩ := h
  exact ⟨hb, c0, c1, ct, c11, c12, c13, c14, c15⟩

set_option maxRecDepth 100000 in
set_option maxHeartbeats 4000000 in
theorem more_axiom (B b o : Nat) (T : Pf) (w : World) (hB : B ≤ w.heap.size) (hT : AtPf B w b o T) (hK : Kinds w) (h0 : T.op = 1) (h2 : T.tm = tm0) :
    Calls Tryd.prog 19 #[.pointer (some ⟨b, o, none⟩)] w fun e w' => e = .returned (.bool false) ∧ Below w.heap.size w w' := by
  obtain ⟨_, c0, _⟩ := hT.own
  rw [h0] at c0
  obtain ⟨g0, g1, g2, g3, g4, g5⟩ := hK.axi
  simp only [Nat.reduceMul, Nat.reduceAdd] at g0 g1 g2 g3 g4 g5
  have hb1 : Below w.heap.size w (w.alloc (.cells #[.string ⟨#[97, 120, 105, 111, 109]⟩, .bool true, .bool false, .bool false, .bool false, .int .i64 0] 67)) := (Below.refl _ w).alloc (Nat.le_refl _) _
  have T1 := hT.later (hb1.mono hB) (Nat.le_refl _)
  obtain ⟨hb, _, d1, dt, d11, d12, d13, d14, d15⟩ := T1.own
  rw [h2] at dt
  obtain ⟨sa, sc, ta, tc, ka, kc, _, t0, t1, t2, t3, t4, t5, t6, t7, t8, tv⟩ := dt.val
  simp only [tm0, ty0, Tm.op, Tm.name, Tm.num, Tm.ty, Tm.kids, Ty.op, Ty.name, Ty.index, Ty.sort, Ty.args, List.length_nil] at t0 t1 t2 t3 t4 t5 t6 t7 t8 tv
  have hsz : B ≤ (w.alloc (.cells #[.string ⟨#[97, 120, 105, 111, 109]⟩, .bool true, .bool false, .bool false, .bool false, .int .i64 0] 67)).heap.size := Nat.le_trans hB hb1.size
  have HQ := Lib.hid (tm0_self B _ _ hsz tv)
  have HB1 := Lib.hid hb1
  have D11 := Lib.hid fun W (h : Below B (w.alloc (.cells #[.string ⟨#[97, 120, 105, 111, 109]⟩, .bool true, .bool false, .bool false, .bool false, .int .i64 0] 67)) W) => (h.cell (p := ⟨b, o + 11, none⟩) hb).trans d11
  have D12 := Lib.hid fun W (h : Below B (w.alloc (.cells #[.string ⟨#[97, 120, 105, 111, 109]⟩, .bool true, .bool false, .bool false, .bool false, .int .i64 0] 67)) W) => (h.cell (p := ⟨b, o + 12, none⟩) hb).trans d12
  have D13 := Lib.hid fun W (h : Below B (w.alloc (.cells #[.string ⟨#[97, 120, 105, 111, 109]⟩, .bool true, .bool false, .bool false, .bool false, .int .i64 0] 67)) W) => (h.cell (p := ⟨b, o + 13, none⟩) hb).trans d13
  have D14 := Lib.hid fun W (h : Below B (w.alloc (.cells #[.string ⟨#[97, 120, 105, 111, 109]⟩, .bool true, .bool false, .bool false, .bool false, .int .i64 0] 67)) W) => (h.cell (p := ⟨b, o + 14, none⟩) hb).trans d14
  have D15 := Lib.hid fun W (h : Below B (w.alloc (.cells #[.string ⟨#[97, 120, 105, 111, 109]⟩, .bool true, .bool false, .bool false, .bool false, .int .i64 0] 67)) W) => (h.cell (p := ⟨b, o + 15, none⟩) hb).trans d15
  have FB := Lib.hid (Go.heap_alloc_new w (.cells #[.string ⟨#[97, 120, 105, 111, 109]⟩, .bool true, .bool false, .bool false, .bool false, .int .i64 0] 67))
  have HSZ := Lib.hid hsz
  have hsz1 : w.heap.size < (w.alloc (.cells #[.string ⟨#[97, 120, 105, 111, 109]⟩, .bool true, .bool false, .bool false, .bool false, .int .i64 0] 67)).heap.size := by simp
  have HS1 := Lib.hid hsz1
  clear hT hK h0 h2 hb1 T1 dt tv hsz hsz1 d11 d12 d13 d14 d15
  go_enter Tryd.func19, Tryd.ntmps19
  go_wp2_with fail
  refine HQ.out.mono ?_
  rintro e W ⟨rfl, hW⟩
  have hWB := hW.mono HSZ.out
  have e11 := D11.out W hWB
  have e12 := D12.out W hWB
  have e13 := D13.out W hWB
  have e14 := D14.out W hWB
  have e15 := D15.out W hWB
  have hfb := (hW.block w.heap.size HS1.out).trans FB.out
  have f3 : W.cell? ⟨w.heap.size, 3, none⟩ = some (.bool false) := by rw [Lib.cell_of_heap hfb]; rfl
  have f4 : W.cell? ⟨w.heap.size, 4, none⟩ = some (.bool false) := by rw [Lib.cell_of_heap hfb]; rfl
  have HBW := Lib.hid (HB1.out.trans (hW.mono HB1.out.size))
  clear hfb hWB hW HQ g0 g1 g2 g3 g4 g5 t0 t1 t2 t3 t4 t5 t6 t7 t8 d1 c0
  go_wp2_with fail
  go_ret
  exact ⟨rfl, HBW.out⟩

set_option maxRecDepth 100000 in
set_option maxHeartbeats 4000000 in
theorem more_sym (B b o : Nat) (T : Pf) (w : World) (hB : B ≤ w.heap.size) (hT : AtPf B w b o T) (hK : Kinds w) (h0 : T.op = 9) (h1 : T.name = ⟨#[]⟩) (h2 : T.tm = tm0) :
    Calls Tryd.prog 19 #[.pointer (some ⟨b, o, none⟩)] w fun e w' => e = .returned (.bool false) ∧ Below w.heap.size w w' := by
  obtain ⟨_, c0, _⟩ := hT.own
  rw [h0] at c0
  obtain ⟨g0, g1, g2, g3, g4, g5⟩ := hK.sym
  simp only [Nat.reduceMul, Nat.reduceAdd] at g0 g1 g2 g3 g4 g5
  have hb1 : Below w.heap.size w (w.alloc (.cells #[.string ⟨#[115, 121, 109]⟩, .bool false, .bool false, .bool false, .bool false, .int .i64 1] 67)) := (Below.refl _ w).alloc (Nat.le_refl _) _
  have T1 := hT.later (hb1.mono hB) (Nat.le_refl _)
  obtain ⟨hb, _, d1, dt, d11, d12, d13, d14, d15⟩ := T1.own
  rw [h1] at d1
  rw [h2] at dt
  obtain ⟨sa, sc, ta, tc, ka, kc, _, t0, t1, t2, t3, t4, t5, t6, t7, t8, tv⟩ := dt.val
  simp only [tm0, ty0, Tm.op, Tm.name, Tm.num, Tm.ty, Tm.kids, Ty.op, Ty.name, Ty.index, Ty.sort, Ty.args, List.length_nil] at t0 t1 t2 t3 t4 t5 t6 t7 t8 tv
  have hsz : B ≤ (w.alloc (.cells #[.string ⟨#[115, 121, 109]⟩, .bool false, .bool false, .bool false, .bool false, .int .i64 1] 67)).heap.size := Nat.le_trans hB hb1.size
  have HQ := Lib.hid (tm0_self B _ _ hsz tv)
  have HB1 := Lib.hid hb1
  have D11 := Lib.hid fun W (h : Below B (w.alloc (.cells #[.string ⟨#[115, 121, 109]⟩, .bool false, .bool false, .bool false, .bool false, .int .i64 1] 67)) W) => (h.cell (p := ⟨b, o + 11, none⟩) hb).trans d11
  have D12 := Lib.hid fun W (h : Below B (w.alloc (.cells #[.string ⟨#[115, 121, 109]⟩, .bool false, .bool false, .bool false, .bool false, .int .i64 1] 67)) W) => (h.cell (p := ⟨b, o + 12, none⟩) hb).trans d12
  have D13 := Lib.hid fun W (h : Below B (w.alloc (.cells #[.string ⟨#[115, 121, 109]⟩, .bool false, .bool false, .bool false, .bool false, .int .i64 1] 67)) W) => (h.cell (p := ⟨b, o + 13, none⟩) hb).trans d13
  have D14 := Lib.hid fun W (h : Below B (w.alloc (.cells #[.string ⟨#[115, 121, 109]⟩, .bool false, .bool false, .bool false, .bool false, .int .i64 1] 67)) W) => (h.cell (p := ⟨b, o + 14, none⟩) hb).trans d14
  have D15 := Lib.hid fun W (h : Below B (w.alloc (.cells #[.string ⟨#[115, 121, 109]⟩, .bool false, .bool false, .bool false, .bool false, .int .i64 1] 67)) W) => (h.cell (p := ⟨b, o + 15, none⟩) hb).trans d15
  have FB := Lib.hid (Go.heap_alloc_new w (.cells #[.string ⟨#[115, 121, 109]⟩, .bool false, .bool false, .bool false, .bool false, .int .i64 1] 67))
  have HSZ := Lib.hid hsz
  have hsz1 : w.heap.size < (w.alloc (.cells #[.string ⟨#[115, 121, 109]⟩, .bool false, .bool false, .bool false, .bool false, .int .i64 1] 67)).heap.size := by simp
  have HS1 := Lib.hid hsz1
  clear hT hK h0 h1 h2 hb1 T1 dt tv hsz hsz1 d11 d12 d13 d14 d15
  go_enter Tryd.func19, Tryd.ntmps19
  go_wp2_with fail
  refine HQ.out.mono ?_
  rintro e W ⟨rfl, hW⟩
  have hWB := hW.mono HSZ.out
  have e11 := D11.out W hWB
  have e12 := D12.out W hWB
  have e13 := D13.out W hWB
  have e14 := D14.out W hWB
  have e15 := D15.out W hWB
  have hfb := (hW.block w.heap.size HS1.out).trans FB.out
  have f3 : W.cell? ⟨w.heap.size, 3, none⟩ = some (.bool false) := by rw [Lib.cell_of_heap hfb]; rfl
  have f4 : W.cell? ⟨w.heap.size, 4, none⟩ = some (.bool false) := by rw [Lib.cell_of_heap hfb]; rfl
  have HBW := Lib.hid (HB1.out.trans (hW.mono HB1.out.size))
  clear hfb hWB hW HQ g0 g1 g2 g3 g4 g5 t0 t1 t2 t3 t4 t5 t6 t7 t8 d1 c0
  go_wp2_with fail
  go_ret
  exact ⟨rfl, HBW.out⟩

set_option maxRecDepth 100000 in
set_option maxHeartbeats 4000000 in
theorem more_trans (B b o : Nat) (T : Pf) (w : World) (hB : B ≤ w.heap.size) (hT : AtPf B w b o T) (hK : Kinds w) (h0 : T.op = 10) (h1 : T.name = ⟨#[]⟩) (h2 : T.tm = tm0) :
    Calls Tryd.prog 19 #[.pointer (some ⟨b, o, none⟩)] w fun e w' => e = .returned (.bool false) ∧ Below w.heap.size w w' := by
  obtain ⟨_, c0, _⟩ := hT.own
  rw [h0] at c0
  obtain ⟨g0, g1, g2, g3, g4, g5⟩ := hK.tra
  simp only [Nat.reduceMul, Nat.reduceAdd] at g0 g1 g2 g3 g4 g5
  have hb1 : Below w.heap.size w (w.alloc (.cells #[.string ⟨#[116, 114, 97, 110, 115]⟩, .bool false, .bool false, .bool false, .bool false, .int .i64 2] 67)) := (Below.refl _ w).alloc (Nat.le_refl _) _
  have T1 := hT.later (hb1.mono hB) (Nat.le_refl _)
  obtain ⟨hb, _, d1, dt, d11, d12, d13, d14, d15⟩ := T1.own
  rw [h1] at d1
  rw [h2] at dt
  obtain ⟨sa, sc, ta, tc, ka, kc, _, t0, t1, t2, t3, t4, t5, t6, t7, t8, tv⟩ := dt.val
  simp only [tm0, ty0, Tm.op, Tm.name, Tm.num, Tm.ty, Tm.kids, Ty.op, Ty.name, Ty.index, Ty.sort, Ty.args, List.length_nil] at t0 t1 t2 t3 t4 t5 t6 t7 t8 tv
  have hsz : B ≤ (w.alloc (.cells #[.string ⟨#[116, 114, 97, 110, 115]⟩, .bool false, .bool false, .bool false, .bool false, .int .i64 2] 67)).heap.size := Nat.le_trans hB hb1.size
  have HQ := Lib.hid (tm0_self B _ _ hsz tv)
  have HB1 := Lib.hid hb1
  have D11 := Lib.hid fun W (h : Below B (w.alloc (.cells #[.string ⟨#[116, 114, 97, 110, 115]⟩, .bool false, .bool false, .bool false, .bool false, .int .i64 2] 67)) W) => (h.cell (p := ⟨b, o + 11, none⟩) hb).trans d11
  have D12 := Lib.hid fun W (h : Below B (w.alloc (.cells #[.string ⟨#[116, 114, 97, 110, 115]⟩, .bool false, .bool false, .bool false, .bool false, .int .i64 2] 67)) W) => (h.cell (p := ⟨b, o + 12, none⟩) hb).trans d12
  have D13 := Lib.hid fun W (h : Below B (w.alloc (.cells #[.string ⟨#[116, 114, 97, 110, 115]⟩, .bool false, .bool false, .bool false, .bool false, .int .i64 2] 67)) W) => (h.cell (p := ⟨b, o + 13, none⟩) hb).trans d13
  have D14 := Lib.hid fun W (h : Below B (w.alloc (.cells #[.string ⟨#[116, 114, 97, 110, 115]⟩, .bool false, .bool false, .bool false, .bool false, .int .i64 2] 67)) W) => (h.cell (p := ⟨b, o + 14, none⟩) hb).trans d14
  have D15 := Lib.hid fun W (h : Below B (w.alloc (.cells #[.string ⟨#[116, 114, 97, 110, 115]⟩, .bool false, .bool false, .bool false, .bool false, .int .i64 2] 67)) W) => (h.cell (p := ⟨b, o + 15, none⟩) hb).trans d15
  have FB := Lib.hid (Go.heap_alloc_new w (.cells #[.string ⟨#[116, 114, 97, 110, 115]⟩, .bool false, .bool false, .bool false, .bool false, .int .i64 2] 67))
  have HSZ := Lib.hid hsz
  have hsz1 : w.heap.size < (w.alloc (.cells #[.string ⟨#[116, 114, 97, 110, 115]⟩, .bool false, .bool false, .bool false, .bool false, .int .i64 2] 67)).heap.size := by simp
  have HS1 := Lib.hid hsz1
  clear hT hK h0 h1 h2 hb1 T1 dt tv hsz hsz1 d11 d12 d13 d14 d15
  go_enter Tryd.func19, Tryd.ntmps19
  go_wp2_with fail
  refine HQ.out.mono ?_
  rintro e W ⟨rfl, hW⟩
  have hWB := hW.mono HSZ.out
  have e11 := D11.out W hWB
  have e12 := D12.out W hWB
  have e13 := D13.out W hWB
  have e14 := D14.out W hWB
  have e15 := D15.out W hWB
  have hfb := (hW.block w.heap.size HS1.out).trans FB.out
  have f3 : W.cell? ⟨w.heap.size, 3, none⟩ = some (.bool false) := by rw [Lib.cell_of_heap hfb]; rfl
  have f4 : W.cell? ⟨w.heap.size, 4, none⟩ = some (.bool false) := by rw [Lib.cell_of_heap hfb]; rfl
  have HBW := Lib.hid (HB1.out.trans (hW.mono HB1.out.size))
  clear hfb hWB hW HQ g0 g1 g2 g3 g4 g5 t0 t1 t2 t3 t4 t5 t6 t7 t8 d1 c0
  go_wp2_with fail
  go_ret
  exact ⟨rfl, HBW.out⟩

end Go.Proofs.YtdffhnfjcbnioaaDoor
