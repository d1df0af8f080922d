/-
  TypesOrder at any three types in memory returns true, and what lay there lies as it lay.
-/
import Derived.Test.YthopoidcglfdjaaDoorX23
namespace Go.Proofs.YthopoidcglfdjaaDoor
open Go.RowKit

theorem HasTy.at_ {B B' : Nat} {w w' : World} {b o : Nat} {c0 c1 c2 c3 c4 : Value} {T : Ty} (h : HasTy B w (.agg #[c0, c1, c2, c3, c4]) T) (hb : Below B w w') (hB : B ≤ B') (hlt : b < B')
    (k0 : w'.cell? ⟨b, o, none⟩ = some c0) (k1 : w'.cell? ⟨b, o + 1, none⟩ = some c1) (k2 : w'.cell? ⟨b, o + 2, none⟩ = some c2) (k3 : w'.cell? ⟨b, o + 3, none⟩ = some c3) (k4 : w'.cell? ⟨b, o + 4, none⟩ = some c4) : AtTy B' w' b o T := by
  have h' := h.later hb hB
  obtain ⟨vs, a, cap, ab, ao, hv, h1, h2, h3, h4, h5, h6, h7⟩ := h'
  obtain ⟨op, nm, ix, srt, args⟩ := T
  simp only [Value.agg.injEq, Array.mk.injEq, List.cons.injEq, and_true] at hv
  obtain ⟨e0, e1, e2, e3, e4⟩ := hv
  subst e0 e1 e2 e3 e4
  exact .mk b o op ix nm srt args _ a cap ab ao hlt k0 k1 k2 k3 k4 h1 h2 h3 h4 h5 h6 h7

theorem HasTy.form {B : Nat} {w : World} {v : Value} {T : Ty} (h : HasTy B w v T) : ∃ (o i : Int) (n : ByteArray) (sa aa : Option Addr) (sl sc al ac : Nat), v = .agg #[.int .i64 o, .string n, .int .i64 i, .slice sa sl sc, .slice aa al ac] := by
  obtain ⟨vs, a, cap, ab, ao, rfl, h1, h2, h3, ⟨sa, sc, sb, so, rfl, _⟩, _⟩ := h
  exact ⟨_, _, _, _, _, _, _, _, _, rfl⟩

/-- Three types in a row. -/
theorem three_tys {B B' g : Nat} {w w' : World} {T1 T2 T3 : Ty} {o1 i1 : Int} {n1 : ByteArray} {sa1 aa1 : Option Addr} {sl1 sc1 al1 ac1 : Nat} {o2 i2 : Int} {n2 : ByteArray} {sa2 aa2 : Option Addr} {sl2 sc2 al2 ac2 : Nat} {o3 i3 : Int} {n3 : ByteArray} {sa3 aa3 : Option Addr} {sl3 sc3 al3 ac3 : Nat} (h1 : HasTy B w (.agg #[.int .i64 o1, .string n1, .int .i64 i1, .slice sa1 sl1 sc1, .slice aa1 al1 ac1]) T1) (h2 : HasTy B w (.agg #[.int .i64 o2, .string n2, .int .i64 i2, .slice sa2 sl2 sc2, .slice aa2 al2 ac2]) T2) (h3 : HasTy B w (.agg #[.int .i64 o3, .string n3, .int .i64 i3, .slice sa3 sl3 sc3, .slice aa3 al3 ac3]) T3)
    (hb : Below B w w') (hB : B ≤ B') (hlt : g < B') (hg : w'.heap[g]? = some (.cells #[.int .i64 o1, .string n1, .int .i64 i1, .slice sa1 sl1 sc1, .slice aa1 al1 ac1, .int .i64 o2, .string n2, .int .i64 i2, .slice sa2 sl2 sc2, .slice aa2 al2 ac2, .int .i64 o3, .string n3, .int .i64 i3, .slice sa3 sl3 sc3, .slice aa3 al3 ac3] 25 (0, 0))) : HasTys B' w' (.slice (some ⟨g, 0, none⟩) 3 3) [T1, T2, T3] := by
  have c := fun j x (hx : (#[.int .i64 o1, .string n1, .int .i64 i1, .slice sa1 sl1 sc1, .slice aa1 al1 ac1, .int .i64 o2, .string n2, .int .i64 i2, .slice sa2 sl2 sc2, .slice aa2 al2 ac2, .int .i64 o3, .string n3, .int .i64 i3, .slice sa3 sl3 sc3, .slice aa3 al3 ac3] : Array Value)[j]? = some x) => (Lib.cell_of_heap hg j).trans hx
  refine ⟨_, 3, g, 0, rfl, by simp, fun _ => ⟨rfl, hlt⟩, fun i hi => ?_⟩
  have hi3 : i < 3 := hi
  match i with
  | 0 => exact h1.at_ hb hB hlt (c 0 _ rfl) (c 1 _ rfl) (c 2 _ rfl) (c 3 _ rfl) (c 4 _ rfl)
  | 1 => exact h2.at_ hb hB hlt (c 5 _ rfl) (c 6 _ rfl) (c 7 _ rfl) (c 8 _ rfl) (c 9 _ rfl)
  | 2 => exact h3.at_ hb hB hlt (c 10 _ rfl) (c 11 _ rfl) (c 12 _ rfl) (c 13 _ rfl) (c 14 _ rfl)

set_option maxRecDepth 100000 in
set_option maxHeartbeats 16000000 in
theorem order_walk (B : Nat) (T1 T2 T3 : Ty) (o1 i1 : Int) (n1 : ByteArray) (sa1 aa1 : Option Addr) (sl1 sc1 al1 ac1 : Nat) (o2 i2 : Int) (n2 : ByteArray) (sa2 aa2 : Option Addr) (sl2 sc2 al2 ac2 : Nat) (o3 i3 : Int) (n3 : ByteArray) (sa3 aa3 : Option Addr) (sl3 sc3 al3 ac3 : Nat) (w : World) (hB : B ≤ w.heap.size) (h1 : HasTy B w (.agg #[.int .i64 o1, .string n1, .int .i64 i1, .slice sa1 sl1 sc1, .slice aa1 al1 ac1]) T1) (h2 : HasTy B w (.agg #[.int .i64 o2, .string n2, .int .i64 i2, .slice sa2 sl2 sc2, .slice aa2 al2 ac2]) T2) (h3 : HasTy B w (.agg #[.int .i64 o3, .string n3, .int .i64 i3, .slice sa3 sl3 sc3, .slice aa3 al3 ac3]) T3) :
    Calls Tryd.prog 3 #[.agg #[.int .i64 o1, .string n1, .int .i64 i1, .slice sa1 sl1 sc1, .slice aa1 al1 ac1], .agg #[.int .i64 o2, .string n2, .int .i64 i2, .slice sa2 sl2 sc2, .slice aa2 al2 ac2], .agg #[.int .i64 o3, .string n3, .int .i64 i3, .slice sa3 sl3 sc3, .slice aa3 al3 ac3]] w fun e w' => e = .returned (.bool true) ∧ Below w.heap.size w w' := by
  have q1 := Ty.cmp_cmp T1
  have q2 := Ty.cmp_cmp T2
  obtain ⟨x, hx⟩ : ∃ x, Ty.cmp T1 T2 = x := ⟨_, rfl⟩
  obtain ⟨y, hy⟩ : ∃ y, Ty.cmp T2 T3 = y := ⟨_, rfl⟩
  obtain ⟨z, hz⟩ : ∃ z, Ty.cmp T1 T3 = z := ⟨_, rfl⟩
  have hyx : Ty.cmp T2 T1 = -x := by rw [q1.anti T2, hx]
  have rx : x = -1 ∨ x = 0 ∨ x = 1 := by rw [← hx]; exact q1.range T2
  have ry : -1 ≤ y ∧ y ≤ 1 := by have := q2.range T3; omega
  have rz : -1 ≤ z ∧ z ≤ 1 := by have := q1.range T3; omega
  have tr : x ≤ 0 → y ≤ 0 → z ≤ 0 := by rw [← hx, ← hy, ← hz]; exact q1.trans T2 T3
  clear q1 q2
  have hb : Below w.heap.size w (((w.alloc (.cells #[.int .i64 o1, .string n1, .int .i64 i1, .slice sa1 sl1 sc1, .slice aa1 al1 ac1] 25)).alloc (.cells #[.int .i64 o2, .string n2, .int .i64 i2, .slice sa2 sl2 sc2, .slice aa2 al2 ac2] 25)).alloc (.cells #[.int .i64 o3, .string n3, .int .i64 i3, .slice sa3 sl3 sc3, .slice aa3 al3 ac3] 25)) := (((Below.refl _ w).alloc (Nat.le_refl _) _).alloc (by simp) _).alloc (by simp; omega) _
  have hs : (((w.alloc (.cells #[.int .i64 o1, .string n1, .int .i64 i1, .slice sa1 sl1 sc1, .slice aa1 al1 ac1] 25)).alloc (.cells #[.int .i64 o2, .string n2, .int .i64 i2, .slice sa2 sl2 sc2, .slice aa2 al2 ac2] 25)).alloc (.cells #[.int .i64 o3, .string n3, .int .i64 i3, .slice sa3 sl3 sc3, .slice aa3 al3 ac3] 25)).heap.size = w.heap.size + 1 + 1 + 1 := by simp
  have x3 : Box (w.heap.size) (.int .i64 o1) (.string n1) (.int .i64 i1) (.slice sa1 sl1 sc1) (.slice aa1 al1 ac1) (((w.alloc (.cells #[.int .i64 o1, .string n1, .int .i64 i1, .slice sa1 sl1 sc1, .slice aa1 al1 ac1] 25)).alloc (.cells #[.int .i64 o2, .string n2, .int .i64 i2, .slice sa2 sl2 sc2, .slice aa2 al2 ac2] 25)).alloc (.cells #[.int .i64 o3, .string n3, .int .i64 i3, .slice sa3 sl3 sc3, .slice aa3 al3 ac3] 25)) := by
    unfold Box; rw [Below.heap_alloc _ _ _ (by simp; omega), Below.heap_alloc _ _ _ (by simp)]; exact Go.heap_alloc_new w _
  have y3 : Box (w.heap.size + 1) (.int .i64 o2) (.string n2) (.int .i64 i2) (.slice sa2 sl2 sc2) (.slice aa2 al2 ac2) (((w.alloc (.cells #[.int .i64 o1, .string n1, .int .i64 i1, .slice sa1 sl1 sc1, .slice aa1 al1 ac1] 25)).alloc (.cells #[.int .i64 o2, .string n2, .int .i64 i2, .slice sa2 sl2 sc2, .slice aa2 al2 ac2] 25)).alloc (.cells #[.int .i64 o3, .string n3, .int .i64 i3, .slice sa3 sl3 sc3, .slice aa3 al3 ac3] 25)) := by
    unfold Box; rw [Below.heap_alloc _ _ _ (by simp)]; exact Go.heap_alloc2_new w _ _
  have z3 : Box (w.heap.size + 1 + 1) (.int .i64 o3) (.string n3) (.int .i64 i3) (.slice sa3 sl3 sc3) (.slice aa3 al3 ac3) (((w.alloc (.cells #[.int .i64 o1, .string n1, .int .i64 i1, .slice sa1 sl1 sc1, .slice aa1 al1 ac1] 25)).alloc (.cells #[.int .i64 o2, .string n2, .int .i64 i2, .slice sa2 sl2 sc2, .slice aa2 al2 ac2] 25)).alloc (.cells #[.int .i64 o3, .string n3, .int .i64 i3, .slice sa3 sl3 sc3, .slice aa3 al3 ac3] 25)) := by
    have := Go.heap_alloc_new ((w.alloc (.cells #[.int .i64 o1, .string n1, .int .i64 i1, .slice sa1 sl1 sc1, .slice aa1 al1 ac1] 25)).alloc (.cells #[.int .i64 o2, .string n2, .int .i64 i2, .slice sa2 sl2 sc2, .slice aa2 al2 ac2] 25)) (.cells #[.int .i64 o3, .string n3, .int .i64 i3, .slice sa3 sl3 sc3, .slice aa3 al3 ac3] 25)
    unfold Box; simpa using this
  have HB := Lib.hid hb
  have X3 := Lib.hid x3
  have Y3 := Lib.hid y3
  have Z3 := Lib.hid z3
  have T1h := Lib.hid fun W (h : Below w.heap.size w W) => h1.later (h.mono hB) (Nat.le_trans hB h.size)
  have T2h := Lib.hid fun W (h : Below w.heap.size w W) => h2.later (h.mono hB) (Nat.le_trans hB h.size)
  have T3h := Lib.hid fun W (h : Below w.heap.size w W) => h3.later (h.mono hB) (Nat.le_trans hB h.size)
  have RX := Lib.hid rx
  have HXY := Lib.hid (And.intro hx (And.intro hy (And.intro hz hyx)))
  clear hb x3 y3 z3 h1 h2 h3 hx hy hz hyx rx
  go_enter Tryd.func3, Tryd.ntmps3
  go_wp2_with fail
  generalize (((w.alloc (.cells #[.int .i64 o1, .string n1, .int .i64 i1, .slice sa1 sl1 sc1, .slice aa1 al1 ac1] 25)).alloc (.cells #[.int .i64 o2, .string n2, .int .i64 i2, .slice sa2 sl2 sc2, .slice aa2 al2 ac2] 25)).alloc (.cells #[.int .i64 o3, .string n3, .int .i64 i3, .slice sa3 sl3 sc3, .slice aa3 al3 ac3] 25)) = w3 at *
  have b4 : Below w3.heap.size w3 (w3.alloc (.cells #[.int .i64 o1, .string n1, .int .i64 i1, .slice sa1 sl1 sc1, .slice aa1 al1 ac1, .int .i64 o2, .string n2, .int .i64 i2, .slice sa2 sl2 sc2, .slice aa2 al2 ac2, .int .i64 o3, .string n3, .int .i64 i3, .slice sa3 sl3 sc3, .slice aa3 al3 ac3] 25)) := (Below.refl _ w3).alloc (Nat.le_refl _) _
  have g4 := Go.heap_alloc_new w3 (.cells #[.int .i64 o1, .string n1, .int .i64 i1, .slice sa1 sl1 sc1, .slice aa1 al1 ac1, .int .i64 o2, .string n2, .int .i64 i2, .slice sa2 sl2 sc2, .slice aa2 al2 ac2, .int .i64 o3, .string n3, .int .i64 i3, .slice sa3 sl3 sc3, .slice aa3 al3 ac3] 25)
  have s4 : (w3.alloc (.cells #[.int .i64 o1, .string n1, .int .i64 i1, .slice sa1 sl1 sc1, .slice aa1 al1 ac1, .int .i64 o2, .string n2, .int .i64 i2, .slice sa2 sl2 sc2, .slice aa2 al2 ac2, .int .i64 o3, .string n3, .int .i64 i3, .slice sa3 sl3 sc3, .slice aa3 al3 ac3] 25)).heap.size = w3.heap.size + 1 := by simp
  have HF := Lib.hid (few_any (w3.heap.size + 1) (.slice (some ⟨w3.heap.size, 0, none⟩) 3 3) [T1, T2, T3] 300 (w3.alloc (.cells #[.int .i64 o1, .string n1, .int .i64 i1, .slice sa1 sl1 sc1, .slice aa1 al1 ac1, .int .i64 o2, .string n2, .int .i64 i2, .slice sa2 sl2 sc2, .slice aa2 al2 ac2, .int .i64 o3, .string n3, .int .i64 i3, .slice sa3 sl3 sc3, .slice aa3 al3 ac3] 25)) (by omega)
    (three_tys (T1h.out w3 HB.out) (T2h.out w3 HB.out) (T3h.out w3 HB.out) b4 (by omega) (by omega) g4))
  have b34 : Below w.heap.size w (w3.alloc (.cells #[.int .i64 o1, .string n1, .int .i64 i1, .slice sa1 sl1 sc1, .slice aa1 al1 ac1, .int .i64 o2, .string n2, .int .i64 i2, .slice sa2 sl2 sc2, .slice aa2 al2 ac2, .int .i64 o3, .string n3, .int .i64 i3, .slice sa3 sl3 sc3, .slice aa3 al3 ac3] 25)) := HB.out.trans (b4.mono (by omega))
  have X4 := Lib.hid (X3.out.below b4 (by omega))
  have Y4 := Lib.hid (Y3.out.below b4 (by omega))
  have Z4 := Lib.hid (Z3.out.below b4 (by omega))
  rw [hs] at HF
  have B4 := Lib.hid b34
  clear b4 g4 b34
  generalize w3.alloc (.cells #[.int .i64 o1, .string n1, .int .i64 i1, .slice sa1 sl1 sc1, .slice aa1 al1 ac1, .int .i64 o2, .string n2, .int .i64 i2, .slice sa2 sl2 sc2, .slice aa2 al2 ac2, .int .i64 o3, .string n3, .int .i64 i3, .slice sa3 sl3 sc3, .slice aa3 al3 ac3] 25) = w4 at *
  refine HF.out.mono ?_
  rintro e w5 ⟨fb, rfl, b5⟩
  have z5 := b5.size
  have X5 := Lib.hid (X4.out.below b5 (by omega))
  have Y5 := Lib.hid (Y4.out.below b5 (by omega))
  have Z5 := Lib.hid (Z4.out.below b5 (by omega))
  have B5 := Lib.hid (B4.out.trans (b5.mono (by omega)))
  clear b5 HF
  cases fb
  · go_wp2_with fail
    refine (awake_ok w5).mono ?_
    rintro e w6 ⟨rfl, b6⟩
    go_wp2_with fail
    go_ret
    exact ⟨rfl, B5.out.trans (b6.mono (by omega))⟩
  go_wp2_with fail
  have X5d := Lib.hid (show Box (w.heap.size) _ _ _ _ _ w5.drew from X5.out)
  have Y5d := Lib.hid (show Box (w.heap.size + 1) _ _ _ _ _ w5.drew from Y5.out)
  have Z5d := Lib.hid (show Box (w.heap.size + 1 + 1) _ _ _ _ _ w5.drew from Z5.out)
  have B5d := Lib.hid (show Below w.heap.size w w5.drew from B5.out.trans (below_drewN (Below.refl _ _) 1))
  have hs5 : w5.drew.heap.size = w5.heap.size := rfl
  have p10 := X5d.out.c0
  have p11 := X5d.out.c1
  have p12 := X5d.out.c2
  have p13 := X5d.out.c3
  have p14 := X5d.out.c4
  have p20 := Y5d.out.c0
  have p21 := Y5d.out.c1
  have p22 := Y5d.out.c2
  have p23 := Y5d.out.c3
  have p24 := Y5d.out.c4
  have p30 := Z5d.out.c0
  have p31 := Z5d.out.c1
  have p32 := Z5d.out.c2
  have p33 := Z5d.out.c3
  have p34 := Z5d.out.c4
  have C1 := compare_val w5.drew.heap.size _ _ T1 T2 w5.drew (Nat.le_refl _) (T1h.out _ B5d.out) (T2h.out _ B5d.out)
  rw [HXY.out.1] at C1
  go_region_held3 (fun W => W.cell? ⟨w.heap.size, 0, none⟩ = some (.int .i64 o1) ∧ W.cell? ⟨w.heap.size, 1, none⟩ = some (.string n1) ∧ W.cell? ⟨w.heap.size, 2, none⟩ = some (.int .i64 i1) ∧ W.cell? ⟨w.heap.size, 3, none⟩ = some (.slice sa1 sl1 sc1) ∧ W.cell? ⟨w.heap.size, 4, none⟩ = some (.slice aa1 al1 ac1) ∧ W.cell? ⟨w.heap.size + 1, 0, none⟩ = some (.int .i64 o2) ∧ W.cell? ⟨w.heap.size + 1, 1, none⟩ = some (.string n2) ∧ W.cell? ⟨w.heap.size + 1, 2, none⟩ = some (.int .i64 i2) ∧ W.cell? ⟨w.heap.size + 1, 3, none⟩ = some (.slice sa2 sl2 sc2) ∧ W.cell? ⟨w.heap.size + 1, 4, none⟩ = some (.slice aa2 al2 ac2) ∧ W.cell? ⟨w.heap.size + 1 + 1, 0, none⟩ = some (.int .i64 o3) ∧ W.cell? ⟨w.heap.size + 1 + 1, 1, none⟩ = some (.string n3) ∧ W.cell? ⟨w.heap.size + 1 + 1, 2, none⟩ = some (.int .i64 i3) ∧ W.cell? ⟨w.heap.size + 1 + 1, 3, none⟩ = some (.slice sa3 sl3 sc3) ∧ W.cell? ⟨w.heap.size + 1 + 1, 4, none⟩ = some (.slice aa3 al3 ac3))
    (refine ⟨?_, ?_, ?_, ?_, ?_, ?_, ?_, ?_, ?_, ?_, ?_, ?_, ?_, ?_, ?_⟩ <;> assumption)
    ((first
      | (have _g : w7 = w7 := rfl
         go_at_call 6
         refine C3.mono ?_
         rintro e w8 ⟨rfl, b8⟩
         have z8 := b8.size
         have X8 := Lib.hid (X7.out.below b8 (by omega))
         have Y8 := Lib.hid (Y7.out.below b8 (by omega))
         have Z8 := Lib.hid (Z7.out.below b8 (by omega))
         have B8 := Lib.hid (B7.out.trans (b8.mono (by omega)))
         have s10 := X8.out.c0
         have s11 := X8.out.c1
         have s12 := X8.out.c2
         have s13 := X8.out.c3
         have s14 := X8.out.c4
         have s20 := Y8.out.c0
         have s21 := Y8.out.c1
         have s22 := Y8.out.c2
         have s23 := Y8.out.c3
         have s24 := Y8.out.c4
         have s30 := Z8.out.c0
         have s31 := Z8.out.c1
         have s32 := Z8.out.c2
         have s33 := Z8.out.c3
         have s34 := Z8.out.c4
         skip)
      | (have _g : w6 = w6 := rfl
         go_at_call 6
         refine C2.mono ?_
         rintro e w7 ⟨rfl, b7⟩
         have z7 := b7.size
         have X7 := Lib.hid (X6.out.below b7 (by omega))
         have Y7 := Lib.hid (Y6.out.below b7 (by omega))
         have Z7 := Lib.hid (Z6.out.below b7 (by omega))
         have B7 := Lib.hid (B6.out.trans (b7.mono (by omega)))
         have r10 := X7.out.c0
         have r11 := X7.out.c1
         have r12 := X7.out.c2
         have r13 := X7.out.c3
         have r14 := X7.out.c4
         have r20 := Y7.out.c0
         have r21 := Y7.out.c1
         have r22 := Y7.out.c2
         have r23 := Y7.out.c3
         have r24 := Y7.out.c4
         have r30 := Z7.out.c0
         have r31 := Z7.out.c1
         have r32 := Z7.out.c2
         have r33 := Z7.out.c3
         have r34 := Z7.out.c4
         have C3 := compare_val w7.heap.size _ _ T1 T3 w7 (Nat.le_refl _) (T1h.out _ B7.out) (T3h.out _ B7.out)
         rw [HXY.out.2.2.1] at C3)
      | (go_at_call 6
         refine C1.mono ?_
         rintro e w6 ⟨rfl, b6⟩
         have z6 := b6.size
         have X6 := Lib.hid (X5d.out.below b6 (by omega))
         have Y6 := Lib.hid (Y5d.out.below b6 (by omega))
         have Z6 := Lib.hid (Z5d.out.below b6 (by omega))
         have B6 := Lib.hid (B5d.out.trans (b6.mono (by omega)))
         have q10 := X6.out.c0
         have q11 := X6.out.c1
         have q12 := X6.out.c2
         have q13 := X6.out.c3
         have q14 := X6.out.c4
         have q20 := Y6.out.c0
         have q21 := Y6.out.c1
         have q22 := Y6.out.c2
         have q23 := Y6.out.c3
         have q24 := Y6.out.c4
         have q30 := Z6.out.c0
         have q31 := Z6.out.c1
         have q32 := Z6.out.c2
         have q33 := Z6.out.c3
         have q34 := Z6.out.c4
         have C2 := compare_val w6.heap.size _ _ T2 T3 w6 (Nat.le_refl _) (T2h.out _ B6.out) (T3h.out _ B6.out)
         rw [HXY.out.2.1] at C2)))
  clear C1 C2 C3
  clear p10 p11 p12 p13 p14 p20 p21 p22 p23 p24 p30 p31 p32 p33 p34 q10 q11 q12 q13 q14 q20 q21 q22 q23 q24 q30 q31 q32 q33 q34 r10 r11 r12 r13 r14 r20 r21 r22 r23 r24 r30 r31 r32 r33 r34 b6 b7
  have C4 := compare_val w8.heap.size _ _ T2 T1 w8 (Nat.le_refl _) (T2h.out _ B8.out) (T1h.out _ B8.out)
  clear s30 s31 s32 s33 s34
  rcases RX.out with rfl | rfl | rfl
  · by_cases hy0 : y ≤ 0
    · have hz0 : ¬ (0 : Int) < z := by have := tr (by omega) hy0; omega
      have C4' : Calls Tryd.prog 6 #[.agg #[.int .i64 o2, .string n2, .int .i64 i2, .slice sa2 sl2 sc2, .slice aa2 al2 ac2], .agg #[.int .i64 o1, .string n1, .int .i64 i1, .slice sa1 sl1 sc1, .slice aa1 al1 ac1]] w8 fun e w' => e = .returned (.int .i64 (1)) ∧ Below w8.heap.size w8 w' := by
        have h := C4
        rw [HXY.out.2.2.2] at h
        exact h
      have EV : ∀ W, Below w.heap.size w W → Calls Tryd.prog 7 #[.agg #[.int .i64 o1, .string n1, .int .i64 i1, .slice sa1 sl1 sc1, .slice aa1 al1 ac1], .agg #[.int .i64 o2, .string n2, .int .i64 i2, .slice sa2 sl2 sc2, .slice aa2 al2 ac2]] W fun e w' => e = .returned (.bool false) ∧ Below W.heap.size W w' := fun W h => by
        have h' := equal_val W.heap.size _ _ T1 T2 W (Nat.le_refl _) (T1h.out _ h) (T2h.out _ h)
        rw [HXY.out.1] at h'
        exact h'
      have SV : ∀ W, Below w.heap.size w W → Calls Tryd.prog 8 #[.agg #[.int .i64 o1, .string n1, .int .i64 i1, .slice sa1 sl1 sc1, .slice aa1 al1 ac1], .agg #[.int .i64 o2, .string n2, .int .i64 i2, .slice sa2 sl2 sc2, .slice aa2 al2 ac2]] W fun e w' => e = .returned (.bool false) ∧ Below W.heap.size W w' := fun W h => by
        have h' := same_any (T1.sz + 1) W.heap.size _ _ T1 T2 W (by omega) (Nat.le_refl _) (T1h.out _ h) (T2h.out _ h)
        rw [HXY.out.1] at h'
        exact h'
      have EVh := Lib.hid EV
      have SVh := Lib.hid SV
      clear C4 EV SV
      go_wp2_with fail
      refine C4'.mono ?_
      rintro e w9 ⟨rfl, b9⟩
      have z9 := b9.size
      have X9 := Lib.hid (X8.out.below b9 (by omega))
      have Y9 := Lib.hid (Y8.out.below b9 (by omega))
      have B9 := Lib.hid (B8.out.trans (b9.mono (by omega)))
      clear C4' b9
      go_wp2_with fail
      have X9d := Lib.hid (show Box (w.heap.size) _ _ _ _ _ w9.drew from X9.out)
      have Y9d := Lib.hid (show Box (w.heap.size + 1) _ _ _ _ _ w9.drew from Y9.out)
      have B9d := Lib.hid (show Below w.heap.size w w9.drew from B9.out.trans (below_drewN (Below.refl _ _) 1))
      have hs9 : w9.drew.heap.size = w9.heap.size := rfl
      have t10 := X9d.out.c0
      have t11 := X9d.out.c1
      have t12 := X9d.out.c2
      have t13 := X9d.out.c3
      have t14 := X9d.out.c4
      have t20 := Y9d.out.c0
      have t21 := Y9d.out.c1
      have t22 := Y9d.out.c2
      have t23 := Y9d.out.c3
      have t24 := Y9d.out.c4
      have E1 := EVh.out w9.drew B9d.out
      go_region_held3 (fun W => W.cell? ⟨w.heap.size, 0, none⟩ = some (.int .i64 o1) ∧ W.cell? ⟨w.heap.size, 1, none⟩ = some (.string n1) ∧ W.cell? ⟨w.heap.size, 2, none⟩ = some (.int .i64 i1) ∧ W.cell? ⟨w.heap.size, 3, none⟩ = some (.slice sa1 sl1 sc1) ∧ W.cell? ⟨w.heap.size, 4, none⟩ = some (.slice aa1 al1 ac1) ∧ W.cell? ⟨w.heap.size + 1, 0, none⟩ = some (.int .i64 o2) ∧ W.cell? ⟨w.heap.size + 1, 1, none⟩ = some (.string n2) ∧ W.cell? ⟨w.heap.size + 1, 2, none⟩ = some (.int .i64 i2) ∧ W.cell? ⟨w.heap.size + 1, 3, none⟩ = some (.slice sa2 sl2 sc2) ∧ W.cell? ⟨w.heap.size + 1, 4, none⟩ = some (.slice aa2 al2 ac2))
        (refine ⟨?_, ?_, ?_, ?_, ?_, ?_, ?_, ?_, ?_, ?_⟩ <;> assumption)
        ((first
          | (have _g : w12 = w12 := rfl
             go_at_call 5
             refine (awake_ok w12).mono ?_
             rintro e w13 ⟨rfl, b13⟩
             have z13 := b13.size
             have X13 := Lib.hid (X12.out.below b13 (by omega))
             have Y13 := Lib.hid (Y12.out.below b13 (by omega))
             have B13 := Lib.hid (B12.out.trans (b13.mono (by omega)))
             have f10 := X13.out.c0
             have f11 := X13.out.c1
             have f12 := X13.out.c2
             have f13 := X13.out.c3
             have f14 := X13.out.c4
             have f20 := Y13.out.c0
             have f21 := Y13.out.c1
             have f22 := Y13.out.c2
             have f23 := Y13.out.c3
             have f24 := Y13.out.c4
             skip)
          | (have _g : w11 = w11 := rfl
             go_at_call 8
             refine (SVh.out w11 B11.out).mono ?_
             rintro e w12 ⟨rfl, b12⟩
             have z12 := b12.size
             have X12 := Lib.hid (X11.out.below b12 (by omega))
             have Y12 := Lib.hid (Y11.out.below b12 (by omega))
             have B12 := Lib.hid (B11.out.trans (b12.mono (by omega)))
             have g10 := X12.out.c0
             have g11 := X12.out.c1
             have g12 := X12.out.c2
             have g13 := X12.out.c3
             have g14 := X12.out.c4
             have g20 := Y12.out.c0
             have g21 := Y12.out.c1
             have g22 := Y12.out.c2
             have g23 := Y12.out.c3
             have g24 := Y12.out.c4
             skip)
          | (have _g : w10 = w10 := rfl
             go_at_call 7
             refine (EVh.out w10 B10.out).mono ?_
             rintro e w11 ⟨rfl, b11⟩
             have z11 := b11.size
             have X11 := Lib.hid (X10.out.below b11 (by omega))
             have Y11 := Lib.hid (Y10.out.below b11 (by omega))
             have B11 := Lib.hid (B10.out.trans (b11.mono (by omega)))
             have h10 := X11.out.c0
             have h11 := X11.out.c1
             have h12 := X11.out.c2
             have h13 := X11.out.c3
             have h14 := X11.out.c4
             have h20 := Y11.out.c0
             have h21 := Y11.out.c1
             have h22 := Y11.out.c2
             have h23 := Y11.out.c3
             have h24 := Y11.out.c4
             skip)
          | (go_at_call 7
             refine E1.mono ?_
             rintro e w10 ⟨rfl, b10⟩
             have z10 := b10.size
             have X10 := Lib.hid (X9d.out.below b10 (by omega))
             have Y10 := Lib.hid (Y9d.out.below b10 (by omega))
             have B10 := Lib.hid (B9d.out.trans (b10.mono (by omega)))
             have j10 := X10.out.c0
             have j11 := X10.out.c1
             have j12 := X10.out.c2
             have j13 := X10.out.c3
             have j14 := X10.out.c4
             have j20 := Y10.out.c0
             have j21 := Y10.out.c1
             have j22 := Y10.out.c2
             have j23 := Y10.out.c3
             have j24 := Y10.out.c4
             skip)))
      go_wp2_with fail
      go_ret
      exact ⟨rfl, B13.out⟩
    · have C4' : Calls Tryd.prog 6 #[.agg #[.int .i64 o2, .string n2, .int .i64 i2, .slice sa2 sl2 sc2, .slice aa2 al2 ac2], .agg #[.int .i64 o1, .string n1, .int .i64 i1, .slice sa1 sl1 sc1, .slice aa1 al1 ac1]] w8 fun e w' => e = .returned (.int .i64 (1)) ∧ Below w8.heap.size w8 w' := by
        have h := C4
        rw [HXY.out.2.2.2] at h
        exact h
      have EV : ∀ W, Below w.heap.size w W → Calls Tryd.prog 7 #[.agg #[.int .i64 o1, .string n1, .int .i64 i1, .slice sa1 sl1 sc1, .slice aa1 al1 ac1], .agg #[.int .i64 o2, .string n2, .int .i64 i2, .slice sa2 sl2 sc2, .slice aa2 al2 ac2]] W fun e w' => e = .returned (.bool false) ∧ Below W.heap.size W w' := fun W h => by
        have h' := equal_val W.heap.size _ _ T1 T2 W (Nat.le_refl _) (T1h.out _ h) (T2h.out _ h)
        rw [HXY.out.1] at h'
        exact h'
      have SV : ∀ W, Below w.heap.size w W → Calls Tryd.prog 8 #[.agg #[.int .i64 o1, .string n1, .int .i64 i1, .slice sa1 sl1 sc1, .slice aa1 al1 ac1], .agg #[.int .i64 o2, .string n2, .int .i64 i2, .slice sa2 sl2 sc2, .slice aa2 al2 ac2]] W fun e w' => e = .returned (.bool false) ∧ Below W.heap.size W w' := fun W h => by
        have h' := same_any (T1.sz + 1) W.heap.size _ _ T1 T2 W (by omega) (Nat.le_refl _) (T1h.out _ h) (T2h.out _ h)
        rw [HXY.out.1] at h'
        exact h'
      have EVh := Lib.hid EV
      have SVh := Lib.hid SV
      clear C4 EV SV
      go_wp2_with fail
      refine C4'.mono ?_
      rintro e w9 ⟨rfl, b9⟩
      have z9 := b9.size
      have X9 := Lib.hid (X8.out.below b9 (by omega))
      have Y9 := Lib.hid (Y8.out.below b9 (by omega))
      have B9 := Lib.hid (B8.out.trans (b9.mono (by omega)))
      clear C4' b9
      go_wp2_with fail
      have X9d := Lib.hid (show Box (w.heap.size) _ _ _ _ _ w9.drew from X9.out)
      have Y9d := Lib.hid (show Box (w.heap.size + 1) _ _ _ _ _ w9.drew from Y9.out)
      have B9d := Lib.hid (show Below w.heap.size w w9.drew from B9.out.trans (below_drewN (Below.refl _ _) 1))
      have hs9 : w9.drew.heap.size = w9.heap.size := rfl
      have t10 := X9d.out.c0
      have t11 := X9d.out.c1
      have t12 := X9d.out.c2
      have t13 := X9d.out.c3
      have t14 := X9d.out.c4
      have t20 := Y9d.out.c0
      have t21 := Y9d.out.c1
      have t22 := Y9d.out.c2
      have t23 := Y9d.out.c3
      have t24 := Y9d.out.c4
      have E1 := EVh.out w9.drew B9d.out
      go_region_held3 (fun W => W.cell? ⟨w.heap.size, 0, none⟩ = some (.int .i64 o1) ∧ W.cell? ⟨w.heap.size, 1, none⟩ = some (.string n1) ∧ W.cell? ⟨w.heap.size, 2, none⟩ = some (.int .i64 i1) ∧ W.cell? ⟨w.heap.size, 3, none⟩ = some (.slice sa1 sl1 sc1) ∧ W.cell? ⟨w.heap.size, 4, none⟩ = some (.slice aa1 al1 ac1) ∧ W.cell? ⟨w.heap.size + 1, 0, none⟩ = some (.int .i64 o2) ∧ W.cell? ⟨w.heap.size + 1, 1, none⟩ = some (.string n2) ∧ W.cell? ⟨w.heap.size + 1, 2, none⟩ = some (.int .i64 i2) ∧ W.cell? ⟨w.heap.size + 1, 3, none⟩ = some (.slice sa2 sl2 sc2) ∧ W.cell? ⟨w.heap.size + 1, 4, none⟩ = some (.slice aa2 al2 ac2))
        (refine ⟨?_, ?_, ?_, ?_, ?_, ?_, ?_, ?_, ?_, ?_⟩ <;> assumption)
        ((first
          | (have _g : w12 = w12 := rfl
             go_at_call 5
             refine (awake_ok w12).mono ?_
             rintro e w13 ⟨rfl, b13⟩
             have z13 := b13.size
             have X13 := Lib.hid (X12.out.below b13 (by omega))
             have Y13 := Lib.hid (Y12.out.below b13 (by omega))
             have B13 := Lib.hid (B12.out.trans (b13.mono (by omega)))
             have f10 := X13.out.c0
             have f11 := X13.out.c1
             have f12 := X13.out.c2
             have f13 := X13.out.c3
             have f14 := X13.out.c4
             have f20 := Y13.out.c0
             have f21 := Y13.out.c1
             have f22 := Y13.out.c2
             have f23 := Y13.out.c3
             have f24 := Y13.out.c4
             skip)
          | (have _g : w11 = w11 := rfl
             go_at_call 8
             refine (SVh.out w11 B11.out).mono ?_
             rintro e w12 ⟨rfl, b12⟩
             have z12 := b12.size
             have X12 := Lib.hid (X11.out.below b12 (by omega))
             have Y12 := Lib.hid (Y11.out.below b12 (by omega))
             have B12 := Lib.hid (B11.out.trans (b12.mono (by omega)))
             have g10 := X12.out.c0
             have g11 := X12.out.c1
             have g12 := X12.out.c2
             have g13 := X12.out.c3
             have g14 := X12.out.c4
             have g20 := Y12.out.c0
             have g21 := Y12.out.c1
             have g22 := Y12.out.c2
             have g23 := Y12.out.c3
             have g24 := Y12.out.c4
             skip)
          | (have _g : w10 = w10 := rfl
             go_at_call 7
             refine (EVh.out w10 B10.out).mono ?_
             rintro e w11 ⟨rfl, b11⟩
             have z11 := b11.size
             have X11 := Lib.hid (X10.out.below b11 (by omega))
             have Y11 := Lib.hid (Y10.out.below b11 (by omega))
             have B11 := Lib.hid (B10.out.trans (b11.mono (by omega)))
             have h10 := X11.out.c0
             have h11 := X11.out.c1
             have h12 := X11.out.c2
             have h13 := X11.out.c3
             have h14 := X11.out.c4
             have h20 := Y11.out.c0
             have h21 := Y11.out.c1
             have h22 := Y11.out.c2
             have h23 := Y11.out.c3
             have h24 := Y11.out.c4
             skip)
          | (go_at_call 7
             refine E1.mono ?_
             rintro e w10 ⟨rfl, b10⟩
             have z10 := b10.size
             have X10 := Lib.hid (X9d.out.below b10 (by omega))
             have Y10 := Lib.hid (Y9d.out.below b10 (by omega))
             have B10 := Lib.hid (B9d.out.trans (b10.mono (by omega)))
             have j10 := X10.out.c0
             have j11 := X10.out.c1
             have j12 := X10.out.c2
             have j13 := X10.out.c3
             have j14 := X10.out.c4
             have j20 := Y10.out.c0
             have j21 := Y10.out.c1
             have j22 := Y10.out.c2
             have j23 := Y10.out.c3
             have j24 := Y10.out.c4
             skip)))
      go_wp2_with fail
      go_ret
      exact ⟨rfl, B13.out⟩
  · by_cases hy0 : y ≤ 0
    · have hz0 : ¬ (0 : Int) < z := by have := tr (by omega) hy0; omega
      have C4' : Calls Tryd.prog 6 #[.agg #[.int .i64 o2, .string n2, .int .i64 i2, .slice sa2 sl2 sc2, .slice aa2 al2 ac2], .agg #[.int .i64 o1, .string n1, .int .i64 i1, .slice sa1 sl1 sc1, .slice aa1 al1 ac1]] w8 fun e w' => e = .returned (.int .i64 (0)) ∧ Below w8.heap.size w8 w' := by
        have h := C4
        rw [HXY.out.2.2.2] at h
        exact h
      have EV : ∀ W, Below w.heap.size w W → Calls Tryd.prog 7 #[.agg #[.int .i64 o1, .string n1, .int .i64 i1, .slice sa1 sl1 sc1, .slice aa1 al1 ac1], .agg #[.int .i64 o2, .string n2, .int .i64 i2, .slice sa2 sl2 sc2, .slice aa2 al2 ac2]] W fun e w' => e = .returned (.bool true) ∧ Below W.heap.size W w' := fun W h => by
        have h' := equal_val W.heap.size _ _ T1 T2 W (Nat.le_refl _) (T1h.out _ h) (T2h.out _ h)
        rw [HXY.out.1] at h'
        exact h'
      have SV : ∀ W, Below w.heap.size w W → Calls Tryd.prog 8 #[.agg #[.int .i64 o1, .string n1, .int .i64 i1, .slice sa1 sl1 sc1, .slice aa1 al1 ac1], .agg #[.int .i64 o2, .string n2, .int .i64 i2, .slice sa2 sl2 sc2, .slice aa2 al2 ac2]] W fun e w' => e = .returned (.bool true) ∧ Below W.heap.size W w' := fun W h => by
        have h' := same_any (T1.sz + 1) W.heap.size _ _ T1 T2 W (by omega) (Nat.le_refl _) (T1h.out _ h) (T2h.out _ h)
        rw [HXY.out.1] at h'
        exact h'
      have EVh := Lib.hid EV
      have SVh := Lib.hid SV
      clear C4 EV SV
      go_wp2_with fail
      refine C4'.mono ?_
      rintro e w9 ⟨rfl, b9⟩
      have z9 := b9.size
      have X9 := Lib.hid (X8.out.below b9 (by omega))
      have Y9 := Lib.hid (Y8.out.below b9 (by omega))
      have B9 := Lib.hid (B8.out.trans (b9.mono (by omega)))
      clear C4' b9
      go_wp2_with fail
      have X9d := Lib.hid (show Box (w.heap.size) _ _ _ _ _ w9.drew from X9.out)
      have Y9d := Lib.hid (show Box (w.heap.size + 1) _ _ _ _ _ w9.drew from Y9.out)
      have B9d := Lib.hid (show Below w.heap.size w w9.drew from B9.out.trans (below_drewN (Below.refl _ _) 1))
      have hs9 : w9.drew.heap.size = w9.heap.size := rfl
      have t10 := X9d.out.c0
      have t11 := X9d.out.c1
      have t12 := X9d.out.c2
      have t13 := X9d.out.c3
      have t14 := X9d.out.c4
      have t20 := Y9d.out.c0
      have t21 := Y9d.out.c1
      have t22 := Y9d.out.c2
      have t23 := Y9d.out.c3
      have t24 := Y9d.out.c4
      have E1 := EVh.out w9.drew B9d.out
      go_region_held3 (fun W => W.cell? ⟨w.heap.size, 0, none⟩ = some (.int .i64 o1) ∧ W.cell? ⟨w.heap.size, 1, none⟩ = some (.string n1) ∧ W.cell? ⟨w.heap.size, 2, none⟩ = some (.int .i64 i1) ∧ W.cell? ⟨w.heap.size, 3, none⟩ = some (.slice sa1 sl1 sc1) ∧ W.cell? ⟨w.heap.size, 4, none⟩ = some (.slice aa1 al1 ac1) ∧ W.cell? ⟨w.heap.size + 1, 0, none⟩ = some (.int .i64 o2) ∧ W.cell? ⟨w.heap.size + 1, 1, none⟩ = some (.string n2) ∧ W.cell? ⟨w.heap.size + 1, 2, none⟩ = some (.int .i64 i2) ∧ W.cell? ⟨w.heap.size + 1, 3, none⟩ = some (.slice sa2 sl2 sc2) ∧ W.cell? ⟨w.heap.size + 1, 4, none⟩ = some (.slice aa2 al2 ac2))
        (refine ⟨?_, ?_, ?_, ?_, ?_, ?_, ?_, ?_, ?_, ?_⟩ <;> assumption)
        ((first
          | (have _g : w12 = w12 := rfl
             go_at_call 5
             refine (awake_ok w12).mono ?_
             rintro e w13 ⟨rfl, b13⟩
             have z13 := b13.size
             have X13 := Lib.hid (X12.out.below b13 (by omega))
             have Y13 := Lib.hid (Y12.out.below b13 (by omega))
             have B13 := Lib.hid (B12.out.trans (b13.mono (by omega)))
             have f10 := X13.out.c0
             have f11 := X13.out.c1
             have f12 := X13.out.c2
             have f13 := X13.out.c3
             have f14 := X13.out.c4
             have f20 := Y13.out.c0
             have f21 := Y13.out.c1
             have f22 := Y13.out.c2
             have f23 := Y13.out.c3
             have f24 := Y13.out.c4
             skip)
          | (have _g : w11 = w11 := rfl
             go_at_call 8
             refine (SVh.out w11 B11.out).mono ?_
             rintro e w12 ⟨rfl, b12⟩
             have z12 := b12.size
             have X12 := Lib.hid (X11.out.below b12 (by omega))
             have Y12 := Lib.hid (Y11.out.below b12 (by omega))
             have B12 := Lib.hid (B11.out.trans (b12.mono (by omega)))
             have g10 := X12.out.c0
             have g11 := X12.out.c1
             have g12 := X12.out.c2
             have g13 := X12.out.c3
             have g14 := X12.out.c4
             have g20 := Y12.out.c0
             have g21 := Y12.out.c1
             have g22 := Y12.out.c2
             have g23 := Y12.out.c3
             have g24 := Y12.out.c4
             skip)
          | (have _g : w10 = w10 := rfl
             go_at_call 7
             refine (EVh.out w10 B10.out).mono ?_
             rintro e w11 ⟨rfl, b11⟩
             have z11 := b11.size
             have X11 := Lib.hid (X10.out.below b11 (by omega))
             have Y11 := Lib.hid (Y10.out.below b11 (by omega))
             have B11 := Lib.hid (B10.out.trans (b11.mono (by omega)))
             have h10 := X11.out.c0
             have h11 := X11.out.c1
             have h12 := X11.out.c2
             have h13 := X11.out.c3
             have h14 := X11.out.c4
             have h20 := Y11.out.c0
             have h21 := Y11.out.c1
             have h22 := Y11.out.c2
             have h23 := Y11.out.c3
             have h24 := Y11.out.c4
             skip)
          | (go_at_call 7
             refine E1.mono ?_
             rintro e w10 ⟨rfl, b10⟩
             have z10 := b10.size
             have X10 := Lib.hid (X9d.out.below b10 (by omega))
             have Y10 := Lib.hid (Y9d.out.below b10 (by omega))
             have B10 := Lib.hid (B9d.out.trans (b10.mono (by omega)))
             have j10 := X10.out.c0
             have j11 := X10.out.c1
             have j12 := X10.out.c2
             have j13 := X10.out.c3
             have j14 := X10.out.c4
             have j20 := Y10.out.c0
             have j21 := Y10.out.c1
             have j22 := Y10.out.c2
             have j23 := Y10.out.c3
             have j24 := Y10.out.c4
             skip)))
      go_wp2_with fail
      go_ret
      exact ⟨rfl, B13.out⟩
    · have C4' : Calls Tryd.prog 6 #[.agg #[.int .i64 o2, .string n2, .int .i64 i2, .slice sa2 sl2 sc2, .slice aa2 al2 ac2], .agg #[.int .i64 o1, .string n1, .int .i64 i1, .slice sa1 sl1 sc1, .slice aa1 al1 ac1]] w8 fun e w' => e = .returned (.int .i64 (0)) ∧ Below w8.heap.size w8 w' := by
        have h := C4
        rw [HXY.out.2.2.2] at h
        exact h
      have EV : ∀ W, Below w.heap.size w W → Calls Tryd.prog 7 #[.agg #[.int .i64 o1, .string n1, .int .i64 i1, .slice sa1 sl1 sc1, .slice aa1 al1 ac1], .agg #[.int .i64 o2, .string n2, .int .i64 i2, .slice sa2 sl2 sc2, .slice aa2 al2 ac2]] W fun e w' => e = .returned (.bool true) ∧ Below W.heap.size W w' := fun W h => by
        have h' := equal_val W.heap.size _ _ T1 T2 W (Nat.le_refl _) (T1h.out _ h) (T2h.out _ h)
        rw [HXY.out.1] at h'
        exact h'
      have SV : ∀ W, Below w.heap.size w W → Calls Tryd.prog 8 #[.agg #[.int .i64 o1, .string n1, .int .i64 i1, .slice sa1 sl1 sc1, .slice aa1 al1 ac1], .agg #[.int .i64 o2, .string n2, .int .i64 i2, .slice sa2 sl2 sc2, .slice aa2 al2 ac2]] W fun e w' => e = .returned (.bool true) ∧ Below W.heap.size W w' := fun W h => by
        have h' := same_any (T1.sz + 1) W.heap.size _ _ T1 T2 W (by omega) (Nat.le_refl _) (T1h.out _ h) (T2h.out _ h)
        rw [HXY.out.1] at h'
        exact h'
      have EVh := Lib.hid EV
      have SVh := Lib.hid SV
      clear C4 EV SV
      go_wp2_with fail
      refine C4'.mono ?_
      rintro e w9 ⟨rfl, b9⟩
      have z9 := b9.size
      have X9 := Lib.hid (X8.out.below b9 (by omega))
      have Y9 := Lib.hid (Y8.out.below b9 (by omega))
      have B9 := Lib.hid (B8.out.trans (b9.mono (by omega)))
      clear C4' b9
      go_wp2_with fail
      have X9d := Lib.hid (show Box (w.heap.size) _ _ _ _ _ w9.drew from X9.out)
      have Y9d := Lib.hid (show Box (w.heap.size + 1) _ _ _ _ _ w9.drew from Y9.out)
      have B9d := Lib.hid (show Below w.heap.size w w9.drew from B9.out.trans (below_drewN (Below.refl _ _) 1))
      have hs9 : w9.drew.heap.size = w9.heap.size := rfl
      have t10 := X9d.out.c0
      have t11 := X9d.out.c1
      have t12 := X9d.out.c2
      have t13 := X9d.out.c3
      have t14 := X9d.out.c4
      have t20 := Y9d.out.c0
      have t21 := Y9d.out.c1
      have t22 := Y9d.out.c2
      have t23 := Y9d.out.c3
      have t24 := Y9d.out.c4
      have E1 := EVh.out w9.drew B9d.out
      go_region_held3 (fun W => W.cell? ⟨w.heap.size, 0, none⟩ = some (.int .i64 o1) ∧ W.cell? ⟨w.heap.size, 1, none⟩ = some (.string n1) ∧ W.cell? ⟨w.heap.size, 2, none⟩ = some (.int .i64 i1) ∧ W.cell? ⟨w.heap.size, 3, none⟩ = some (.slice sa1 sl1 sc1) ∧ W.cell? ⟨w.heap.size, 4, none⟩ = some (.slice aa1 al1 ac1) ∧ W.cell? ⟨w.heap.size + 1, 0, none⟩ = some (.int .i64 o2) ∧ W.cell? ⟨w.heap.size + 1, 1, none⟩ = some (.string n2) ∧ W.cell? ⟨w.heap.size + 1, 2, none⟩ = some (.int .i64 i2) ∧ W.cell? ⟨w.heap.size + 1, 3, none⟩ = some (.slice sa2 sl2 sc2) ∧ W.cell? ⟨w.heap.size + 1, 4, none⟩ = some (.slice aa2 al2 ac2))
        (refine ⟨?_, ?_, ?_, ?_, ?_, ?_, ?_, ?_, ?_, ?_⟩ <;> assumption)
        ((first
          | (have _g : w12 = w12 := rfl
             go_at_call 5
             refine (awake_ok w12).mono ?_
             rintro e w13 ⟨rfl, b13⟩
             have z13 := b13.size
             have X13 := Lib.hid (X12.out.below b13 (by omega))
             have Y13 := Lib.hid (Y12.out.below b13 (by omega))
             have B13 := Lib.hid (B12.out.trans (b13.mono (by omega)))
             have f10 := X13.out.c0
             have f11 := X13.out.c1
             have f12 := X13.out.c2
             have f13 := X13.out.c3
             have f14 := X13.out.c4
             have f20 := Y13.out.c0
             have f21 := Y13.out.c1
             have f22 := Y13.out.c2
             have f23 := Y13.out.c3
             have f24 := Y13.out.c4
             skip)
          | (have _g : w11 = w11 := rfl
             go_at_call 8
             refine (SVh.out w11 B11.out).mono ?_
             rintro e w12 ⟨rfl, b12⟩
             have z12 := b12.size
             have X12 := Lib.hid (X11.out.below b12 (by omega))
             have Y12 := Lib.hid (Y11.out.below b12 (by omega))
             have B12 := Lib.hid (B11.out.trans (b12.mono (by omega)))
             have g10 := X12.out.c0
             have g11 := X12.out.c1
             have g12 := X12.out.c2
             have g13 := X12.out.c3
             have g14 := X12.out.c4
             have g20 := Y12.out.c0
             have g21 := Y12.out.c1
             have g22 := Y12.out.c2
             have g23 := Y12.out.c3
             have g24 := Y12.out.c4
             skip)
          | (have _g : w10 = w10 := rfl
             go_at_call 7
             refine (EVh.out w10 B10.out).mono ?_
             rintro e w11 ⟨rfl, b11⟩
             have z11 := b11.size
             have X11 := Lib.hid (X10.out.below b11 (by omega))
             have Y11 := Lib.hid (Y10.out.below b11 (by omega))
             have B11 := Lib.hid (B10.out.trans (b11.mono (by omega)))
             have h10 := X11.out.c0
             have h11 := X11.out.c1
             have h12 := X11.out.c2
             have h13 := X11.out.c3
             have h14 := X11.out.c4
             have h20 := Y11.out.c0
             have h21 := Y11.out.c1
             have h22 := Y11.out.c2
             have h23 := Y11.out.c3
             have h24 := Y11.out.c4
             skip)
          | (go_at_call 7
             refine E1.mono ?_
             rintro e w10 ⟨rfl, b10⟩
             have z10 := b10.size
             have X10 := Lib.hid (X9d.out.below b10 (by omega))
             have Y10 := Lib.hid (Y9d.out.below b10 (by omega))
             have B10 := Lib.hid (B9d.out.trans (b10.mono (by omega)))
             have j10 := X10.out.c0
             have j11 := X10.out.c1
             have j12 := X10.out.c2
             have j13 := X10.out.c3
             have j14 := X10.out.c4
             have j20 := Y10.out.c0
             have j21 := Y10.out.c1
             have j22 := Y10.out.c2
             have j23 := Y10.out.c3
             have j24 := Y10.out.c4
             skip)))
      go_wp2_with fail
      go_ret
      exact ⟨rfl, B13.out⟩
  · have C4' : Calls Tryd.prog 6 #[.agg #[.int .i64 o2, .string n2, .int .i64 i2, .slice sa2 sl2 sc2, .slice aa2 al2 ac2], .agg #[.int .i64 o1, .string n1, .int .i64 i1, .slice sa1 sl1 sc1, .slice aa1 al1 ac1]] w8 fun e w' => e = .returned (.int .i64 (-1)) ∧ Below w8.heap.size w8 w' := by
      have h := C4
      rw [HXY.out.2.2.2] at h
      exact h
    have EV : ∀ W, Below w.heap.size w W → Calls Tryd.prog 7 #[.agg #[.int .i64 o1, .string n1, .int .i64 i1, .slice sa1 sl1 sc1, .slice aa1 al1 ac1], .agg #[.int .i64 o2, .string n2, .int .i64 i2, .slice sa2 sl2 sc2, .slice aa2 al2 ac2]] W fun e w' => e = .returned (.bool false) ∧ Below W.heap.size W w' := fun W h => by
      have h' := equal_val W.heap.size _ _ T1 T2 W (Nat.le_refl _) (T1h.out _ h) (T2h.out _ h)
      rw [HXY.out.1] at h'
      exact h'
    have SV : ∀ W, Below w.heap.size w W → Calls Tryd.prog 8 #[.agg #[.int .i64 o1, .string n1, .int .i64 i1, .slice sa1 sl1 sc1, .slice aa1 al1 ac1], .agg #[.int .i64 o2, .string n2, .int .i64 i2, .slice sa2 sl2 sc2, .slice aa2 al2 ac2]] W fun e w' => e = .returned (.bool false) ∧ Below W.heap.size W w' := fun W h => by
      have h' := same_any (T1.sz + 1) W.heap.size _ _ T1 T2 W (by omega) (Nat.le_refl _) (T1h.out _ h) (T2h.out _ h)
      rw [HXY.out.1] at h'
      exact h'
    have EVh := Lib.hid EV
    have SVh := Lib.hid SV
    clear C4 EV SV
    go_wp2_with fail
    refine C4'.mono ?_
    rintro e w9 ⟨rfl, b9⟩
    have z9 := b9.size
    have X9 := Lib.hid (X8.out.below b9 (by omega))
    have Y9 := Lib.hid (Y8.out.below b9 (by omega))
    have B9 := Lib.hid (B8.out.trans (b9.mono (by omega)))
    clear C4' b9
    go_wp2_with fail
    have X9d := Lib.hid (show Box (w.heap.size) _ _ _ _ _ w9.drew from X9.out)
    have Y9d := Lib.hid (show Box (w.heap.size + 1) _ _ _ _ _ w9.drew from Y9.out)
    have B9d := Lib.hid (show Below w.heap.size w w9.drew from B9.out.trans (below_drewN (Below.refl _ _) 1))
    have hs9 : w9.drew.heap.size = w9.heap.size := rfl
    have t10 := X9d.out.c0
    have t11 := X9d.out.c1
    have t12 := X9d.out.c2
    have t13 := X9d.out.c3
    have t14 := X9d.out.c4
    have t20 := Y9d.out.c0
    have t21 := Y9d.out.c1
    have t22 := Y9d.out.c2
    have t23 := Y9d.out.c3
    have t24 := Y9d.out.c4
    have E1 := EVh.out w9.drew B9d.out
    go_region_held3 (fun W => W.cell? ⟨w.heap.size, 0, none⟩ = some (.int .i64 o1) ∧ W.cell? ⟨w.heap.size, 1, none⟩ = some (.string n1) ∧ W.cell? ⟨w.heap.size, 2, none⟩ = some (.int .i64 i1) ∧ W.cell? ⟨w.heap.size, 3, none⟩ = some (.slice sa1 sl1 sc1) ∧ W.cell? ⟨w.heap.size, 4, none⟩ = some (.slice aa1 al1 ac1) ∧ W.cell? ⟨w.heap.size + 1, 0, none⟩ = some (.int .i64 o2) ∧ W.cell? ⟨w.heap.size + 1, 1, none⟩ = some (.string n2) ∧ W.cell? ⟨w.heap.size + 1, 2, none⟩ = some (.int .i64 i2) ∧ W.cell? ⟨w.heap.size + 1, 3, none⟩ = some (.slice sa2 sl2 sc2) ∧ W.cell? ⟨w.heap.size + 1, 4, none⟩ = some (.slice aa2 al2 ac2))
      (refine ⟨?_, ?_, ?_, ?_, ?_, ?_, ?_, ?_, ?_, ?_⟩ <;> assumption)
      ((first
        | (have _g : w12 = w12 := rfl
           go_at_call 5
           refine (awake_ok w12).mono ?_
           rintro e w13 ⟨rfl, b13⟩
           have z13 := b13.size
           have X13 := Lib.hid (X12.out.below b13 (by omega))
           have Y13 := Lib.hid (Y12.out.below b13 (by omega))
           have B13 := Lib.hid (B12.out.trans (b13.mono (by omega)))
           have f10 := X13.out.c0
           have f11 := X13.out.c1
           have f12 := X13.out.c2
           have f13 := X13.out.c3
           have f14 := X13.out.c4
           have f20 := Y13.out.c0
           have f21 := Y13.out.c1
           have f22 := Y13.out.c2
           have f23 := Y13.out.c3
           have f24 := Y13.out.c4
           skip)
        | (have _g : w11 = w11 := rfl
           go_at_call 8
           refine (SVh.out w11 B11.out).mono ?_
           rintro e w12 ⟨rfl, b12⟩
           have z12 := b12.size
           have X12 := Lib.hid (X11.out.below b12 (by omega))
           have Y12 := Lib.hid (Y11.out.below b12 (by omega))
           have B12 := Lib.hid (B11.out.trans (b12.mono (by omega)))
           have g10 := X12.out.c0
           have g11 := X12.out.c1
           have g12 := X12.out.c2
           have g13 := X12.out.c3
           have g14 := X12.out.c4
           have g20 := Y12.out.c0
           have g21 := Y12.out.c1
           have g22 := Y12.out.c2
           have g23 := Y12.out.c3
           have g24 := Y12.out.c4
           skip)
        | (have _g : w10 = w10 := rfl
           go_at_call 7
           refine (EVh.out w10 B10.out).mono ?_
           rintro e w11 ⟨rfl, b11⟩
           have z11 := b11.size
           have X11 := Lib.hid (X10.out.below b11 (by omega))
           have Y11 := Lib.hid (Y10.out.below b11 (by omega))
           have B11 := Lib.hid (B10.out.trans (b11.mono (by omega)))
           have h10 := X11.out.c0
           have h11 := X11.out.c1
           have h12 := X11.out.c2
           have h13 := X11.out.c3
           have h14 := X11.out.c4
           have h20 := Y11.out.c0
           have h21 := Y11.out.c1
           have h22 := Y11.out.c2
           have h23 := Y11.out.c3
           have h24 := Y11.out.c4
           skip)
        | (go_at_call 7
           refine E1.mono ?_
           rintro e w10 ⟨rfl, b10⟩
           have z10 := b10.size
           have X10 := Lib.hid (X9d.out.below b10 (by omega))
           have Y10 := Lib.hid (Y9d.out.below b10 (by omega))
           have B10 := Lib.hid (B9d.out.trans (b10.mono (by omega)))
           have j10 := X10.out.c0
           have j11 := X10.out.c1
           have j12 := X10.out.c2
           have j13 := X10.out.c3
           have j14 := X10.out.c4
           have j20 := Y10.out.c0
           have j21 := Y10.out.c1
           have j22 := Y10.out.c2
           have j23 := Y10.out.c3
           have j24 := Y10.out.c4
           skip)))
    go_wp2_with fail
    go_ret
    exact ⟨rfl, B13.out⟩
end Go.Proofs.YthopoidcglfdjaaDoor
