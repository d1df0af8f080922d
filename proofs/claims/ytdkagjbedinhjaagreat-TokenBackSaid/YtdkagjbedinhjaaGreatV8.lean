/-
  The next token of any text, or its error.
-/
import Derived.Test.YtdkagjbedinhjaaGreatV7
import Derived.Test.YtdkagjbedinhjaaGreatV1
namespace Go.Proofs.YtdkagjbedinhjaaGreat
open Go.RowKit

abbrev Cd := Int × ByteArray × Nat
/-- The candidates: of the last two there may be a fault. -/
def candsO (c0 c1 c2 c3 c4 : Cd) (o5 o6 : Option Cd) : Nat → Option Cd
  | 0 => some c0 | 1 => some c1 | 2 => some c2 | 3 => some c3 | 4 => some c4 | 5 => o5 | _ => o6
def pickO (a b : Option Cd) : Option Cd := match a, b with
  | some x, some y => some (if x.2.2 < y.2.2 then y else x)
  | _, _ => none
def bestO (C : Nat → Option Cd) (k : Nat) : Nat → Option Cd
  | 0 => some (0, ⟨#[]⟩, k)
  | j + 1 => pickO (bestO C k j) (C j)
theorem pickO_none (b : Option Cd) : pickO none b = none := rfl
theorem pickO_none' (a : Option Cd) : pickO a none = none := by cases a <;> rfl
theorem pickO_some (x y : Cd) : pickO (some x) (some y) = some (if x.2.2 < y.2.2 then y else x) := rfl
theorem bestO_none (C : Nat → Option Cd) (k j : Nat) (h : bestO C k j = none) : ∀ d, bestO C k (j + d) = none
  | 0 => h
  | d + 1 => by show pickO (bestO C k (j + d)) (C (j + d)) = none; rw [bestO_none C k j h d]; rfl

/-- A candidate's contract: its answer, or its fault. -/
def CandO (f b k : Nat) (w : World) (o : Option Cd) : Prop := match o with
  | some c => CandC f b k w c.1 c.2.1 c.2.2
  | none => CandP f b k w k 161

/-- What next does. -/
def NextPost (w : World) (k : Nat) (o : Option Cd) (x : Ending) (w' : World) : Prop := (match o with
  | none => x = .panicked [{ v := faultV k 161, recovered := false }]
  | some c => if c.2.2 = k then x = .panicked [{ v := faultV k 160, recovered := false }] else x = .returned (.tuple #[tokV c.1 c.2.1 (k : Int), .int .i64 (c.2.2 : Int)])) ∧ Below w.heap.size w w'

set_option maxRecDepth 100000 in
set_option maxHeartbeats 16000000 in
theorem next_walk (b : Nat) (k : Nat) (w : World) (c0 c1 c2 c3 c4 : Cd) (o5 o6 : Option Cd)
    (h0 : ∀ V, Below w.heap.size w V → CandO 42 b k V (some c0))
    (h1 : ∀ V, Below w.heap.size w V → CandO 43 b k V (some c1))
    (h2 : ∀ V, Below w.heap.size w V → CandO 44 b k V (some c2))
    (h3 : ∀ V, Below w.heap.size w V → CandO 45 b k V (some c3))
    (h4 : ∀ V, Below w.heap.size w V → CandO 46 b k V (some c4))
    (h5 : ∀ V, Below w.heap.size w V → CandO 47 b k V (o5))
    (h6 : ∀ V, Below w.heap.size w V → CandO 48 b k V (o6))
    (o : Option Cd) (ho : bestO (candsO c0 c1 c2 c3 c4 o5 o6) k 7 = o) :
    Calls Tryz.prog 32 #[.pointer (some ⟨b, 0, none⟩), .int .i64 (k : Int)] w (NextPost w k o) := by
  have hmf : ∀ (fn : Fn) (first cap : Array Value) (w : World), (Instr.makeFunc fn first cap).run Tryz.prog w = .ok (.func fn first cap) w := fun _ _ _ _ => rfl
  have H0 := Lib.hid h0
  have H1 := Lib.hid h1
  have H2 := Lib.hid h2
  have H3 := Lib.hid h3
  have H4 := Lib.hid h4
  have H5 := Lib.hid h5
  have H6 := Lib.hid h6
  have HO := Lib.hid ho
  clear h0 h1 h2 h3 h4 h5 h6 ho
  obtain ⟨W, hW, hb, ht1, ht2, hf, hz⟩ := next_laid b w
  have HN := Lib.hid (NextAt.mk ht1 ht2 hf hz hb)
  have HW := Lib.hid hW
  unfold candCells at HW
  clear hW hb ht1 ht2 hf hz
  go_enter Tryz.func32, Tryz.ntmps32
  go_wp2_with fail
  rw [HW.out]
  clear HW
  go_loopw [7, 29] (fun l i wr => ∃ (j : Nat) (c : Cd), j ≤ 7 ∧ i = .int .i64 j ∧ l = .int .i64 (c.2.2 : Int) ∧ Hid (bestO (candsO c0 c1 c2 c3 c4 o5 o6) k j = some c) ∧ Hid (NextAt b w c.1 c.2.1 wr)) (fun _ i _ => 7 - (intOf i).toNat)
  case atStart => exact ⟨0, (0, ⟨#[]⟩, k), by omega, rfl, rfl, Lib.hid rfl, HN⟩
  case round =>
    obtain ⟨j, ⟨bk, bt, be⟩, hj, rfl, rfl, HBj, HR⟩ := hrel
    clear HN
    have hjs : j = 0 ∨ j = 1 ∨ j = 2 ∨ j = 3 ∨ j = 4 ∨ j = 5 ∨ j = 6 ∨ j = 7 := by omega
    rcases hjs with rfl | rfl | rfl | rfl | rfl | rfl | rfl | rfl
    · obtain ⟨kd, tx, en⟩ := c0
      have hkc := H0.out wr HR.out.below
      unfold CandO CandC at hkc
      have HK := Lib.hid hkc
      clear hkc
      have HN2 := Lib.hid (show bestO (candsO (kd, tx, en) c1 c2 c3 c4 o5 o6) k 1 = some (if be < en then (kd, tx, en) else (bk, bt, be)) by
        show pickO (bestO (candsO (kd, tx, en) c1 c2 c3 c4 o5 o6) k 0) _ = _
        rw [HBj.out]
        exact pickO_some _ _)
      have cf : wr.cell? ⟨w.heap.size + 1 + 1, 0, none⟩ = some (.func (.func 42) #[.pointer (some ⟨b, 0, none⟩)] #[]) := by rw [Lib.cell_of_heap HR.out.fns]; rfl
      by_cases hlt : be < en
      · have hd : decide (be < en) = true := by simp; exact hlt
        go_wp2_with fail
        (with_reducible refine HK.out.mono ?_)
        rintro e w2 ⟨rfl, hb2⟩
        have HA := Lib.hid ((HR.out.later hb2).later ((Below.refl _ w2).alloc (Nat.le_refl _) (.cells #[.int .i64 kd, .string tx, .int .i64 0] 35)))
        obtain ⟨q0, q1, q2, f0, f1, f2⟩ := HA.out.best.cells
        have hnw := tok_new w2 kd tx 0
        obtain ⟨p0, p1, p2, g0, g1, g2⟩ := hnw.cells
        clear hb2 hnw
        go_wp2_with fail
        go_roundw
        case rel => exact ⟨1, (kd, tx, en), by omega, by go_num, rfl, Lib.hid (by rw [HN2.out, if_pos hlt]), Lib.hid (HA.out.put kd tx)⟩
        case measure => simp [intOf]
      · have hd : decide (be < en) = false := by simp; omega
        go_wp2_with fail
        (with_reducible refine HK.out.mono ?_)
        rintro e w2 ⟨rfl, hb2⟩
        have HA := Lib.hid ((HR.out.later hb2).later ((Below.refl _ w2).alloc (Nat.le_refl _) (.cells #[.int .i64 kd, .string tx, .int .i64 0] 35)))
        clear hb2
        go_wp2_with fail
        go_roundw
        case rel => exact ⟨1, (bk, bt, be), by omega, by go_num, rfl, Lib.hid (by rw [HN2.out, if_neg hlt]), HA⟩
        case measure => simp [intOf]
    · obtain ⟨kd, tx, en⟩ := c1
      have hkc := H1.out wr HR.out.below
      unfold CandO CandC at hkc
      have HK := Lib.hid hkc
      clear hkc
      have HN2 := Lib.hid (show bestO (candsO c0 (kd, tx, en) c2 c3 c4 o5 o6) k 2 = some (if be < en then (kd, tx, en) else (bk, bt, be)) by
        show pickO (bestO (candsO c0 (kd, tx, en) c2 c3 c4 o5 o6) k 1) _ = _
        rw [HBj.out]
        exact pickO_some _ _)
      have cf : wr.cell? ⟨w.heap.size + 1 + 1, 1, none⟩ = some (.func (.func 43) #[.pointer (some ⟨b, 0, none⟩)] #[]) := by rw [Lib.cell_of_heap HR.out.fns]; rfl
      by_cases hlt : be < en
      · have hd : decide (be < en) = true := by simp; exact hlt
        go_wp2_with fail
        (with_reducible refine HK.out.mono ?_)
        rintro e w2 ⟨rfl, hb2⟩
        have HA := Lib.hid ((HR.out.later hb2).later ((Below.refl _ w2).alloc (Nat.le_refl _) (.cells #[.int .i64 kd, .string tx, .int .i64 0] 35)))
        obtain ⟨q0, q1, q2, f0, f1, f2⟩ := HA.out.best.cells
        have hnw := tok_new w2 kd tx 0
        obtain ⟨p0, p1, p2, g0, g1, g2⟩ := hnw.cells
        clear hb2 hnw
        go_wp2_with fail
        go_roundw
        case rel => exact ⟨2, (kd, tx, en), by omega, by go_num, rfl, Lib.hid (by rw [HN2.out, if_pos hlt]), Lib.hid (HA.out.put kd tx)⟩
        case measure => simp [intOf]
      · have hd : decide (be < en) = false := by simp; omega
        go_wp2_with fail
        (with_reducible refine HK.out.mono ?_)
        rintro e w2 ⟨rfl, hb2⟩
        have HA := Lib.hid ((HR.out.later hb2).later ((Below.refl _ w2).alloc (Nat.le_refl _) (.cells #[.int .i64 kd, .string tx, .int .i64 0] 35)))
        clear hb2
        go_wp2_with fail
        go_roundw
        case rel => exact ⟨2, (bk, bt, be), by omega, by go_num, rfl, Lib.hid (by rw [HN2.out, if_neg hlt]), HA⟩
        case measure => simp [intOf]
    · obtain ⟨kd, tx, en⟩ := c2
      have hkc := H2.out wr HR.out.below
      unfold CandO CandC at hkc
      have HK := Lib.hid hkc
      clear hkc
      have HN2 := Lib.hid (show bestO (candsO c0 c1 (kd, tx, en) c3 c4 o5 o6) k 3 = some (if be < en then (kd, tx, en) else (bk, bt, be)) by
        show pickO (bestO (candsO c0 c1 (kd, tx, en) c3 c4 o5 o6) k 2) _ = _
        rw [HBj.out]
        exact pickO_some _ _)
      have cf : wr.cell? ⟨w.heap.size + 1 + 1, 2, none⟩ = some (.func (.func 44) #[.pointer (some ⟨b, 0, none⟩)] #[]) := by rw [Lib.cell_of_heap HR.out.fns]; rfl
      by_cases hlt : be < en
      · have hd : decide (be < en) = true := by simp; exact hlt
        go_wp2_with fail
        (with_reducible refine HK.out.mono ?_)
        rintro e w2 ⟨rfl, hb2⟩
        have HA := Lib.hid ((HR.out.later hb2).later ((Below.refl _ w2).alloc (Nat.le_refl _) (.cells #[.int .i64 kd, .string tx, .int .i64 0] 35)))
        obtain ⟨q0, q1, q2, f0, f1, f2⟩ := HA.out.best.cells
        have hnw := tok_new w2 kd tx 0
        obtain ⟨p0, p1, p2, g0, g1, g2⟩ := hnw.cells
        clear hb2 hnw
        go_wp2_with fail
        go_roundw
        case rel => exact ⟨3, (kd, tx, en), by omega, by go_num, rfl, Lib.hid (by rw [HN2.out, if_pos hlt]), Lib.hid (HA.out.put kd tx)⟩
        case measure => simp [intOf]
      · have hd : decide (be < en) = false := by simp; omega
        go_wp2_with fail
        (with_reducible refine HK.out.mono ?_)
        rintro e w2 ⟨rfl, hb2⟩
        have HA := Lib.hid ((HR.out.later hb2).later ((Below.refl _ w2).alloc (Nat.le_refl _) (.cells #[.int .i64 kd, .string tx, .int .i64 0] 35)))
        clear hb2
        go_wp2_with fail
        go_roundw
        case rel => exact ⟨3, (bk, bt, be), by omega, by go_num, rfl, Lib.hid (by rw [HN2.out, if_neg hlt]), HA⟩
        case measure => simp [intOf]
    · obtain ⟨kd, tx, en⟩ := c3
      have hkc := H3.out wr HR.out.below
      unfold CandO CandC at hkc
      have HK := Lib.hid hkc
      clear hkc
      have HN2 := Lib.hid (show bestO (candsO c0 c1 c2 (kd, tx, en) c4 o5 o6) k 4 = some (if be < en then (kd, tx, en) else (bk, bt, be)) by
        show pickO (bestO (candsO c0 c1 c2 (kd, tx, en) c4 o5 o6) k 3) _ = _
        rw [HBj.out]
        exact pickO_some _ _)
      have cf : wr.cell? ⟨w.heap.size + 1 + 1, 3, none⟩ = some (.func (.func 45) #[.pointer (some ⟨b, 0, none⟩)] #[]) := by rw [Lib.cell_of_heap HR.out.fns]; rfl
      by_cases hlt : be < en
      · have hd : decide (be < en) = true := by simp; exact hlt
        go_wp2_with fail
        (with_reducible refine HK.out.mono ?_)
        rintro e w2 ⟨rfl, hb2⟩
        have HA := Lib.hid ((HR.out.later hb2).later ((Below.refl _ w2).alloc (Nat.le_refl _) (.cells #[.int .i64 kd, .string tx, .int .i64 0] 35)))
        obtain ⟨q0, q1, q2, f0, f1, f2⟩ := HA.out.best.cells
        have hnw := tok_new w2 kd tx 0
        obtain ⟨p0, p1, p2, g0, g1, g2⟩ := hnw.cells
        clear hb2 hnw
        go_wp2_with fail
        go_roundw
        case rel => exact ⟨4, (kd, tx, en), by omega, by go_num, rfl, Lib.hid (by rw [HN2.out, if_pos hlt]), Lib.hid (HA.out.put kd tx)⟩
        case measure => simp [intOf]
      · have hd : decide (be < en) = false := by simp; omega
        go_wp2_with fail
        (with_reducible refine HK.out.mono ?_)
        rintro e w2 ⟨rfl, hb2⟩
        have HA := Lib.hid ((HR.out.later hb2).later ((Below.refl _ w2).alloc (Nat.le_refl _) (.cells #[.int .i64 kd, .string tx, .int .i64 0] 35)))
        clear hb2
        go_wp2_with fail
        go_roundw
        case rel => exact ⟨4, (bk, bt, be), by omega, by go_num, rfl, Lib.hid (by rw [HN2.out, if_neg hlt]), HA⟩
        case measure => simp [intOf]
    · obtain ⟨kd, tx, en⟩ := c4
      have hkc := H4.out wr HR.out.below
      unfold CandO CandC at hkc
      have HK := Lib.hid hkc
      clear hkc
      have HN2 := Lib.hid (show bestO (candsO c0 c1 c2 c3 (kd, tx, en) o5 o6) k 5 = some (if be < en then (kd, tx, en) else (bk, bt, be)) by
        show pickO (bestO (candsO c0 c1 c2 c3 (kd, tx, en) o5 o6) k 4) _ = _
        rw [HBj.out]
        exact pickO_some _ _)
      have cf : wr.cell? ⟨w.heap.size + 1 + 1, 4, none⟩ = some (.func (.func 46) #[.pointer (some ⟨b, 0, none⟩)] #[]) := by rw [Lib.cell_of_heap HR.out.fns]; rfl
      by_cases hlt : be < en
      · have hd : decide (be < en) = true := by simp; exact hlt
        go_wp2_with fail
        (with_reducible refine HK.out.mono ?_)
        rintro e w2 ⟨rfl, hb2⟩
        have HA := Lib.hid ((HR.out.later hb2).later ((Below.refl _ w2).alloc (Nat.le_refl _) (.cells #[.int .i64 kd, .string tx, .int .i64 0] 35)))
        obtain ⟨q0, q1, q2, f0, f1, f2⟩ := HA.out.best.cells
        have hnw := tok_new w2 kd tx 0
        obtain ⟨p0, p1, p2, g0, g1, g2⟩ := hnw.cells
        clear hb2 hnw
        go_wp2_with fail
        go_roundw
        case rel => exact ⟨5, (kd, tx, en), by omega, by go_num, rfl, Lib.hid (by rw [HN2.out, if_pos hlt]), Lib.hid (HA.out.put kd tx)⟩
        case measure => simp [intOf]
      · have hd : decide (be < en) = false := by simp; omega
        go_wp2_with fail
        (with_reducible refine HK.out.mono ?_)
        rintro e w2 ⟨rfl, hb2⟩
        have HA := Lib.hid ((HR.out.later hb2).later ((Below.refl _ w2).alloc (Nat.le_refl _) (.cells #[.int .i64 kd, .string tx, .int .i64 0] 35)))
        clear hb2
        go_wp2_with fail
        go_roundw
        case rel => exact ⟨5, (bk, bt, be), by omega, by go_num, rfl, Lib.hid (by rw [HN2.out, if_neg hlt]), HA⟩
        case measure => simp [intOf]
    · cases o5 with
      | none =>
        have hkc := H5.out wr HR.out.below
        unfold CandO CandP at hkc
        have HK := Lib.hid hkc
        clear hkc
        have HN2 := Lib.hid (show bestO (candsO c0 c1 c2 c3 c4 none o6) k 7 = none from bestO_none _ k 6 (by
          show pickO _ none = none
          exact pickO_none' _) 1)
        have hon : o = none := HO.out.symm.trans HN2.out
        have cf : wr.cell? ⟨w.heap.size + 1 + 1, 5, none⟩ = some (.func (.func 47) #[.pointer (some ⟨b, 0, none⟩)] #[]) := by rw [Lib.cell_of_heap HR.out.fns]; rfl
        subst hon
        go_wp2_with fail
        (with_reducible refine HK.out.mono ?_)
        rintro e w2 ⟨rfl, hb2⟩
        exact ⟨rfl, rfl, HR.out.below.trans (hb2.mono HR.out.below.size)⟩
      | some c =>
        obtain ⟨kd, tx, en⟩ := c
        have hkc := H5.out wr HR.out.below
        unfold CandO CandC at hkc
        have HK := Lib.hid hkc
        clear hkc
        have HN2 := Lib.hid (show bestO (candsO c0 c1 c2 c3 c4 (some (kd, tx, en)) o6) k 6 = some (if be < en then (kd, tx, en) else (bk, bt, be)) by
          show pickO (bestO (candsO c0 c1 c2 c3 c4 (some (kd, tx, en)) o6) k 5) _ = _
          rw [HBj.out]
          exact pickO_some _ _)
        have cf : wr.cell? ⟨w.heap.size + 1 + 1, 5, none⟩ = some (.func (.func 47) #[.pointer (some ⟨b, 0, none⟩)] #[]) := by rw [Lib.cell_of_heap HR.out.fns]; rfl
        by_cases hlt : be < en
        · have hd : decide (be < en) = true := by simp; exact hlt
          go_wp2_with fail
          (with_reducible refine HK.out.mono ?_)
          rintro e w2 ⟨rfl, hb2⟩
          have HA := Lib.hid ((HR.out.later hb2).later ((Below.refl _ w2).alloc (Nat.le_refl _) (.cells #[.int .i64 kd, .string tx, .int .i64 0] 35)))
          obtain ⟨q0, q1, q2, f0, f1, f2⟩ := HA.out.best.cells
          have hnw := tok_new w2 kd tx 0
          obtain ⟨p0, p1, p2, g0, g1, g2⟩ := hnw.cells
          clear hb2 hnw
          go_wp2_with fail
          go_roundw
          case rel => exact ⟨6, (kd, tx, en), by omega, by go_num, rfl, Lib.hid (by rw [HN2.out, if_pos hlt]), Lib.hid (HA.out.put kd tx)⟩
          case measure => simp [intOf]
        · have hd : decide (be < en) = false := by simp; omega
          go_wp2_with fail
          (with_reducible refine HK.out.mono ?_)
          rintro e w2 ⟨rfl, hb2⟩
          have HA := Lib.hid ((HR.out.later hb2).later ((Below.refl _ w2).alloc (Nat.le_refl _) (.cells #[.int .i64 kd, .string tx, .int .i64 0] 35)))
          clear hb2
          go_wp2_with fail
          go_roundw
          case rel => exact ⟨6, (bk, bt, be), by omega, by go_num, rfl, Lib.hid (by rw [HN2.out, if_neg hlt]), HA⟩
          case measure => simp [intOf]
    · cases o6 with
      | none =>
        have hkc := H6.out wr HR.out.below
        unfold CandO CandP at hkc
        have HK := Lib.hid hkc
        clear hkc
        have HN2 := Lib.hid (show bestO (candsO c0 c1 c2 c3 c4 o5 none) k 7 = none from bestO_none _ k 7 (by
          show pickO _ none = none
          exact pickO_none' _) 0)
        have hon : o = none := HO.out.symm.trans HN2.out
        have cf : wr.cell? ⟨w.heap.size + 1 + 1, 6, none⟩ = some (.func (.func 48) #[.pointer (some ⟨b, 0, none⟩)] #[]) := by rw [Lib.cell_of_heap HR.out.fns]; rfl
        subst hon
        go_wp2_with fail
        (with_reducible refine HK.out.mono ?_)
        rintro e w2 ⟨rfl, hb2⟩
        exact ⟨rfl, rfl, HR.out.below.trans (hb2.mono HR.out.below.size)⟩
      | some c =>
        obtain ⟨kd, tx, en⟩ := c
        have hkc := H6.out wr HR.out.below
        unfold CandO CandC at hkc
        have HK := Lib.hid hkc
        clear hkc
        have HN2 := Lib.hid (show bestO (candsO c0 c1 c2 c3 c4 o5 (some (kd, tx, en))) k 7 = some (if be < en then (kd, tx, en) else (bk, bt, be)) by
          show pickO (bestO (candsO c0 c1 c2 c3 c4 o5 (some (kd, tx, en))) k 6) _ = _
          rw [HBj.out]
          exact pickO_some _ _)
        have cf : wr.cell? ⟨w.heap.size + 1 + 1, 6, none⟩ = some (.func (.func 48) #[.pointer (some ⟨b, 0, none⟩)] #[]) := by rw [Lib.cell_of_heap HR.out.fns]; rfl
        by_cases hlt : be < en
        · have hd : decide (be < en) = true := by simp; exact hlt
          go_wp2_with fail
          (with_reducible refine HK.out.mono ?_)
          rintro e w2 ⟨rfl, hb2⟩
          have HA := Lib.hid ((HR.out.later hb2).later ((Below.refl _ w2).alloc (Nat.le_refl _) (.cells #[.int .i64 kd, .string tx, .int .i64 0] 35)))
          obtain ⟨q0, q1, q2, f0, f1, f2⟩ := HA.out.best.cells
          have hnw := tok_new w2 kd tx 0
          obtain ⟨p0, p1, p2, g0, g1, g2⟩ := hnw.cells
          clear hb2 hnw
          go_wp2_with fail
          go_roundw
          case rel => exact ⟨7, (kd, tx, en), by omega, by go_num, rfl, Lib.hid (by rw [HN2.out, if_pos hlt]), Lib.hid (HA.out.put kd tx)⟩
          case measure => simp [intOf]
        · have hd : decide (be < en) = false := by simp; omega
          go_wp2_with fail
          (with_reducible refine HK.out.mono ?_)
          rintro e w2 ⟨rfl, hb2⟩
          have HA := Lib.hid ((HR.out.later hb2).later ((Below.refl _ w2).alloc (Nat.le_refl _) (.cells #[.int .i64 kd, .string tx, .int .i64 0] 35)))
          clear hb2
          go_wp2_with fail
          go_roundw
          case rel => exact ⟨7, (bk, bt, be), by omega, by go_num, rfl, Lib.hid (by rw [HN2.out, if_neg hlt]), HA⟩
          case measure => simp [intOf]
    · have hoc : o = some (bk, bt, be) := HO.out.symm.trans HBj.out
      subst hoc
      obtain ⟨q0, q1, q2, f0, f1, f2⟩ := HR.out.best.cells
      obtain ⟨r0, r1, r2, g0, g1, g2⟩ := HR.out.res.cells
      by_cases hbe : be = k
      · have heq : ((be : Int) == (k : Int)) = true := by simp; omega
        have HBE := Lib.hid hbe
        clear hbe
        go_wp2_with fail
        refine ⟨rfl, ?_, HR.out.below⟩
        show (if be = k then _ else _)
        rw [if_pos HBE.out]
        rfl
      · have heq : ((be : Int) == (k : Int)) = false := by simp; omega
        have HBE := Lib.hid hbe
        clear hbe
        go_wp2_with fail
        refine bodyPost_ret (results_ct rfl _ _ ⟨w.heap.size, 0, none⟩ _ rfl ((show TokAt w.heap.size 0 ⟨#[]⟩ 0 (wr.setCell ⟨w.heap.size + 1, 2, none⟩ (.int .i64 (k : Int))) from (Below.heap_setCell wr ⟨w.heap.size + 1, 2, none⟩ _ w.heap.size (by simp)).trans HR.out.res).put bk bt k).load) rfl ⟨?_, below_put (HR.out.below.setCell (p := ⟨w.heap.size + 1, 2, none⟩) (Nat.le_succ _) _) (Nat.le_refl _) _ _ _⟩
        show (if be = k then _ else _)
        rw [if_neg HBE.out]
        rfl
end Go.Proofs.YtdkagjbedinhjaaGreat
