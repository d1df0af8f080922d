/-
  The scanner: what stands between tokens (blanks), the next token.
-/
import Derived.Test.YtdkagjbedinhjaaGreatS6
namespace Go.Proofs.YtdkagjbedinhjaaGreat
open Go.RowKit

/-- Blanks, and no comment behind them. -/
def plainB (T : ByteArray) (k : Nat) : Bool := !Lib.hasPrefix (from' T (k + runLen blankB (from' T k))) [40, 42]

set_option maxRecDepth 100000 in
set_option maxHeartbeats 4000000 in
theorem between_plain (b : Nat) (T : ByteArray) (k : Nat) (w : World) (hS : ScT b T w) (hk : k ≤ T.size) (hT : T.size ≤ 100000000) (hp : plainB T k = true) :
    Calls Tryz.prog 31 #[.pointer (some ⟨b, 0, none⟩), .int .i64 (k : Int)] w fun e w' => e = .returned (.int .i64 ((k + runLen blankB (from' T k) : Nat) : Int)) ∧ w = w' := by
  have c1 := hS.cell
  have HP0 := Lib.hid hp
  clear hp
  go_enter Tryz.func31, Tryz.ntmps31
  go_wp2_with fail
  go_loop [1] (fun i => ∃ j : Nat, i = .int .i64 j ∧ j ≤ T.size ∧ Hid (j + runLen blankB (from' T j) = k + runLen blankB (from' T k))) (fun i => T.size - (intOf i).toNat)
  case atStart => exact ⟨k, rfl, hk, Lib.hid rfl⟩
  case round =>
    obtain ⟨j, rfl, hj, H⟩ := hrel
    by_cases hlt : j < T.size
    · have hd := from_cons hlt
      have HC := Lib.hid (fun w => (show Calls Tryz.prog 39 #[.string blanksS, .int .u8 (T[j].toNat : Int)] w (fun e w' => e = .returned (.bool (blankB T[j])) ∧ w = w') from has_any blanksS T[j] w))
      cases hp : blankB T[j] with
      | true =>
        simp only [hp] at HC
        have HP := Lib.hid hp
        have HD := Lib.hid hd
        clear hp hd
        go_wp2_with fail
        (with_reducible refine (HC.out _).mono ?_)
        rintro e w' ⟨rfl, rfl⟩
        go_wp2_with fail
        go_round
        case rel => exact ⟨j + 1, by go_num, by omega, Lib.hid (by rw [← H.out, HD.out]; simp [runLen, List.takeWhile_cons, HP.out]; omega)⟩
        case measure => simp [intOf]; omega
      | false =>
        simp only [hp] at HC
        have e0 : runLen blankB (from' T j) = 0 := by rw [hd]; simp [runLen, List.takeWhile_cons, hp]
        have hj' : k + runLen blankB (from' T k) = j := by have := H.out; omega
        have hro : (T.extract j T.size).data.toList = from' T j := from_ext T j
        have HPx := Lib.hid fun (w : World) => Tryz.strings_HasPrefix (T.extract j T.size) ⟨#[40, 42]⟩ w
        simp only [hro] at HPx
        have hq' : Lib.hasPrefix (from' T j) (⟨#[40, 42]⟩ : ByteArray).data.toList = false := by
          have := HP0.out
          unfold plainB at this
          rw [hj'] at this
          simpa using this
        simp only [hq'] at HPx
        have HJ := Lib.hid hj'
        have hle2 : (j : Int) ≤ T.size := by omega
        clear hp hd e0 hro hq' hj'
        go_wp2_with fail
        (with_reducible refine (HC.out _).mono ?_)
        rintro e w' ⟨rfl, rfl⟩
        go_wp2_with fail
        (with_reducible refine (HPx.out _).mono ?_)
        rintro e w' ⟨rfl, rfl⟩
        go_wp2_with fail
        go_ret
        exact ⟨ret_int (by rw [HJ.out]), rfl⟩
    · have hd := Lib.hid (from_nil (T := T) (k := j) (by omega))
      go_wp2_with fail
      go_ret
      exact ⟨ret_int (by have h1 := H.out; rw [hd.out] at h1; simp [runLen] at h1 ⊢; omega), rfl⟩

/-- The best one of the first candidates. -/
def bestOf (C : Nat → Int × ByteArray × Nat) (k : Nat) : Nat → Int × ByteArray × Nat
  | 0 => (0, ⟨#[]⟩, k)
  | j + 1 => if (bestOf C k j).2.2 < (C j).2.2 then C j else bestOf C k j

/-- The candidates' function values. -/
def candCells (b : Nat) : Array Value := #[.func (.func 42) #[.pointer (some ⟨b, 0, none⟩)] #[], .func (.func 43) #[.pointer (some ⟨b, 0, none⟩)] #[], .func (.func 44) #[.pointer (some ⟨b, 0, none⟩)] #[], .func (.func 45) #[.pointer (some ⟨b, 0, none⟩)] #[], .func (.func 46) #[.pointer (some ⟨b, 0, none⟩)] #[], .func (.func 47) #[.pointer (some ⟨b, 0, none⟩)] #[], .func (.func 48) #[.pointer (some ⟨b, 0, none⟩)] #[]]

theorem next_laid (b : Nat) (w : World) : ∃ W, ((w.alloc (.cells #[.int .i64 0, .string ⟨#[]⟩, .int .i64 0] 35)).alloc (.cells #[.int .i64 0, .string ⟨#[]⟩, .int .i64 0] 35)).alloc (.cells (candCells b) 65) = W ∧ Below w.heap.size w W ∧ TokAt w.heap.size 0 ⟨#[]⟩ 0 W ∧ TokAt (w.heap.size + 1) 0 ⟨#[]⟩ 0 W ∧ W.heap[w.heap.size + 1 + 1]? = some (.cells (candCells b) 65 (0, 0)) ∧ w.heap.size + 3 ≤ W.heap.size := by
  obtain ⟨w1, e1, b1, z1, t1⟩ := res_laid w
  obtain ⟨w2, e2, b2, z2, t2⟩ := res_laid w1
  have b3 := (Below.refl w2.heap.size w2).alloc (Nat.le_refl _) (.cells (candCells b) 65)
  have n3 := Go.heap_alloc_new w2 (.cells (candCells b) 65)
  rw [e1, e2]
  have zz : w2.heap.size = w.heap.size + 1 + 1 := by omega
  rw [zz] at n3
  rw [← z1] at t2
  exact ⟨_, rfl, (b1.trans (b2.mono (by omega))).trans (b3.mono (by omega)), (t1.later b2 (by omega)).later b3 (by omega), t2.later b3 (by omega), n3, by simp; omega⟩

/-- What the loop of the candidates keeps. -/
structure NextAt (b : Nat) (w : World) (kind : Int) (t : ByteArray) (wr : World) : Prop where
  res : TokAt w.heap.size 0 ⟨#[]⟩ 0 wr
  best : TokAt (w.heap.size + 1) kind t 0 wr
  fns : wr.heap[w.heap.size + 1 + 1]? = some (.cells (candCells b) 65 (0, 0))
  size : w.heap.size + 3 ≤ wr.heap.size
  below : Below w.heap.size w wr
theorem NextAt.later {b : Nat} {w wr wr' : World} {kind : Int} {t : ByteArray} (h : NextAt b w kind t wr) (hb : Below wr.heap.size wr wr') : NextAt b w kind t wr' :=
  have hz := h.size
  ⟨h.res.later hb (by omega), h.best.later hb (by omega), (hb.block _ (by omega)).trans h.fns, Nat.le_trans hz hb.size, h.below.trans (hb.mono (by omega))⟩
theorem NextAt.put {b : Nat} {w wr : World} {kind : Int} {t : ByteArray} (h : NextAt b w kind t wr) (kind' : Int) (t' : ByteArray) : NextAt b w kind' t' (putTok wr (w.heap.size + 1) kind' t' 0) := by
  have hz := h.size
  have hb : ∀ i, i ≠ w.heap.size + 1 → (putTok wr (w.heap.size + 1) kind' t' 0).heap[i]? = wr.heap[i]? := fun i hi => by
    unfold putTok
    rw [Below.heap_setCell _ _ _ i hi, Below.heap_setCell _ _ _ i hi, Below.heap_setCell _ _ _ i hi]
  exact ⟨(hb _ (by omega)).trans h.res, h.best.put _ _ _, (hb _ (by omega)).trans h.fns, by unfold putTok; simpa using hz, below_put h.below (by omega) _ _ _⟩

set_option maxRecDepth 100000 in
set_option maxHeartbeats 8000000 in
theorem next_ok (b : Nat) (k : Nat) (w : World) (C : Nat → Int × ByteArray × Nat)
    (h0 : ∀ V, Below w.heap.size w V → CandC 42 b k V (C 0).1 (C 0).2.1 (C 0).2.2)
    (h1 : ∀ V, Below w.heap.size w V → CandC 43 b k V (C 1).1 (C 1).2.1 (C 1).2.2)
    (h2 : ∀ V, Below w.heap.size w V → CandC 44 b k V (C 2).1 (C 2).2.1 (C 2).2.2)
    (h3 : ∀ V, Below w.heap.size w V → CandC 45 b k V (C 3).1 (C 3).2.1 (C 3).2.2)
    (h4 : ∀ V, Below w.heap.size w V → CandC 46 b k V (C 4).1 (C 4).2.1 (C 4).2.2)
    (h5 : ∀ V, Below w.heap.size w V → CandC 47 b k V (C 5).1 (C 5).2.1 (C 5).2.2)
    (h6 : ∀ V, Below w.heap.size w V → CandC 48 b k V (C 6).1 (C 6).2.1 (C 6).2.2)
    (hpos : (bestOf C k 7).2.2 ≠ k) :
    Calls Tryz.prog 32 #[.pointer (some ⟨b, 0, none⟩), .int .i64 (k : Int)] w fun e w' => e = .returned (.tuple #[tokV (bestOf C k 7).1 (bestOf C k 7).2.1 k, .int .i64 ((bestOf C k 7).2.2 : Int)]) ∧ Below w.heap.size w w' := by
  have hmf : ∀ (fn : Fn) (first cap : Array Value) (w : World), (Instr.makeFunc fn first cap).run Tryz.prog w = .ok (.func fn first cap) w := fun _ _ _ _ => rfl
  have H0 := Lib.hid h0
  have H1 := Lib.hid h1
  have H2 := Lib.hid h2
  have H3 := Lib.hid h3
  have H4 := Lib.hid h4
  have H5 := Lib.hid h5
  have H6 := Lib.hid h6
  have HPos := Lib.hid hpos
  clear h0 h1 h2 h3 h4 h5 h6 hpos
  obtain ⟨W, hW, hb, ht1, ht2, hf, hz⟩ := next_laid b w
  have HN := Lib.hid (NextAt.mk ht1 ht2 hf hz hb)
  have HW := Lib.hid hW
  unfold candCells at HW
  clear hW hb ht1 ht2 hf hz
  go_enter Tryz.func32, Tryz.ntmps32
  go_wp2_with fail
  rw [HW.out]
  clear HW
  go_loopw [7, 29] (fun l i wr => ∃ j : Nat, j ≤ 7 ∧ i = .int .i64 j ∧ l = .int .i64 ((bestOf C k j).2.2 : Int) ∧ Hid (NextAt b w (bestOf C k j).1 (bestOf C k j).2.1 wr)) (fun _ i _ => 7 - (intOf i).toNat)
  case atStart => exact ⟨0, by omega, rfl, rfl, HN⟩
  case round =>
    obtain ⟨j, hj, rfl, rfl, HR⟩ := hrel
    clear HN
    have hjs : j = 0 ∨ j = 1 ∨ j = 2 ∨ j = 3 ∨ j = 4 ∨ j = 5 ∨ j = 6 ∨ j = 7 := by omega
    rcases hjs with rfl | rfl | rfl | rfl | rfl | rfl | rfl | rfl
    · obtain ⟨bk, bt, be, hB⟩ : ∃ bk bt be, bestOf C k 0 = (bk, bt, be) := ⟨_, _, _, rfl⟩
      obtain ⟨kd, tx, en, hC⟩ : ∃ kd tx en, C 0 = (kd, tx, en) := ⟨_, _, _, rfl⟩
      have hn : bestOf C k 1 = if be < en then (kd, tx, en) else (bk, bt, be) := by
        show (if (bestOf C k 0).2.2 < (C 0).2.2 then C 0 else bestOf C k 0) = _
        rw [hC, hB]
      rw [hB] at HR ⊢
      have hkc := H0.out wr HR.out.below
      unfold CandC at hkc
      rw [hC] at hkc
      have HK := Lib.hid hkc
      clear hkc
      have HN2 := Lib.hid hn
      have cf : wr.cell? ⟨w.heap.size + 1 + 1, 0, none⟩ = some (.func (.func 42) #[.pointer (some ⟨b, 0, none⟩)] #[]) := by rw [Lib.cell_of_heap HR.out.fns]; rfl
      clear hn hC hB
      by_cases hlt : be < en
      · have hd : decide (be < en) = true := by simp; exact hlt
        go_wp2_with fail
        (with_reducible refine HK.out.mono ?_)
        rintro e w2 ⟨rfl, hb2⟩
        have HA := Lib.hid ((HR.out.later hb2).later ((Below.refl _ w2).alloc (Nat.le_refl _) (.cells #[.int .i64 kd, .string tx, .int .i64 0] 35)))
        obtain ⟨q0, q1, q2, f0, f1, f2⟩ := HA.out.best.cells
        have hnw := tok_new w2 kd tx 0
        obtain ⟨p0, p1, p2, g0, g1, g2⟩ := hnw.cells
        clear hb2 hnw
        go_wp2_with fail
        go_roundw
        case rel => exact ⟨1, by omega, by go_num, by rw [HN2.out, if_pos hlt], Lib.hid (by rw [HN2.out, if_pos hlt]; exact HA.out.put kd tx)⟩
        case measure => simp [intOf]
      · have hd : decide (be < en) = false := by simp; omega
        go_wp2_with fail
        (with_reducible refine HK.out.mono ?_)
        rintro e w2 ⟨rfl, hb2⟩
        have HA := Lib.hid ((HR.out.later hb2).later ((Below.refl _ w2).alloc (Nat.le_refl _) (.cells #[.int .i64 kd, .string tx, .int .i64 0] 35)))
        clear hb2
        go_wp2_with fail
        go_roundw
        case rel => exact ⟨1, by omega, by go_num, by rw [HN2.out, if_neg hlt], Lib.hid (by rw [HN2.out, if_neg hlt]; exact HA.out)⟩
        case measure => simp [intOf]
    · obtain ⟨bk, bt, be, hB⟩ : ∃ bk bt be, bestOf C k 1 = (bk, bt, be) := ⟨_, _, _, rfl⟩
      obtain ⟨kd, tx, en, hC⟩ : ∃ kd tx en, C 1 = (kd, tx, en) := ⟨_, _, _, rfl⟩
      have hn : bestOf C k 2 = if be < en then (kd, tx, en) else (bk, bt, be) := by
        show (if (bestOf C k 1).2.2 < (C 1).2.2 then C 1 else bestOf C k 1) = _
        rw [hC, hB]
      rw [hB] at HR ⊢
      have hkc := H1.out wr HR.out.below
      unfold CandC at hkc
      rw [hC] at hkc
      have HK := Lib.hid hkc
      clear hkc
      have HN2 := Lib.hid hn
      have cf : wr.cell? ⟨w.heap.size + 1 + 1, 1, none⟩ = some (.func (.func 43) #[.pointer (some ⟨b, 0, none⟩)] #[]) := by rw [Lib.cell_of_heap HR.out.fns]; rfl
      clear hn hC hB
      by_cases hlt : be < en
      · have hd : decide (be < en) = true := by simp; exact hlt
        go_wp2_with fail
        (with_reducible refine HK.out.mono ?_)
        rintro e w2 ⟨rfl, hb2⟩
        have HA := Lib.hid ((HR.out.later hb2).later ((Below.refl _ w2).alloc (Nat.le_refl _) (.cells #[.int .i64 kd, .string tx, .int .i64 0] 35)))
        obtain ⟨q0, q1, q2, f0, f1, f2⟩ := HA.out.best.cells
        have hnw := tok_new w2 kd tx 0
        obtain ⟨p0, p1, p2, g0, g1, g2⟩ := hnw.cells
        clear hb2 hnw
        go_wp2_with fail
        go_roundw
        case rel => exact ⟨2, by omega, by go_num, by rw [HN2.out, if_pos hlt], Lib.hid (by rw [HN2.out, if_pos hlt]; exact HA.out.put kd tx)⟩
        case measure => simp [intOf]
      · have hd : decide (be < en) = false := by simp; omega
        go_wp2_with fail
        (with_reducible refine HK.out.mono ?_)
        rintro e w2 ⟨rfl, hb2⟩
        have HA := Lib.hid ((HR.out.later hb2).later ((Below.refl _ w2).alloc (Nat.le_refl _) (.cells #[.int .i64 kd, .string tx, .int .i64 0] 35)))
        clear hb2
        go_wp2_with fail
        go_roundw
        case rel => exact ⟨2, by omega, by go_num, by rw [HN2.out, if_neg hlt], Lib.hid (by rw [HN2.out, if_neg hlt]; exact HA.out)⟩
        case measure => simp [intOf]
    · obtain ⟨bk, bt, be, hB⟩ : ∃ bk bt be, bestOf C k 2 = (bk, bt, be) := ⟨_, _, _, rfl⟩
      obtain ⟨kd, tx, en, hC⟩ : ∃ kd tx en, C 2 = (kd, tx, en) := ⟨_, _, _, rfl⟩
      have hn : bestOf C k 3 = if be < en then (kd, tx, en) else (bk, bt, be) := by
        show (if (bestOf C k 2).2.2 < (C 2).2.2 then C 2 else bestOf C k 2) = _
        rw [hC, hB]
      rw [hB] at HR ⊢
      have hkc := H2.out wr HR.out.below
      unfold CandC at hkc
      rw [hC] at hkc
      have HK := Lib.hid hkc
      clear hkc
      have HN2 := Lib.hid hn
      have cf : wr.cell? ⟨w.heap.size + 1 + 1, 2, none⟩ = some (.func (.func 44) #[.pointer (some ⟨b, 0, none⟩)] #[]) := by rw [Lib.cell_of_heap HR.out.fns]; rfl
      clear hn hC hB
      by_cases hlt : be < en
      · have hd : decide (be < en) = true := by simp; exact hlt
        go_wp2_with fail
        (with_reducible refine HK.out.mono ?_)
        rintro e w2 ⟨rfl, hb2⟩
        have HA := Lib.hid ((HR.out.later hb2).later ((Below.refl _ w2).alloc (Nat.le_refl _) (.cells #[.int .i64 kd, .string tx, .int .i64 0] 35)))
        obtain ⟨q0, q1, q2, f0, f1, f2⟩ := HA.out.best.cells
        have hnw := tok_new w2 kd tx 0
        obtain ⟨p0, p1, p2, g0, g1, g2⟩ := hnw.cells
        clear hb2 hnw
        go_wp2_with fail
        go_roundw
        case rel => exact ⟨3, by omega, by go_num, by rw [HN2.out, if_pos hlt], Lib.hid (by rw [HN2.out, if_pos hlt]; exact HA.out.put kd tx)⟩
        case measure => simp [intOf]
      · have hd : decide (be < en) = false := by simp; omega
        go_wp2_with fail
        (with_reducible refine HK.out.mono ?_)
        rintro e w2 ⟨rfl, hb2⟩
        have HA := Lib.hid ((HR.out.later hb2).later ((Below.refl _ w2).alloc (Nat.le_refl _) (.cells #[.int .i64 kd, .string tx, .int .i64 0] 35)))
        clear hb2
        go_wp2_with fail
        go_roundw
        case rel => exact ⟨3, by omega, by go_num, by rw [HN2.out, if_neg hlt], Lib.hid (by rw [HN2.out, if_neg hlt]; exact HA.out)⟩
        case measure => simp [intOf]
    · obtain ⟨bk, bt, be, hB⟩ : ∃ bk bt be, bestOf C k 3 = (bk, bt, be) := ⟨_, _, _, rfl⟩
      obtain ⟨kd, tx, en, hC⟩ : ∃ kd tx en, C 3 = (kd, tx, en) := ⟨_, _, _, rfl⟩
      have hn : bestOf C k 4 = if be < en then (kd, tx, en) else (bk, bt, be) := by
        show (if (bestOf C k 3).2.2 < (C 3).2.2 then C 3 else bestOf C k 3) = _
        rw [hC, hB]
      rw [hB] at HR ⊢
      have hkc := H3.out wr HR.out.below
      unfold CandC at hkc
      rw [hC] at hkc
      have HK := Lib.hid hkc
      clear hkc
      have HN2 := Lib.hid hn
      have cf : wr.cell? ⟨w.heap.size + 1 + 1, 3, none⟩ = some (.func (.func 45) #[.pointer (some ⟨b, 0, none⟩)] #[]) := by rw [Lib.cell_of_heap HR.out.fns]; rfl
      clear hn hC hB
      by_cases hlt : be < en
      · have hd : decide (be < en) = true := by simp; exact hlt
        go_wp2_with fail
        (with_reducible refine HK.out.mono ?_)
        rintro e w2 ⟨rfl, hb2⟩
        have HA := Lib.hid ((HR.out.later hb2).later ((Below.refl _ w2).alloc (Nat.le_refl _) (.cells #[.int .i64 kd, .string tx, .int .i64 0] 35)))
        obtain ⟨q0, q1, q2, f0, f1, f2⟩ := HA.out.best.cells
        have hnw := tok_new w2 kd tx 0
        obtain ⟨p0, p1, p2, g0, g1, g2⟩ := hnw.cells
        clear hb2 hnw
        go_wp2_with fail
        go_roundw
        case rel => exact ⟨4, by omega, by go_num, by rw [HN2.out, if_pos hlt], Lib.hid (by rw [HN2.out, if_pos hlt]; exact HA.out.put kd tx)⟩
        case measure => simp [intOf]
      · have hd : decide (be < en) = false := by simp; omega
        go_wp2_with fail
        (with_reducible refine HK.out.mono ?_)
        rintro e w2 ⟨rfl, hb2⟩
        have HA := Lib.hid ((HR.out.later hb2).later ((Below.refl _ w2).alloc (Nat.le_refl _) (.cells #[.int .i64 kd, .string tx, .int .i64 0] 35)))
        clear hb2
        go_wp2_with fail
        go_roundw
        case rel => exact ⟨4, by omega, by go_num, by rw [HN2.out, if_neg hlt], Lib.hid (by rw [HN2.out, if_neg hlt]; exact HA.out)⟩
        case measure => simp [intOf]
    · obtain ⟨bk, bt, be, hB⟩ : ∃ bk bt be, bestOf C k 4 = (bk, bt, be) := ⟨_, _, _, rfl⟩
      obtain ⟨kd, tx, en, hC⟩ : ∃ kd tx en, C 4 = (kd, tx, en) := ⟨_, _, _, rfl⟩
      have hn : bestOf C k 5 = if be < en then (kd, tx, en) else (bk, bt, be) := by
        show (if (bestOf C k 4).2.2 < (C 4).2.2 then C 4 else bestOf C k 4) = _
        rw [hC, hB]
      rw [hB] at HR ⊢
      have hkc := H4.out wr HR.out.below
      unfold CandC at hkc
      rw [hC] at hkc
      have HK := Lib.hid hkc
      clear hkc
      have HN2 := Lib.hid hn
      have cf : wr.cell? ⟨w.heap.size + 1 + 1, 4, none⟩ = some (.func (.func 46) #[.pointer (some ⟨b, 0, none⟩)] #[]) := by rw [Lib.cell_of_heap HR.out.fns]; rfl
      clear hn hC hB
      by_cases hlt : be < en
      · have hd : decide (be < en) = true := by simp; exact hlt
        go_wp2_with fail
        (with_reducible refine HK.out.mono ?_)
        rintro e w2 ⟨rfl, hb2⟩
        have HA := Lib.hid ((HR.out.later hb2).later ((Below.refl _ w2).alloc (Nat.le_refl _) (.cells #[.int .i64 kd, .string tx, .int .i64 0] 35)))
        obtain ⟨q0, q1, q2, f0, f1, f2⟩ := HA.out.best.cells
        have hnw := tok_new w2 kd tx 0
        obtain ⟨p0, p1, p2, g0, g1, g2⟩ := hnw.cells
        clear hb2 hnw
        go_wp2_with fail
        go_roundw
        case rel => exact ⟨5, by omega, by go_num, by rw [HN2.out, if_pos hlt], Lib.hid (by rw [HN2.out, if_pos hlt]; exact HA.out.put kd tx)⟩
        case measure => simp [intOf]
      · have hd : decide (be < en) = false := by simp; omega
        go_wp2_with fail
        (with_reducible refine HK.out.mono ?_)
        rintro e w2 ⟨rfl, hb2⟩
        have HA := Lib.hid ((HR.out.later hb2).later ((Below.refl _ w2).alloc (Nat.le_refl _) (.cells #[.int .i64 kd, .string tx, .int .i64 0] 35)))
        clear hb2
        go_wp2_with fail
        go_roundw
        case rel => exact ⟨5, by omega, by go_num, by rw [HN2.out, if_neg hlt], Lib.hid (by rw [HN2.out, if_neg hlt]; exact HA.out)⟩
        case measure => simp [intOf]
    · obtain ⟨bk, bt, be, hB⟩ : ∃ bk bt be, bestOf C k 5 = (bk, bt, be) := ⟨_, _, _, rfl⟩
      obtain ⟨kd, tx, en, hC⟩ : ∃ kd tx en, C 5 = (kd, tx, en) := ⟨_, _, _, rfl⟩
      have hn : bestOf C k 6 = if be < en then (kd, tx, en) else (bk, bt, be) := by
        show (if (bestOf C k 5).2.2 < (C 5).2.2 then C 5 else bestOf C k 5) = _
        rw [hC, hB]
      rw [hB] at HR ⊢
      have hkc := H5.out wr HR.out.below
      unfold CandC at hkc
      rw [hC] at hkc
      have HK := Lib.hid hkc
      clear hkc
      have HN2 := Lib.hid hn
      have cf : wr.cell? ⟨w.heap.size + 1 + 1, 5, none⟩ = some (.func (.func 47) #[.pointer (some ⟨b, 0, none⟩)] #[]) := by rw [Lib.cell_of_heap HR.out.fns]; rfl
      clear hn hC hB
      by_cases hlt : be < en
      · have hd : decide (be < en) = true := by simp; exact hlt
        go_wp2_with fail
        (with_reducible refine HK.out.mono ?_)
        rintro e w2 ⟨rfl, hb2⟩
        have HA := Lib.hid ((HR.out.later hb2).later ((Below.refl _ w2).alloc (Nat.le_refl _) (.cells #[.int .i64 kd, .string tx, .int .i64 0] 35)))
        obtain ⟨q0, q1, q2, f0, f1, f2⟩ := HA.out.best.cells
        have hnw := tok_new w2 kd tx 0
        obtain ⟨p0, p1, p2, g0, g1, g2⟩ := hnw.cells
        clear hb2 hnw
        go_wp2_with fail
        go_roundw
        case rel => exact ⟨6, by omega, by go_num, by rw [HN2.out, if_pos hlt], Lib.hid (by rw [HN2.out, if_pos hlt]; exact HA.out.put kd tx)⟩
        case measure => simp [intOf]
      · have hd : decide (be < en) = false := by simp; omega
        go_wp2_with fail
        (with_reducible refine HK.out.mono ?_)
        rintro e w2 ⟨rfl, hb2⟩
        have HA := Lib.hid ((HR.out.later hb2).later ((Below.refl _ w2).alloc (Nat.le_refl _) (.cells #[.int .i64 kd, .string tx, .int .i64 0] 35)))
        clear hb2
        go_wp2_with fail
        go_roundw
        case rel => exact ⟨6, by omega, by go_num, by rw [HN2.out, if_neg hlt], Lib.hid (by rw [HN2.out, if_neg hlt]; exact HA.out)⟩
        case measure => simp [intOf]
    · obtain ⟨bk, bt, be, hB⟩ : ∃ bk bt be, bestOf C k 6 = (bk, bt, be) := ⟨_, _, _, rfl⟩
      obtain ⟨kd, tx, en, hC⟩ : ∃ kd tx en, C 6 = (kd, tx, en) := ⟨_, _, _, rfl⟩
      have hn : bestOf C k 7 = if be < en then (kd, tx, en) else (bk, bt, be) := by
        show (if (bestOf C k 6).2.2 < (C 6).2.2 then C 6 else bestOf C k 6) = _
        rw [hC, hB]
      rw [hB] at HR ⊢
      have hkc := H6.out wr HR.out.below
      unfold CandC at hkc
      rw [hC] at hkc
      have HK := Lib.hid hkc
      clear hkc
      have HN2 := Lib.hid hn
      have cf : wr.cell? ⟨w.heap.size + 1 + 1, 6, none⟩ = some (.func (.func 48) #[.pointer (some ⟨b, 0, none⟩)] #[]) := by rw [Lib.cell_of_heap HR.out.fns]; rfl
      clear hn hC hB
      by_cases hlt : be < en
      · have hd : decide (be < en) = true := by simp; exact hlt
        go_wp2_with fail
        (with_reducible refine HK.out.mono ?_)
        rintro e w2 ⟨rfl, hb2⟩
        have HA := Lib.hid ((HR.out.later hb2).later ((Below.refl _ w2).alloc (Nat.le_refl _) (.cells #[.int .i64 kd, .string tx, .int .i64 0] 35)))
        obtain ⟨q0, q1, q2, f0, f1, f2⟩ := HA.out.best.cells
        have hnw := tok_new w2 kd tx 0
        obtain ⟨p0, p1, p2, g0, g1, g2⟩ := hnw.cells
        clear hb2 hnw
        go_wp2_with fail
        go_roundw
        case rel => exact ⟨7, by omega, by go_num, by rw [HN2.out, if_pos hlt], Lib.hid (by rw [HN2.out, if_pos hlt]; exact HA.out.put kd tx)⟩
        case measure => simp [intOf]
      · have hd : decide (be < en) = false := by simp; omega
        go_wp2_with fail
        (with_reducible refine HK.out.mono ?_)
        rintro e w2 ⟨rfl, hb2⟩
        have HA := Lib.hid ((HR.out.later hb2).later ((Below.refl _ w2).alloc (Nat.le_refl _) (.cells #[.int .i64 kd, .string tx, .int .i64 0] 35)))
        clear hb2
        go_wp2_with fail
        go_roundw
        case rel => exact ⟨7, by omega, by go_num, by rw [HN2.out, if_neg hlt], Lib.hid (by rw [HN2.out, if_neg hlt]; exact HA.out)⟩
        case measure => simp [intOf]
    · obtain ⟨bk, bt, be, hB⟩ : ∃ bk bt be, bestOf C k 7 = (bk, bt, be) := ⟨_, _, _, rfl⟩
      rw [hB] at HR HPos ⊢
      have hne : ((be : Int) == (k : Int)) = false := by
        have := HPos.out
        simp only at this
        simp
        omega
      obtain ⟨q0, q1, q2, f0, f1, f2⟩ := HR.out.best.cells
      obtain ⟨r0, r1, r2, g0, g1, g2⟩ := HR.out.res.cells
      go_wp2_with fail
      exact bodyPost_ret (results_ct rfl _ _ ⟨w.heap.size, 0, none⟩ _ rfl ((show TokAt w.heap.size 0 ⟨#[]⟩ 0 (wr.setCell ⟨w.heap.size + 1, 2, none⟩ (.int .i64 (k : Int))) from (Below.heap_setCell wr ⟨w.heap.size + 1, 2, none⟩ _ w.heap.size (by simp)).trans HR.out.res).put bk bt k).load) rfl ⟨rfl, below_put (HR.out.below.setCell (p := ⟨w.heap.size + 1, 2, none⟩) (Nat.le_succ _) _) (Nat.le_refl _) _ _ _⟩
end Go.Proofs.YtdkagjbedinhjaaGreat
