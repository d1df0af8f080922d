/-
  The scanner's strings.
-/
import Derived.Test.YtdkagjbedinhjaaGreatV5
namespace Go.Proofs.YtdkagjbedinhjaaGreat
open Go.RowKit

/-- What a string means whose rest is given, and how many bytes that has. -/
def strF : Nat → Bs → Option (Bs × Nat)
  | 0, _ => none
  | _ + 1, [] => none
  | f + 1, c :: r => if c = 10 then none else if c = 34 then some ([], 1) else if c = 92 then (if escL r = 0 then none else (strF f (r.drop 1)).map fun x => (escL r :: x.1, 2 + x.2)) else (strF f r).map fun x => (c :: x.1, 1 + x.2)
def strL (l : Bs) : Option (Bs × Nat) := strF l.length l
theorem strF_enough : ∀ (f g : Nat) (l : Bs), l.length ≤ f → l.length ≤ g → strF f l = strF g l
  | 0, 0, _, _, _ => rfl
  | 0, g + 1, l, h, _ => by
    have : l = [] := List.length_eq_zero_iff.1 (Nat.le_zero.1 h)
    subst this
    rfl
  | f + 1, 0, l, _, h => by
    have : l = [] := List.length_eq_zero_iff.1 (Nat.le_zero.1 h)
    subst this
    rfl
  | f + 1, g + 1, [], _, _ => rfl
  | f + 1, g + 1, c :: r, hf, hg => by
    simp only [List.length_cons] at hf hg
    simp only [strF]
    rw [strF_enough f g r (by omega) (by omega), strF_enough f g (r.drop 1) (by rw [List.length_drop]; omega) (by rw [List.length_drop]; omega)]
theorem strL_nil : strL [] = none := rfl
theorem strL_cons (c : UInt8) (r : Bs) : strL (c :: r) = if c = 10 then none else if c = 34 then some ([], 1) else if c = 92 then (if escL r = 0 then none else (strL (r.drop 1)).map fun x => (escL r :: x.1, 2 + x.2)) else (strL r).map fun x => (c :: x.1, 1 + x.2) := by
  show strF (r.length + 1) (c :: r) = _
  simp only [strF]
  unfold strL
  rw [strF_enough r.length (r.drop 1).length (r.drop 1) (by rw [List.length_drop]; omega) (Nat.le_refl _)]

/-- What str does: the token, or the fault. -/
def StrPost (w : World) (k : Nat) (o : Option (Bs × Nat)) (x : Ending) (w' : World) : Prop := (match o with
  | some r => x = .returned (.tuple #[tokV 8 ⟨r.1.toArray⟩ 0, .int .i64 ((k + 1 + r.2 : Nat) : Int)])
  | none => x = .panicked [{ v := faultV k 161, recovered := false }]) ∧ Below w.heap.size w w'
/-- What is still to come, behind what has come. -/
def strAt (T : ByteArray) (out : Bs) (j : Nat) : Option (Bs × Nat) := (strL (from' T j)).map fun r => (out ++ r.1, j + r.2)
theorem strPost_none {w w' : World} {k : Nat} {T : ByteArray} (h : strAt T [] (k + 1) = none) (hb : Below w.heap.size w w') : StrPost w k (strL (from' T (k + 1))) (.panicked [{ v := faultV k 161, recovered := false }]) w' := by
  have : strL (from' T (k + 1)) = none := by
    unfold strAt at h
    exact Option.map_eq_none_iff.1 h
  rw [this]
  exact ⟨rfl, hb⟩
theorem strPost_some {w w' : World} {k : Nat} {T : ByteArray} {t : Bs} {e : Nat} (h : strAt T [] (k + 1) = some (t, e)) (hb : Below w.heap.size w w') : StrPost w k (strL (from' T (k + 1))) (.returned (.tuple #[tokV 8 ⟨t.toArray⟩ 0, .int .i64 (e : Int)])) w' := by
  unfold strAt at h
  obtain ⟨r, hr, he⟩ := Option.map_eq_some_iff.1 h
  rw [hr]
  cases he
  exact ⟨rfl, hb⟩
theorem strAt_end {T : ByteArray} {out : Bs} {j : Nat} (h : T.size ≤ j) : strAt T out j = none := by unfold strAt; rw [from_nil h]; rfl
theorem strAt_feed {T : ByteArray} {out : Bs} {j : Nat} (h : j < T.size) (hc : T[j] = 10) : strAt T out j = none := by unfold strAt; rw [from_cons h, strL_cons, if_pos hc]; rfl
theorem strAt_quote {T : ByteArray} {out : Bs} {j : Nat} (h : j < T.size) (hc : T[j] = 34) : strAt T out j = some (out, j + 1) := by
  unfold strAt
  rw [from_cons h, strL_cons, if_neg (by rw [hc]; decide), if_pos hc]
  simp
theorem strAt_bad {T : ByteArray} {out : Bs} {j : Nat} (h : j < T.size) (hc : T[j] = 92) (he : escL (from' T (j + 1)) = 0) : strAt T out j = none := by
  unfold strAt
  rw [from_cons h, strL_cons, if_neg (by rw [hc]; decide), if_neg (by rw [hc]; decide), if_pos hc, if_pos he]
  rfl
theorem strAt_esc {T : ByteArray} {out : Bs} {j : Nat} (h : j < T.size) (hc : T[j] = 92) (he : escL (from' T (j + 1)) ≠ 0) : strAt T out j = strAt T (out ++ [escL (from' T (j + 1))]) (j + 2) := by
  unfold strAt
  rw [from_cons h, strL_cons, if_neg (by rw [hc]; decide), if_neg (by rw [hc]; decide), if_pos hc, if_neg he, from_add, Option.map_map]
  congr 1
  funext r
  simp
  omega
theorem strAt_byte {T : ByteArray} {out : Bs} {j : Nat} (h : j < T.size) (h1 : T[j] ≠ 10) (h2 : T[j] ≠ 34) (h3 : T[j] ≠ 92) : strAt T out j = strAt T (out ++ [T[j]]) (j + 1) := by
  unfold strAt
  rw [from_cons h, strL_cons, if_neg h1, if_neg h2, if_neg h3, Option.map_map]
  congr 1
  funext r
  simp
  omega
theorem esc_lt {T : ByteArray} {j : Nat} (he : escL (from' T j) ≠ 0) : j < T.size := by
  rcases Nat.lt_or_ge j T.size with h | h
  · exact h
  · rw [from_nil h] at he
    exact absurd rfl he

/-- What str keeps. -/
structure StrAt (b : Nat) (T : ByteArray) (w : World) (out : Bs) (wr : World) : Prop where
  text : ScT b T wr
  res : TokAt w.heap.size 0 ⟨#[]⟩ 0 wr
  bd : Lib.IsBuilder 96 5 (w.heap.size + 1) (w.heap.size + 1) (Lib.byteCells out) wr
  below : Below w.heap.size w wr
theorem StrAt.next {b : Nat} {T : ByteArray} {w wr wr' : World} {out out' : Bs} (h : StrAt b T w out wr) (hb : b < w.heap.size) (hw : Below (w.heap.size + 1) wr wr') (hbd : Lib.IsBuilder 96 5 (w.heap.size + 1) (w.heap.size + 1) (Lib.byteCells out') wr') : StrAt b T w out' wr' :=
  ⟨h.text.later hw (by omega), h.res.later hw (by omega), hbd, h.below.trans (hw.mono (by omega))⟩

theorem str_laid (b : Nat) (T : ByteArray) (w : World) (hS : ScT b T w) : ∃ W, (w.alloc (.cells #[.int .i64 0, .string ⟨#[]⟩, .int .i64 0] 35)).alloc (.cells #[.pointer none, .slice none 0 0] 96) = W ∧ StrAt b T w [] W := by
  obtain ⟨w1, e1, b1, z1, t1⟩ := res_laid w
  have b2 := (Below.refl w1.heap.size w1).alloc (Nat.le_refl _) (.cells #[.pointer none, .slice none 0 0] 96)
  have hf := Lib.fresh_isBuilder 96 5 w1
  rw [← z1] at hf
  rw [e1]
  exact ⟨_, rfl, (hS.later b1 hS.lt).later b2 (by have := hS.lt; omega), t1.later b2 (by omega), hf, b1.trans (b2.mono (by omega))⟩

set_option maxRecDepth 100000 in
set_option maxHeartbeats 8000000 in
theorem str_any (b : Nat) (T : ByteArray) (k : Nat) (w : World) (hS : ScT b T w) (hk : k < T.size) (hT : T.size ≤ 100000000) (h0 : T[k] = 34) :
    Calls Tryz.prog 48 #[.pointer (some ⟨b, 0, none⟩), .int .i64 (k : Int)] w (StrPost w k (strL (from' T (k + 1)))) := by
  have hb := hS.lt
  obtain ⟨W, hW, hA⟩ := str_laid b T w hS
  have e1 : ((T[k].toNat : Int) == 34) = true := by rw [h0]; rfl
  have e2 : ((T[k].toNat : Int) != 34) = false := by rw [bne, e1]; rfl
  have C1 := (hS.later ((Below.refl w.heap.size w).alloc (Nat.le_refl _) (.cells #[.int .i64 0, .string ⟨#[]⟩, .int .i64 0] 35)) hS.lt).cell
  have HW := Lib.hid hW
  have HA := Lib.hid hA
  clear hS hW hA h0
  go_enter Tryz.func48, Tryz.ntmps48
  go_wp2_with fail
  rw [HW.out]
  clear HW C1 e1 e2
  go_loopw [7] (fun i wr => ∃ (j : Nat) (out : Bs), i = .int .i64 j ∧ k + 1 ≤ j ∧ j ≤ T.size ∧ out.length ≤ j ∧ Hid (StrAt b T w out wr) ∧ Hid (strAt T out j = strAt T [] (k + 1))) (fun i _ => T.size - (intOf i).toNat)
  case atStart => exact ⟨k + 1, [], by go_num, by omega, by omega, by simp, HA, Lib.hid rfl⟩
  case round =>
    obtain ⟨j, out, rfl, hj1, hj2, hol, HR, HE⟩ := hrel
    clear HA
    have ct := HR.out.text.cell
    by_cases hlt : j < T.size
    · have hdc : decide (j < T.size) = true := by simp; exact hlt
      by_cases a0 : T[j] = 10
      · have e0 : ((T[j].toNat : Int) == 10) = true := by rw [a0]; rfl
        have e0' : ((T[j].toNat : Int) != 10) = false := by rw [bne, e0]; rfl
        have HX := Lib.hid (strAt_feed (out := out) hlt a0)
        clear a0
        go_wp2_with fail
        exact ⟨rfl, strPost_none (HE.out.symm.trans HX.out) HR.out.below⟩
      · have e0 : ((T[j].toNat : Int) == 10) = false := u8_ne (n := 10) (by omega) a0
        have e0' : ((T[j].toNat : Int) != 10) = true := by rw [bne, e0]; rfl
        by_cases a1 : T[j] = 34
        · have e3 : ((T[j].toNat : Int) == 34) = true := by rw [a1]; rfl
          have HX := Lib.hid (strAt_quote (out := out) hlt a1)
          have HS := Lib.hid (Tryz.Builder_String_any (w.heap.size + 1) (w.heap.size + 1) out wr HR.out.bd (by have := isBuilder_lt HR.out.bd; omega))
          clear a0 a1
          go_wp2_with fail
          (with_reducible refine HS.out.mono ?_)
          rintro e w2 ⟨rfl, hb2⟩
          have ht2 := HR.out.res.later hb2 (Nat.lt_succ_self _)
          obtain ⟨q0, q1, q2, f0, f1, f2⟩ := ht2.cells
          have HB2 := Lib.hid (HR.out.below.trans (hb2.mono (Nat.le_succ _)))
          have HT2 := Lib.hid ht2
          clear hb2 ht2
          go_wp2_with fail
          exact bodyPost_ret (results_ct rfl _ _ ⟨w.heap.size, 0, none⟩ _ rfl (HT2.out.put 8 ⟨out.toArray⟩ 0).load) rfl (strPost_some (e := j + 1) (HE.out.symm.trans HX.out) (below_put HB2.out (Nat.le_refl _) _ _ _))
        · have e3 : ((T[j].toNat : Int) == 34) = false := u8_ne (n := 34) (by omega) a1
          by_cases a2 : T[j] = 92
          · have e4 : ((T[j].toNat : Int) == 92) = true := by rw [a2]; rfl
            have HEs := Lib.hid (escaped_any b T (j + 1) wr HR.out.text hT (by omega))
            rw [show (((j + 1 : Nat)) : Int) = (j : Int) + 1 by omega] at HEs
            by_cases a3 : escL (from' T (j + 1)) = 0
            · have HX := Lib.hid (strAt_bad (out := out) hlt a2 a3)
              rw [a3] at HEs
              clear a0 a1 a2 a3
              go_wp2_with fail
              (with_reducible refine HEs.out.mono ?_)
              rintro e w2 ⟨rfl, rfl⟩
              go_wp2_with fail
              exact ⟨rfl, strPost_none (HE.out.symm.trans HX.out) HR.out.below⟩
            · have HX := Lib.hid (strAt_esc (out := out) hlt a2 a3)
              have hlt2 := esc_lt a3
              obtain ⟨ec, hec⟩ : ∃ ec, escL (from' T (j + 1)) = ec := ⟨_, rfl⟩
              rw [hec] at HEs HX a3
              have e5 : ((ec.toNat : Int) == 0) = false := u8_ne (n := 0) (by omega) a3
              have HWr := Lib.hid (write_byte_bytes (w.heap.size + 1) (w.heap.size + 1) out ec wr HR.out.bd (by omega) (by have := isBuilder_lt HR.out.bd; omega))
              clear a0 a1 a2 a3 hec
              go_wp2_with fail
              (with_reducible refine HEs.out.mono ?_)
              rintro e w2 ⟨rfl, rfl⟩
              go_wp2_with fail
              (with_reducible refine HWr.out.mono ?_)
              rintro e w3 ⟨rfl, hbd3, hb3⟩
              have HR3 := Lib.hid (HR.out.next hb hb3 hbd3)
              clear hbd3 hb3
              go_wp2_with fail
              go_roundw
              case rel => exact ⟨j + 2, out ++ [ec], by go_num, by omega, by omega, by simp; omega, HR3, Lib.hid (HX.out.symm.trans HE.out)⟩
              case measure => simp [intOf]; omega
          · have e4 : ((T[j].toNat : Int) == 92) = false := u8_ne (n := 92) (by omega) a2
            have HX := Lib.hid (strAt_byte (out := out) hlt a0 a1 a2)
            have HWr := Lib.hid (write_byte_bytes (w.heap.size + 1) (w.heap.size + 1) out T[j] wr HR.out.bd (by omega) (by have := isBuilder_lt HR.out.bd; omega))
            clear a0 a1 a2
            go_wp2_with fail
            (with_reducible refine HWr.out.mono ?_)
            rintro e w3 ⟨rfl, hbd3, hb3⟩
            have HR3 := Lib.hid (HR.out.next hb hb3 hbd3)
            clear hbd3 hb3
            go_wp2_with fail
            go_roundw
            case rel => exact ⟨j + 1, out ++ [T[j]], by go_num, by omega, by omega, by simp; omega, HR3, Lib.hid (HX.out.symm.trans HE.out)⟩
            case measure => simp [intOf]; omega
    · have hdc : decide (j < T.size) = false := by simp; omega
      have HX := Lib.hid (strAt_end (T := T) (out := out) (j := j) (by omega))
      go_wp2_with fail
      exact ⟨rfl, strPost_none (HE.out.symm.trans HX.out) HR.out.below⟩
end Go.Proofs.YtdkagjbedinhjaaGreat
