/-
  The scanner: bytes, runs of bytes.
-/
import Derived.Test.YtdkagjbedinhjaaGreatG
import Derived.LoopN
namespace Go.Proofs.YtdkagjbedinhjaaGreat
open Go.RowKit

theorem ret_bool {a b : Bool} (h : a = b) : Ending.returned (.bool a) = .returned (.bool b) := by rw [h]
theorem ret_int {k : IntKind} {a b : Int} (h : a = b) : Ending.returned (.int k a) = .returned (.int k b) := by rw [h]

/-- Letters and the underline; digits; what goes on in an identifier. -/
def begI (c : Int) : Bool := decide (97 ≤ c ∧ c ≤ 122) || decide (65 ≤ c ∧ c ≤ 90) || decide (c = 95)
def digI (c : Int) : Bool := decide (48 ≤ c ∧ c ≤ 57)
def begB (c : UInt8) : Bool := begI c.toNat
def digB (c : UInt8) : Bool := digI c.toNat
def goesB (c : UInt8) : Bool := begI c.toNat || digI c.toNat || decide ((c.toNat : Int) = 39)
def hasB (l : Bs) (c : UInt8) : Bool := decide (0 ≤ Lib.indexByte l c)
abbrev signsS : ByteArray := ⟨#[33, 35, 36, 37, 38, 42, 43, 45, 47, 58, 60, 61, 62, 64, 94, 124, 126]⟩
abbrev pointsS : ByteArray := ⟨#[40, 41, 91, 93, 123, 125, 44, 59, 46]⟩
abbrev blanksS : ByteArray := ⟨#[32, 9, 10, 13]⟩
def signB (c : UInt8) : Bool := hasB signsS.data.toList c
def pointB (c : UInt8) : Bool := hasB pointsS.data.toList c
def blankB (c : UInt8) : Bool := hasB blanksS.data.toList c

set_option maxHeartbeats 1000000 in
theorem begins_any (b : Int) (w : World) (h0 : 0 ≤ b) (h1 : b ≤ 255) : Calls Tryz.prog 36 #[.int .u8 b] w fun e w' => e = .returned (.bool (begI b)) ∧ w = w' := by
  by_cases a1 : 97 ≤ b
  · by_cases a2 : b ≤ 122
    · go_enter Tryz.func36, Tryz.ntmps36
      go_wp2
      go_ret
      exact ⟨ret_bool (by unfold begI; rw [Bool.eq_iff_iff]; simp; omega), rfl⟩
    · go_enter Tryz.func36, Tryz.ntmps36
      go_wp2
      go_ret
      exact ⟨ret_bool (by unfold begI; rw [Bool.eq_iff_iff]; simp; omega), rfl⟩
  · by_cases a2 : 65 ≤ b
    · by_cases a3 : b ≤ 90
      · go_enter Tryz.func36, Tryz.ntmps36
        go_wp2
        go_ret
        exact ⟨ret_bool (by unfold begI; rw [Bool.eq_iff_iff]; simp; omega), rfl⟩
      · by_cases a4 : b = 95
        · subst a4
          go_enter Tryz.func36, Tryz.ntmps36
          go_wp2
          go_ret
          exact ⟨ret_bool (by decide), rfl⟩
        · go_enter Tryz.func36, Tryz.ntmps36
          go_wp2
          go_ret
          exact ⟨ret_bool (by unfold begI; rw [Bool.eq_iff_iff]; simp; omega), rfl⟩
    · go_enter Tryz.func36, Tryz.ntmps36
      go_wp2
      go_ret
      exact ⟨ret_bool (by unfold begI; rw [Bool.eq_iff_iff]; simp; omega), rfl⟩

set_option maxHeartbeats 1000000 in
theorem digit_any (b : Int) (w : World) : Calls Tryz.prog 51 #[.int .u8 b] w fun e w' => e = .returned (.bool (digI b)) ∧ w = w' := by
  by_cases a1 : 48 ≤ b
  · by_cases a2 : b ≤ 57
    · go_enter Tryz.func51, Tryz.ntmps51
      go_wp2
      go_ret
      exact ⟨ret_bool (by unfold digI; rw [Bool.eq_iff_iff]; simp; omega), rfl⟩
    · go_enter Tryz.func51, Tryz.ntmps51
      go_wp2
      go_ret
      exact ⟨ret_bool (by unfold digI; rw [Bool.eq_iff_iff]; simp; omega), rfl⟩
  · go_enter Tryz.func51, Tryz.ntmps51
    go_wp2
    go_ret
    exact ⟨ret_bool (by unfold digI; rw [Bool.eq_iff_iff]; simp; omega), rfl⟩

/-- A function of bytes. -/
def ByteFn (f : Nat) (p : UInt8 → Bool) : Prop := ∀ (c : UInt8) (w : World), Calls Tryz.prog f #[.int .u8 (c.toNat : Int)] w fun e w' => e = .returned (.bool (p c)) ∧ w = w'

theorem digit_fn : ByteFn 51 digB := fun c w => digit_any _ w
theorem u8_bounds (c : UInt8) : (0 : Int) ≤ (c.toNat : Int) ∧ (c.toNat : Int) ≤ 255 := by have := c.toNat_lt; omega

set_option maxHeartbeats 1000000 in
theorem goes_fn : ByteFn 38 goesB := fun c w => by
  obtain ⟨b0, b1⟩ := u8_bounds c
  have HB := Lib.hid fun w => begins_any (c.toNat : Int) w b0 b1
  have HD := Lib.hid fun w => digit_any (c.toNat : Int) w
  unfold goesB
  cases hp : begI (c.toNat : Int) with
  | true =>
    simp only [hp] at HB
    go_enter Tryz.func38, Tryz.ntmps38
    go_wp2_with fail
    (with_reducible refine (HB.out _).mono ?_)
    rintro e w' ⟨rfl, rfl⟩
    go_wp2_with fail
    go_ret
    exact ⟨rfl, rfl⟩
  | false =>
    simp only [hp] at HB
    cases hd : digI (c.toNat : Int) with
    | true =>
      simp only [hd] at HD
      go_enter Tryz.func38, Tryz.ntmps38
      go_wp2_with fail
      (with_reducible refine (HB.out _).mono ?_)
      rintro e w' ⟨rfl, rfl⟩
      go_wp2_with fail
      (with_reducible refine (HD.out _).mono ?_)
      rintro e w' ⟨rfl, rfl⟩
      go_wp2_with fail
      go_ret
      exact ⟨rfl, rfl⟩
    | false =>
      simp only [hd] at HD
      go_enter Tryz.func38, Tryz.ntmps38
      go_wp2_with fail
      (with_reducible refine (HB.out _).mono ?_)
      rintro e w' ⟨rfl, rfl⟩
      go_wp2_with fail
      (with_reducible refine (HD.out _).mono ?_)
      rintro e w' ⟨rfl, rfl⟩
      go_wp2_with fail
      go_ret
      exact ⟨rfl, rfl⟩

set_option maxHeartbeats 1000000 in
theorem has_any (l : ByteArray) (c : UInt8) (w : World) : Calls Tryz.prog 39 #[.string l, .int .u8 (c.toNat : Int)] w fun e w' => e = .returned (.bool (hasB l.data.toList c)) ∧ w = w' := by
  have HI := Lib.hid fun w => Tryz.strings_IndexByte l (c.toNat : Int) w
  have e1 : ((c.toNat : Int).toNat.toUInt8) = c := by simp
  rw [e1] at HI
  clear e1
  unfold hasB
  obtain ⟨x, hx⟩ : ∃ x, Lib.indexByte l.data.toList c = x := ⟨_, rfl⟩
  rw [hx] at HI ⊢
  clear hx
  go_enter Tryz.func39, Tryz.ntmps39
  go_wp2_with fail
  (with_reducible refine (HI.out _).mono ?_)
  rintro e w' ⟨rfl, rfl⟩
  go_wp2_with fail
  go_ret
  exact ⟨rfl, rfl⟩

set_option maxHeartbeats 1000000 in
theorem sign_fn : ByteFn 40 signB := fun c w => by
  have HI := Lib.hid fun w => has_any signsS c w
  go_enter Tryz.func40, Tryz.ntmps40
  go_wp2_with fail
  (with_reducible refine (HI.out _).mono ?_)
  rintro e w' ⟨rfl, rfl⟩
  go_wp2_with fail
  go_ret
  exact ⟨rfl, rfl⟩

/-- The scanner's text. -/
def ScT (b : Nat) (T : ByteArray) (w : World) : Prop := ∃ m, w.heap[b]? = some (.cells #[m, .string T] 53 (0, 0))
theorem ScT.cell {b : Nat} {T : ByteArray} {w : World} (h : ScT b T w) : w.cell? ⟨b, 1, none⟩ = some (.string T) := by
  obtain ⟨m, h⟩ := h
  rw [Lib.cell_of_heap h]
  rfl
theorem ScT.lt {b : Nat} {T : ByteArray} {w : World} (h : ScT b T w) : b < w.heap.size := by
  obtain ⟨m, h⟩ := h
  exact (Array.getElem?_eq_some_iff.1 h).1
theorem ScT.later {b B : Nat} {T : ByteArray} {w w' : World} (h : ScT b T w) (hb : Below B w w') (hB : b < B) : ScT b T w' := by
  obtain ⟨m, h⟩ := h
  exact ⟨m, (hb.block b hB).trans h⟩

/-- The text from a place on. -/
def from' (T : ByteArray) (k : Nat) : Bs := T.data.toList.drop k
theorem from_nil {T : ByteArray} {k : Nat} (h : T.size ≤ k) : from' T k = [] := List.drop_eq_nil_of_le (by rw [← Lib.size_eq]; exact h)
theorem from_cons {T : ByteArray} {k : Nat} (h : k < T.size) : from' T k = T[k] :: from' T (k + 1) := List.drop_eq_getElem_cons (by simpa using h)
theorem from_len (T : ByteArray) (k : Nat) : (from' T k).length = T.size - k := by unfold from'; rw [List.length_drop, ← Lib.size_eq]
theorem from_add (T : ByteArray) (k n : Nat) : (from' T k).drop n = from' T (k + n) := by unfold from'; rw [List.drop_drop]
theorem from_ext (T : ByteArray) (k : Nat) : (T.extract k T.size).data.toList = from' T k := Lib.extract_to_end T k

/-- How many bytes of a kind a text begins with. -/
def runLen (p : UInt8 → Bool) (l : Bs) : Nat := (l.takeWhile p).length
theorem runLen_le (p : UInt8 → Bool) (l : Bs) : runLen p l ≤ l.length := (List.takeWhile_prefix p).length_le

set_option maxRecDepth 100000 in
set_option maxHeartbeats 2000000 in
theorem while_goes (b : Nat) (T : ByteArray) (k : Nat) (w : World) (hS : ScT b T w) (hk : k ≤ T.size) (hT : T.size ≤ 100000000) :
    Calls Tryz.prog 37 #[.pointer (some ⟨b, 0, none⟩), .int .i64 (k : Int), .func (.func 38) #[] #[]] w fun e w' => e = .returned (.int .i64 ((k + runLen goesB (from' T k) : Nat) : Int)) ∧ w = w' := by
  have c1 := hS.cell
  have HF := Lib.hid goes_fn
  go_enter Tryz.func37, Tryz.ntmps37
  go_wp2_with fail
  go_loop [1] (fun i => ∃ j : Nat, i = .int .i64 j ∧ j ≤ T.size ∧ Hid (j + runLen goesB (from' T j) = k + runLen goesB (from' T k))) (fun i => T.size - (intOf i).toNat)
  case atStart => exact ⟨k, rfl, hk, Lib.hid rfl⟩
  case round =>
    obtain ⟨j, rfl, hj, H⟩ := hrel
    by_cases hlt : j < T.size
    · have hd := from_cons hlt
      cases hp : goesB T[j] with
      | true =>
        have HC := Lib.hid (fun w => HF.out T[j] w)
        simp only [hp] at HC
        have HP := Lib.hid hp
        have HD := Lib.hid hd
        clear hp hd
        go_wp2_with fail
        (with_reducible refine (HC.out _).mono ?_)
        rintro e w' ⟨rfl, rfl⟩
        go_wp2_with fail
        go_round
        case rel => exact ⟨j + 1, by go_num, by omega, Lib.hid (by rw [← H.out, HD.out]; simp [runLen, List.takeWhile_cons, HP.out]; omega)⟩
        case measure => simp [intOf]; omega
      | false =>
        have HC := Lib.hid (fun w => HF.out T[j] w)
        simp only [hp] at HC
        have HP := Lib.hid hp
        have HD := Lib.hid hd
        clear hp hd
        go_wp2_with fail
        (with_reducible refine (HC.out _).mono ?_)
        rintro e w' ⟨rfl, rfl⟩
        go_wp2_with fail
        go_ret
        exact ⟨ret_int (by have h1 := H.out; rw [HD.out] at h1; simp [runLen, List.takeWhile_cons, HP.out] at h1 ⊢; omega), rfl⟩
    · have hd := Lib.hid (from_nil (T := T) (k := j) (by omega))
      go_wp2_with fail
      go_ret
      exact ⟨ret_int (by have h1 := H.out; rw [hd.out] at h1; simp [runLen] at h1 ⊢; omega), rfl⟩
set_option maxRecDepth 100000 in
set_option maxHeartbeats 2000000 in
theorem while_sign (b : Nat) (T : ByteArray) (k : Nat) (w : World) (hS : ScT b T w) (hk : k ≤ T.size) (hT : T.size ≤ 100000000) :
    Calls Tryz.prog 37 #[.pointer (some ⟨b, 0, none⟩), .int .i64 (k : Int), .func (.func 40) #[] #[]] w fun e w' => e = .returned (.int .i64 ((k + runLen signB (from' T k) : Nat) : Int)) ∧ w = w' := by
  have c1 := hS.cell
  have HF := Lib.hid sign_fn
  go_enter Tryz.func37, Tryz.ntmps37
  go_wp2_with fail
  go_loop [1] (fun i => ∃ j : Nat, i = .int .i64 j ∧ j ≤ T.size ∧ Hid (j + runLen signB (from' T j) = k + runLen signB (from' T k))) (fun i => T.size - (intOf i).toNat)
  case atStart => exact ⟨k, rfl, hk, Lib.hid rfl⟩
  case round =>
    obtain ⟨j, rfl, hj, H⟩ := hrel
    by_cases hlt : j < T.size
    · have hd := from_cons hlt
      cases hp : signB T[j] with
      | true =>
        have HC := Lib.hid (fun w => HF.out T[j] w)
        simp only [hp] at HC
        have HP := Lib.hid hp
        have HD := Lib.hid hd
        clear hp hd
        go_wp2_with fail
        (with_reducible refine (HC.out _).mono ?_)
        rintro e w' ⟨rfl, rfl⟩
        go_wp2_with fail
        go_round
        case rel => exact ⟨j + 1, by go_num, by omega, Lib.hid (by rw [← H.out, HD.out]; simp [runLen, List.takeWhile_cons, HP.out]; omega)⟩
        case measure => simp [intOf]; omega
      | false =>
        have HC := Lib.hid (fun w => HF.out T[j] w)
        simp only [hp] at HC
        have HP := Lib.hid hp
        have HD := Lib.hid hd
        clear hp hd
        go_wp2_with fail
        (with_reducible refine (HC.out _).mono ?_)
        rintro e w' ⟨rfl, rfl⟩
        go_wp2_with fail
        go_ret
        exact ⟨ret_int (by have h1 := H.out; rw [HD.out] at h1; simp [runLen, List.takeWhile_cons, HP.out] at h1 ⊢; omega), rfl⟩
    · have hd := Lib.hid (from_nil (T := T) (k := j) (by omega))
      go_wp2_with fail
      go_ret
      exact ⟨ret_int (by have h1 := H.out; rw [hd.out] at h1; simp [runLen] at h1 ⊢; omega), rfl⟩
set_option maxRecDepth 100000 in
set_option maxHeartbeats 2000000 in
theorem while_dig (b : Nat) (T : ByteArray) (k : Nat) (w : World) (hS : ScT b T w) (hk : k ≤ T.size) (hT : T.size ≤ 100000000) :
    Calls Tryz.prog 37 #[.pointer (some ⟨b, 0, none⟩), .int .i64 (k : Int), .func (.func 51) #[] #[]] w fun e w' => e = .returned (.int .i64 ((k + runLen digB (from' T k) : Nat) : Int)) ∧ w = w' := by
  have c1 := hS.cell
  have HF := Lib.hid digit_fn
  go_enter Tryz.func37, Tryz.ntmps37
  go_wp2_with fail
  go_loop [1] (fun i => ∃ j : Nat, i = .int .i64 j ∧ j ≤ T.size ∧ Hid (j + runLen digB (from' T j) = k + runLen digB (from' T k))) (fun i => T.size - (intOf i).toNat)
  case atStart => exact ⟨k, rfl, hk, Lib.hid rfl⟩
  case round =>
    obtain ⟨j, rfl, hj, H⟩ := hrel
    by_cases hlt : j < T.size
    · have hd := from_cons hlt
      cases hp : digB T[j] with
      | true =>
        have HC := Lib.hid (fun w => HF.out T[j] w)
        simp only [hp] at HC
        have HP := Lib.hid hp
        have HD := Lib.hid hd
        clear hp hd
        go_wp2_with fail
        (with_reducible refine (HC.out _).mono ?_)
        rintro e w' ⟨rfl, rfl⟩
        go_wp2_with fail
        go_round
        case rel => exact ⟨j + 1, by go_num, by omega, Lib.hid (by rw [← H.out, HD.out]; simp [runLen, List.takeWhile_cons, HP.out]; omega)⟩
        case measure => simp [intOf]; omega
      | false =>
        have HC := Lib.hid (fun w => HF.out T[j] w)
        simp only [hp] at HC
        have HP := Lib.hid hp
        have HD := Lib.hid hd
        clear hp hd
        go_wp2_with fail
        (with_reducible refine (HC.out _).mono ?_)
        rintro e w' ⟨rfl, rfl⟩
        go_wp2_with fail
        go_ret
        exact ⟨ret_int (by have h1 := H.out; rw [HD.out] at h1; simp [runLen, List.takeWhile_cons, HP.out] at h1 ⊢; omega), rfl⟩
    · have hd := Lib.hid (from_nil (T := T) (k := j) (by omega))
      go_wp2_with fail
      go_ret
      exact ⟨ret_int (by have h1 := H.out; rw [hd.out] at h1; simp [runLen] at h1 ⊢; omega), rfl⟩
end Go.Proofs.YtdkagjbedinhjaaGreat
