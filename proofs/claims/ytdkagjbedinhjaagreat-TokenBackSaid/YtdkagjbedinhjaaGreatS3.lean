/-
  The scanner: a token's text; names with dots.
-/
import Derived.Test.YtdkagjbedinhjaaGreatS2
import Derived.Deep.MidRow
namespace Go.Proofs.YtdkagjbedinhjaaGreat
open Go.RowKit

theorem results_ct {P : Program} {fn : Func} {p q : Tmp} {t : TypeId} (h : fn.results = #[.cell p t, .tmp q]) (tmps : Array Value) (w : World) (a : Addr) (x : Value) (hp : tmps.getD p undef = .pointer (some a)) (h1 : (loadVar t a).run P w = .ok x w) : (results fn tmps).run P w = .ok (.tuple #[x, tmps.getD q undef]) w := by
  have hp' : tmps[p]?.getD undef = .pointer (some a) := by simpa using hp
  simp [results, h, hp', asAddr, h1, Result.andThen]

/-- A token as a value. -/
abbrev tokV (kind : Int) (t : ByteArray) (at_ : Int) : Value := .agg #[.int .i64 kind, .string t, .int .i64 at_]

/-- A token's cells. -/
def TokAt (b : Nat) (kind : Int) (t : ByteArray) (at_ : Int) (w : World) : Prop := w.heap[b]? = some (.cells #[.int .i64 kind, .string t, .int .i64 at_] 35 (0, 0))
theorem TokAt.load {b : Nat} {kind : Int} {t : ByteArray} {at_ : Int} {w : World} (h : TokAt b kind t at_ w) : (loadVar 35 ⟨b, 0, none⟩).run Tryz.prog w = .ok (tokV kind t at_) w := by
  refine run_loadVar_mid _ b 0 35 [.int .i64 kind, .string t, .int .i64 at_] _ (fun j v hv => ?_) Tryz.underlying35 rfl (by kernel_rfl)
  rw [Lib.cell_of_heap h, Nat.zero_add, ← hv]
  exact List.getElem?_toArray

theorem tok_new (w : World) (kind : Int) (t : ByteArray) (at_ : Int) : TokAt w.heap.size kind t at_ (w.alloc (.cells #[.int .i64 kind, .string t, .int .i64 at_] 35)) := Go.heap_alloc_new w _

set_option maxRecDepth 100000 in
set_option maxHeartbeats 2000000 in
theorem token_yes (b : Nat) (T : ByteArray) (kind : Int) (k e : Nat) (w : World) (hS : ScT b T w) (hk : k < e) (he : e ≤ T.size) (hT : T.size ≤ 100000000) :
    Calls Tryz.prog 54 #[.pointer (some ⟨b, 0, none⟩), .int .i64 kind, .int .i64 (k : Int), .int .i64 (e : Int)] w fun x w' => x = .returned (.tuple #[tokV kind (T.extract k e) 0, .int .i64 (e : Int)]) ∧ Below w.heap.size w w' := by
  have c1 : ∀ o, (w.alloc o).cell? ⟨b, 1, none⟩ = some (.string T) := fun o => (hS.later ((Below.refl _ w).alloc (Nat.le_refl _) o) hS.lt).cell
  have C1 := c1 (.cells #[.int .i64 0, .string ⟨#[]⟩, .int .i64 0] 35)
  clear c1 hS
  have hsl := fun w => piece_run T k e (by omega) he k e rfl rfl w
  have h1 : decide ((e : Int) ≤ k) = false := by simp; omega
  go_enter Tryz.func54, Tryz.ntmps54
  go_wp2_with fail
  exact bodyPost_ret (results_ct rfl _ _ ⟨w.heap.size, 0, none⟩ _ rfl (tok_new w kind (T.extract k e) 0).load) rfl ⟨rfl, (Below.refl _ w).alloc (Nat.le_refl _) _⟩

set_option maxRecDepth 100000 in
set_option maxHeartbeats 2000000 in
theorem token_no (b : Nat) (kind : Int) (k e : Nat) (w : World) (hk : e ≤ k) :
    Calls Tryz.prog 54 #[.pointer (some ⟨b, 0, none⟩), .int .i64 kind, .int .i64 (k : Int), .int .i64 (e : Int)] w fun x w' => x = .returned (.tuple #[tokV 0 ⟨#[]⟩ 0, .int .i64 (k : Int)]) ∧ Below w.heap.size w w' := by
  have h1 : decide ((e : Int) ≤ k) = true := by simp; omega
  go_enter Tryz.func54, Tryz.ntmps54
  go_wp2_with fail
  exact bodyPost_ret (results_ct rfl _ _ ⟨w.heap.size, 0, none⟩ _ rfl (tok_new w 0 ⟨#[]⟩ 0).load) rfl ⟨rfl, (Below.refl _ w).alloc (Nat.le_refl _) _⟩

/-- What a candidate of a kind and a length yields at a place. -/
def candTok (T : ByteArray) (k : Nat) (kind : Int) (n : Nat) : Int × ByteArray := if 0 < n then (kind, T.extract k (k + n)) else (0, ⟨#[]⟩)

theorem token_any (b : Nat) (T : ByteArray) (kind : Int) (k n : Nat) (w : World) (hS : ScT b T w) (he : k + n ≤ T.size) (hT : T.size ≤ 100000000) :
    Calls Tryz.prog 54 #[.pointer (some ⟨b, 0, none⟩), .int .i64 kind, .int .i64 (k : Int), .int .i64 ((k + n : Nat) : Int)] w fun x w' => x = .returned (.tuple #[tokV (candTok T k kind n).1 (candTok T k kind n).2 0, .int .i64 ((k + n : Nat) : Int)]) ∧ Below w.heap.size w w' := by
  unfold candTok
  by_cases h : 0 < n
  · rw [if_pos h]
    exact token_yes b T kind k (k + n) w hS (by omega) he hT
  · rw [if_neg h]
    have : n = 0 := by omega
    subst this
    exact token_no b kind k (k + 0) w (by omega)

/-- The length of what goes on behind an identifier: dots with identifiers. -/
def moreF : Nat → Bs → Nat
  | 0, _ => 0
  | f + 1, l => if Lib.hasPrefix l [46] = true ∧ 0 < idLen (l.drop 1) then 1 + idLen (l.drop 1) + moreF f (l.drop (1 + idLen (l.drop 1))) else 0
def moreLen (l : Bs) : Nat := moreF l.length l
theorem dot_lt {l : Bs} (h : Lib.hasPrefix l [46] = true) : 1 + idLen (l.drop 1) ≤ l.length := by
  have := (List.isPrefixOf_iff_prefix.1 h).length_le
  simp at this
  have h2 := idLen_le (l.drop 1)
  rw [List.length_drop] at h2
  omega
theorem moreF_enough : ∀ (f g : Nat) (l : Bs), l.length ≤ f → l.length ≤ g → moreF f l = moreF g l
  | 0, 0, l, _, _ => rfl
  | 0, g + 1, l, h, _ => by
    have : l = [] := List.length_eq_zero_iff.1 (Nat.le_zero.1 h)
    subst this
    simp [moreF, Lib.hasPrefix]
  | f + 1, 0, l, _, h => by
    have : l = [] := List.length_eq_zero_iff.1 (Nat.le_zero.1 h)
    subst this
    simp [moreF, Lib.hasPrefix]
  | f + 1, g + 1, l, hf, hg => by
    unfold moreF
    by_cases h : Lib.hasPrefix l [46] = true ∧ 0 < idLen (l.drop 1)
    · rw [if_pos h, if_pos h, moreF_enough f g _ (by rw [List.length_drop]; omega) (by rw [List.length_drop]; omega)]
    · rw [if_neg h, if_neg h]
theorem moreLen_step (l : Bs) : moreLen l = if Lib.hasPrefix l [46] = true ∧ 0 < idLen (l.drop 1) then 1 + idLen (l.drop 1) + moreLen (l.drop (1 + idLen (l.drop 1))) else 0 := by
  unfold moreLen
  cases hl : l.length with
  | zero =>
    have : l = [] := List.length_eq_zero_iff.1 hl
    subst this
    simp [moreF, Lib.hasPrefix]
  | succ n =>
    conv => lhs; unfold moreF
    by_cases h : Lib.hasPrefix l [46] = true ∧ 0 < idLen (l.drop 1)
    · rw [if_pos h, if_pos h, moreF_enough n _ _ (by rw [List.length_drop]; omega) (Nat.le_refl _)]
    · rw [if_neg h, if_neg h]
def longLen (l : Bs) : Nat := if 0 < idLen l then idLen l + moreLen (l.drop (idLen l)) else 0
theorem moreF_le : ∀ (f : Nat) (l : Bs), moreF f l ≤ l.length
  | 0, l => Nat.zero_le _
  | f + 1, l => by
    unfold moreF
    by_cases h : Lib.hasPrefix l [46] = true ∧ 0 < idLen (l.drop 1)
    · rw [if_pos h]
      have h1 := dot_lt h.1
      have h2 := moreF_le f (l.drop (1 + idLen (l.drop 1)))
      rw [List.length_drop] at h2
      omega
    · rw [if_neg h]
      exact Nat.zero_le _
theorem longLen_le (l : Bs) : longLen l ≤ l.length := by
  unfold longLen
  have h1 := idLen_le l
  have h2 := moreF_le (l.drop (idLen l)).length (l.drop (idLen l))
  split
  · unfold moreLen
    rw [List.length_drop] at h2
    rw [List.length_drop]
    omega
  · omega
theorem longLen_from_le (T : ByteArray) (k : Nat) (h : k ≤ T.size) : k + longLen (from' T k) ≤ T.size := by
  have := longLen_le (from' T k)
  rw [from_len] at this
  omega

theorem more_at {T : ByteArray} {j m : Nat} (hm : j + 1 + idLen (from' T (j + 1)) = m) : moreLen (from' T j) = if Lib.hasPrefix (from' T j) [46] = true ∧ j + 1 < m then m - j + moreLen (from' T m) else 0 := by
  rw [moreLen_step, from_add, from_add]
  subst hm
  rw [Nat.add_assoc j 1]
  by_cases h : Lib.hasPrefix (from' T j) [46] = true ∧ 0 < idLen (from' T (j + 1))
  · rw [if_pos h, if_pos ⟨h.1, by omega⟩]
    omega
  · rw [if_neg h, if_neg (fun x => h ⟨x.1, by omega⟩)]

set_option maxRecDepth 100000 in
set_option maxHeartbeats 4000000 in
theorem long_any (b : Nat) (T : ByteArray) (k : Nat) (w : World) (hS : ScT b T w) (hk : k ≤ T.size) (hT : T.size ≤ 100000000) :
    Calls Tryz.prog 55 #[.pointer (some ⟨b, 0, none⟩), .int .i64 (k : Int)] w fun e w' => e = .returned (.int .i64 ((k + longLen (from' T k) : Nat) : Int)) ∧ w = w' := by
  have c1 := hS.cell
  have HI := Lib.hid (identifier_any b T k w hS hk hT)
  have HE := Lib.hid (idLen_from_le T k hk)
  have HL := Lib.hid (show k + longLen (from' T k) = if 0 < idLen (from' T k) then k + idLen (from' T k) + moreLen (from' T (k + idLen (from' T k))) else k by
    unfold longLen
    rw [from_add]
    split <;> omega)
  have HIn := Lib.hid fun (j : Nat) (h : j + 1 ≤ T.size) => identifier_any b T (j + 1) w hS h hT
  obtain ⟨m, hm⟩ : ∃ m, k + idLen (from' T k) = m := ⟨_, rfl⟩
  have hpos : 0 < idLen (from' T k) ↔ k < m := by omega
  rw [hm] at HI HE HL
  simp only [hpos] at HL
  have hle := HE.out
  have hge : k ≤ m := by omega
  clear hS hpos hm
  go_enter Tryz.func55, Tryz.ntmps55
  go_wp2_with fail
  (with_reducible refine HI.out.mono ?_)
  rintro e w' ⟨rfl, rfl⟩
  go_wp2_with fail
  by_cases hkm : k < m
  · go_loop [5] (fun i => ∃ j : Nat, i = .int .i64 j ∧ k < j ∧ j ≤ T.size ∧ Hid (j + moreLen (from' T j) = k + longLen (from' T k))) (fun i => T.size - (intOf i).toNat)
    case atStart => exact ⟨m, rfl, hkm, hle, Lib.hid (by rw [HL.out, if_pos hkm])⟩
    case round =>
      obtain ⟨j, rfl, hj1, hj2, H⟩ := hrel
      have hgt : decide ((k : Int) < (j : Int)) = true := by simp; omega
      have hle2 : (j : Int) ≤ T.size := by omega
      have hro : (T.extract j T.size).data.toList = from' T j := from_ext T j
      have HPx := Lib.hid fun (w : World) => Tryz.strings_HasPrefix (T.extract j T.size) ⟨#[46]⟩ w
      simp only [hro] at HPx
      clear hro
      obtain ⟨m', hm'⟩ : ∃ m', j + 1 + idLen (from' T (j + 1)) = m' := ⟨_, rfl⟩
      have HM := Lib.hid (more_at hm')
      cases hq : Lib.hasPrefix (from' T j) [46] with
      | false =>
        have hq' : Lib.hasPrefix (from' T j) (⟨#[46]⟩ : ByteArray).data.toList = false := hq
        simp only [hq'] at HPx
        have HQ := Lib.hid hq
        clear hq hq' hm'
        go_wp2_with fail
        (with_reducible refine (HPx.out _).mono ?_)
        rintro e w' ⟨rfl, rfl⟩
        go_wp2_with fail
        go_ret
        exact ⟨ret_int (by rw [← H.out, HM.out, if_neg (fun x => by rw [HQ.out] at x; cases x.1)]; simp), rfl⟩
      | true =>
        have hq' : Lib.hasPrefix (from' T j) (⟨#[46]⟩ : ByteArray).data.toList = true := hq
        simp only [hq'] at HPx
        have HQ := Lib.hid hq
        have h2 : j + 1 ≤ T.size := by
          have := (List.isPrefixOf_iff_prefix.1 hq).length_le
          rw [from_len] at this
          simp at this
          omega
        have HI2 := Lib.hid (HIn.out j h2)
        have HE2 := Lib.hid (idLen_from_le T (j + 1) h2)
        rw [hm', show (((j + 1 : Nat) : Int)) = (j : Int) + 1 by omega] at HI2
        rw [hm'] at HE2
        have hle3 := HE2.out
        have hge3 : j + 1 ≤ m' := by omega
        clear hq hq' hm'
        by_cases hz : m' = j + 1
        · have he : ((m' : Int) == (j : Int) + 1) = true := by simp; omega
          have HZ := Lib.hid hz
          clear hz
          go_wp2_with fail
          (with_reducible refine (HPx.out _).mono ?_)
          rintro e w' ⟨rfl, rfl⟩
          go_wp2_with fail
          (with_reducible refine HI2.out.mono ?_)
          rintro e w' ⟨rfl, rfl⟩
          go_wp2_with fail
          go_ret
          exact ⟨ret_int (by rw [← H.out, HM.out, if_neg (fun x => by rw [HZ.out] at x; omega)]; simp), rfl⟩
        · have he : ((m' : Int) == (j : Int) + 1) = false := by simp; omega
          go_wp2_with fail
          (with_reducible refine (HPx.out _).mono ?_)
          rintro e w' ⟨rfl, rfl⟩
          go_wp2_with fail
          (with_reducible refine HI2.out.mono ?_)
          rintro e w' ⟨rfl, rfl⟩
          go_wp2_with fail
          go_round
          case rel => exact ⟨m', rfl, by omega, hle3, Lib.hid (by rw [← H.out, HM.out, if_pos ⟨HQ.out, by omega⟩]; omega)⟩
          case measure => simp [intOf]; omega
  · have hgt : decide ((k : Int) < (m : Int)) = false := by simp; omega
    refine wp_loop_rounds 1 ?_
    rw [rounds_succ]
    go_wp2_with fail
    go_ret
    exact ⟨ret_int (by rw [HL.out, if_neg hkm]; omega), rfl⟩
end Go.Proofs.YtdkagjbedinhjaaGreat
