/-
  The reference's Symbols and Plain.
-/
import Derived.Test.YtlpopbpddfegfaaB4
import Derived.WalkSpells
import Derived.Lib.Bytes2
namespace Go.Proofs.Ytlpopbpddfegfaa
open Go.RowKit

/-- A piece of a string. -/
theorem piece_run (s : ByteArray) (a b : Nat) (h1 : a ≤ b) (h2 : b ≤ s.size) (x y : Int) (hx : x = a) (hy : y = b) (w : World) : (Instr.slice 9 (.string s) (some (.int .i64 x)) (some (.int .i64 y)) none).run Try.prog w = .ok (.string (s.extract a b)) w := by
  subst hx hy
  have := run_slice_string (P := Try.prog) w 9 s .i64 .i64 (a : Int) (b : Int) Try.underlying9 (by omega) (by omega) (by omega)
  simpa using this

theorem prefix_piece (s t : ByteArray) (k : Nat) (h : k + t.size ≤ s.size) : ((s.extract k (k + t.size)).toList == t.toList) = Lib.hasPrefix (s.data.toList.drop k) t.data.toList := by
  have := Lib.hasPrefix_raw (s.extract k s.size) t
  rw [Lib.extract_to_end] at this
  rw [← this]
  have e : (s.extract k s.size).extract 0 t.size = s.extract k (k + t.size) := by
    rw [ByteArray.extract_extract]
    congr 1
    omega
  rw [e]
  have : t.size ≤ (s.extract k s.size).size := by simp; omega
  rw [decide_eq_true this, Bool.true_and]

set_option maxRecDepth 100000 in
set_option maxHeartbeats 2000000 in
theorem starts_any (s t : ByteArray) (k : Nat) (w : World) (hk : k ≤ s.size) (hs : s.size ≤ 100000000) (ht : t.size ≤ 1000) : Calls Try.prog 27 #[.string s, .int .i64 k, .string t] w fun e w' => e = .returned (.bool (Lib.hasPrefix (s.data.toList.drop k) t.data.toList)) ∧ w = w' := by
  by_cases h : k + t.size ≤ s.size
  · have h1 : decide ((k : Int) + t.size ≤ s.size) = true := by simp; omega
    have hsl := fun w => piece_run s k (k + t.size) (by omega) h k (k + t.size) rfl (by simp) w
    have hpp := Lib.hid (prefix_piece s t k h)
    clear h
    go_enter Try.func27, Try.ntmps27
    go_wp2_with fail
    go_ret
    exact ⟨by rw [← hpp.out]; rfl, rfl⟩
  · have h1 : decide ((k : Int) + t.size ≤ s.size) = false := by simp; omega
    go_enter Try.func27, Try.ntmps27
    go_wp2_with fail
    go_ret
    refine ⟨?_, rfl⟩
    have : Lib.hasPrefix (s.data.toList.drop k) t.data.toList = false := by
      cases hh : Lib.hasPrefix (s.data.toList.drop k) t.data.toList with
      | false => rfl
      | true =>
        have := Lib.hasPrefix_le hh
        rw [List.length_drop, ← Lib.size_eq, ← Lib.size_eq] at this
        omega
    rw [this]
    rfl

theorem pairs_laid (w : World) : ∃ W, w.alloc (.cells signCells 9) = W ∧ Below w.heap.size w W ∧ Tab w.heap.size W :=
  ⟨_, rfl, (Below.refl _ w).alloc (Nat.le_refl _) _, ⟨9, Go.heap_alloc_new w (.cells signCells 9)⟩⟩

theorem stepL_some (d : Bool) {L : Bs} {k : Nat} (hno : ∀ (j : Nat) (q : Bs × Bs), j < k → pairsL[j]? = some q → Lib.hasPrefix L (fromOf d q) = false) (hk : k < 10) {f t : ByteArray} (hf : fromOf d ((sB k).data.toList, (yB k).data.toList) = f.data.toList) (ht : toOf d ((sB k).data.toList, (yB k).data.toList) = t.data.toList) (hp : Lib.hasPrefix L f.data.toList = true) : stepOf d L = (f.data.toList, t.data.toList) := by
  rw [step_hit (sign_at hk) hno (by rw [hf]; exact hp), hf, ht]

theorem hitsL_more (d : Bool) {L : Bs} {k : Nat} (hno : ∀ (j : Nat) (q : Bs × Bs), j < k → pairsL[j]? = some q → Lib.hasPrefix L (fromOf d q) = false) (hk : k < 10) {f : ByteArray} (hf : fromOf d ((sB k).data.toList, (yB k).data.toList) = f.data.toList) (hp : Lib.hasPrefix L f.data.toList = false) : ∀ (j : Nat) (q : Bs × Bs), j < k + 1 → pairsL[j]? = some q → Lib.hasPrefix L (fromOf d q) = false := by
  intro j q hj hq
  by_cases h : j < k
  · exact hno j q h hq
  · have : j = k := by omega
    subst this
    rw [sign_at hk] at hq
    cases hq
    rw [hf]
    exact hp

theorem ext_one {s : ByteArray} {k : Nat} (h : k < s.size) : (s.extract k (k + 1)).size = 1 := by
  rw [ByteArray.size_extract]
  omega

theorem stepL_none (d : Bool) {s : ByteArray} {k j : Nat} (hj : j ≤ 10) (hlt : ¬ j < 10) (hno : ∀ (l : Nat) (q : Bs × Bs), l < j → pairsL[l]? = some q → Lib.hasPrefix (s.data.toList.drop k) (fromOf d q) = false) (hk : k < s.size) : stepOf d (s.data.toList.drop k) = ((s.extract k (k + 1)).data.toList, (s.extract k (k + 1)).data.toList) := by
  have : j = 10 := by omega
  subst this
  rw [step_miss fun l q hq => hno l q (by have := (List.getElem?_eq_some_iff.1 hq).1; exact this) hq]
  rw [Lib.extract_data, Nat.add_sub_cancel_left]

theorem stepL_sizes {d : Bool} {L : Bs} {f t : ByteArray} (h : stepOf d L = (f.data.toList, t.data.toList)) (hr : ¬ L = []) : 1 ≤ f.size ∧ f.size ≤ L.length ∧ t.size ≤ 18 := by
  have := step_len d hr
  rw [h] at this
  simp only [← Lib.size_eq] at this
  exact this

theorem outL_step {d : Bool} {l S : Bs} {k : Nat} {f t o : ByteArray} (h : stepOf d (l.drop k) = (f.data.toList, t.data.toList)) (hr : ¬ l.drop k = []) (ho : o.data.toList ++ repl d (l.drop k) = S) : (o ++ t).data.toList ++ repl d (l.drop (k + f.size)) = S := by
  rw [← ho, repl_step d hr, h, Lib.size_eq f, List.drop_drop]
  simp

theorem sB_size : ∀ {k : Nat}, k < 10 → (sB k).size ≤ 18 ∧ (yB k).size ≤ 18
  | 0, _ => by decide | 1, _ => by decide | 2, _ => by decide | 3, _ => by decide | 4, _ => by decide
  | 5, _ => by decide | 6, _ => by decide | 7, _ => by decide | 8, _ => by decide | 9, _ => by decide
  | k + 10, h => absurd h (by omega)

set_option maxRecDepth 100000 in
set_option maxHeartbeats 2000000 in
theorem replaced_true (s : ByteArray) (w : World) (hs : s.size ≤ 1000000) : Calls Try.prog 16 #[.string s, .int .i64 0, .int .i64 1] w fun e w' => e = .returned (.string ⟨(repl true s.data.toList).toArray⟩) ∧ Below w.heap.size w w' := by
  have HT := Lib.hid (pairs_table w)
  have HL := Lib.hid (pairs_laid w)
  go_enter Try.func16, Try.ntmps16
  go_wp2_with fail
  (with_reducible refine HT.out.mono ?_)
  rintro e w1 ⟨rfl, rfl⟩
  go_wp2_with fail
  obtain ⟨W, hW, HB, HTab⟩ := HL.out
  rw [hW]
  clear hW HL HT
  have HB := Lib.hid HB
  have HTab := Lib.hid HTab
  go_loop [8, 9] (fun o i => ∃ (k : Nat) (out : ByteArray), i = .int .i64 k ∧ o = .string out ∧ k ≤ s.size ∧ Hid (out.data.toList ++ repl true (s.data.toList.drop k) = repl true s.data.toList) ∧ out.size + 18 * (s.size - k) ≤ 18 * s.size) (fun _ i => s.size - (intOf i).toNat)
  case atStart => exact ⟨0, ⟨#[]⟩, rfl, rfl, by omega, Lib.hid (by simp), by show 0 + 18 * (s.size - 0) ≤ _; omega⟩
  case round =>
    obtain ⟨k, out, rfl, rfl, hk, H1, h2⟩ := hrel
    by_cases hlt : k < s.size
    · have hr : ¬ s.data.toList.drop k = [] := by
        intro h
        have := congrArg List.length h
        rw [List.length_drop, ← Lib.size_eq] at this
        simp at this
        omega
      have hr := Lib.hid hr
      go_wp2_with fail
      go_loop [10] (fun i => ∃ j : Nat, j ≤ 10 ∧ i = .int .i64 (2 * (j : Int)) ∧ Hid (∀ (l : Nat) (q : Bs × Bs), l < j → pairsL[l]? = some q → Lib.hasPrefix (s.data.toList.drop k) (fromOf true q) = false)) (fun i => 20 - (intOf i).toNat)
      case atStart => exact ⟨0, by omega, rfl, Lib.hid fun l q h => absurd h (by omega)⟩
      case round =>
        obtain ⟨j, hj, rfl, HN⟩ := hrel
        by_cases hjl : j < 10
        · obtain ⟨c0, c1⟩ := HTab.out.cells hjl
          have hz := sB_size hjl
          rw [Nat.mul_comm j 2] at c0 c1
          go_wp2_with fail
          (with_reducible refine (starts_any s (sB j) k _ hk (by omega) (by omega)).mono ?_)
          rintro e w2 ⟨rfl, rfl⟩
          cases hp : Lib.hasPrefix (s.data.toList.drop k) (sB j).data.toList with
          | true =>
            have HSt := Lib.hid (stepL_some true HN.out hjl (f := sB j) (t := yB j) rfl rfl hp)
            have hsz := stepL_sizes HSt.out hr.out
            rw [List.length_drop, ← Lib.size_eq] at hsz
            go_wp2_with fail
            go_round
            case rel => exact ⟨k + (sB j).size, out ++ yB j, by go_num, rfl, by omega, Lib.hid (outL_step HSt.out hr.out H1.out), by rw [ByteArray.size_append]; omega⟩
            case measure => simp [intOf]; omega
          | false =>
            go_wp2_with fail
            go_round
            case rel => exact ⟨j + 1, by omega, by go_num, Lib.hid (hitsL_more true HN.out hjl (f := sB j) rfl hp)⟩
            case measure => simp [intOf]; omega
        · have HSt := Lib.hid (stepL_none true hj hjl HN.out hlt)
          have hpc := fun w => piece_run s k (k + 1) (by omega) (by omega) k (k + 1) rfl (by simp) w
          go_wp2_with fail
          go_round
          case rel => exact ⟨k + 1, out ++ s.extract k (k + 1), by go_num, rfl, by omega, Lib.hid (by have := outL_step HSt.out hr.out H1.out; rwa [ext_one hlt] at this), by rw [ByteArray.size_append, ext_one hlt]; omega⟩
          case measure => simp [intOf]; omega
    · go_wp2_with fail
      go_ret
      have hk' : k = s.size := by omega
      have := H1.out
      rw [hk', List.drop_of_length_le (by rw [← Lib.size_eq]; exact Nat.le_refl _), repl_nil, List.append_nil] at this
      exact ⟨by rw [← this, Lib.mk_data]; rfl, HB.out⟩

set_option maxRecDepth 100000 in
set_option maxHeartbeats 2000000 in
theorem replaced_false (s : ByteArray) (w : World) (hs : s.size ≤ 1000000) : Calls Try.prog 16 #[.string s, .int .i64 1, .int .i64 0] w fun e w' => e = .returned (.string ⟨(repl false s.data.toList).toArray⟩) ∧ Below w.heap.size w w' := by
  have HT := Lib.hid (pairs_table w)
  have HL := Lib.hid (pairs_laid w)
  go_enter Try.func16, Try.ntmps16
  go_wp2_with fail
  (with_reducible refine HT.out.mono ?_)
  rintro e w1 ⟨rfl, rfl⟩
  go_wp2_with fail
  obtain ⟨W, hW, HB, HTab⟩ := HL.out
  rw [hW]
  clear hW HL HT
  have HB := Lib.hid HB
  have HTab := Lib.hid HTab
  go_loop [8, 9] (fun o i => ∃ (k : Nat) (out : ByteArray), i = .int .i64 k ∧ o = .string out ∧ k ≤ s.size ∧ Hid (out.data.toList ++ repl false (s.data.toList.drop k) = repl false s.data.toList) ∧ out.size + 18 * (s.size - k) ≤ 18 * s.size) (fun _ i => s.size - (intOf i).toNat)
  case atStart => exact ⟨0, ⟨#[]⟩, rfl, rfl, by omega, Lib.hid (by simp), by show 0 + 18 * (s.size - 0) ≤ _; omega⟩
  case round =>
    obtain ⟨k, out, rfl, rfl, hk, H1, h2⟩ := hrel
    by_cases hlt : k < s.size
    · have hr : ¬ s.data.toList.drop k = [] := by
        intro h
        have := congrArg List.length h
        rw [List.length_drop, ← Lib.size_eq] at this
        simp at this
        omega
      have hr := Lib.hid hr
      go_wp2_with fail
      go_loop [10] (fun i => ∃ j : Nat, j ≤ 10 ∧ i = .int .i64 (2 * (j : Int)) ∧ Hid (∀ (l : Nat) (q : Bs × Bs), l < j → pairsL[l]? = some q → Lib.hasPrefix (s.data.toList.drop k) (fromOf false q) = false)) (fun i => 20 - (intOf i).toNat)
      case atStart => exact ⟨0, by omega, rfl, Lib.hid fun l q h => absurd h (by omega)⟩
      case round =>
        obtain ⟨j, hj, rfl, HN⟩ := hrel
        by_cases hjl : j < 10
        · obtain ⟨c0, c1⟩ := HTab.out.cells hjl
          have hz := sB_size hjl
          rw [Nat.mul_comm j 2] at c0 c1
          go_wp2_with fail
          (with_reducible refine (starts_any s (yB j) k _ hk (by omega) (by omega)).mono ?_)
          rintro e w2 ⟨rfl, rfl⟩
          cases hp : Lib.hasPrefix (s.data.toList.drop k) (yB j).data.toList with
          | true =>
            have HSt := Lib.hid (stepL_some false HN.out hjl (f := yB j) (t := sB j) rfl rfl hp)
            have hsz := stepL_sizes HSt.out hr.out
            rw [List.length_drop, ← Lib.size_eq] at hsz
            go_wp2_with fail
            go_round
            case rel => exact ⟨k + (yB j).size, out ++ sB j, by go_num, rfl, by omega, Lib.hid (outL_step HSt.out hr.out H1.out), by rw [ByteArray.size_append]; omega⟩
            case measure => simp [intOf]; omega
          | false =>
            go_wp2_with fail
            go_round
            case rel => exact ⟨j + 1, by omega, by go_num, Lib.hid (hitsL_more false HN.out hjl (f := yB j) rfl hp)⟩
            case measure => simp [intOf]; omega
        · have HSt := Lib.hid (stepL_none false hj hjl HN.out hlt)
          have hpc := fun w => piece_run s k (k + 1) (by omega) (by omega) k (k + 1) rfl (by simp) w
          go_wp2_with fail
          go_round
          case rel => exact ⟨k + 1, out ++ s.extract k (k + 1), by go_num, rfl, by omega, Lib.hid (by have := outL_step HSt.out hr.out H1.out; rwa [ext_one hlt] at this), by rw [ByteArray.size_append, ext_one hlt]; omega⟩
          case measure => simp [intOf]; omega
    · go_wp2_with fail
      go_ret
      have hk' : k = s.size := by omega
      have := H1.out
      rw [hk', List.drop_of_length_le (by rw [← Lib.size_eq]; exact Nat.le_refl _), repl_nil, List.append_nil] at this
      exact ⟨by rw [← this, Lib.mk_data]; rfl, HB.out⟩

set_option maxRecDepth 100000 in
set_option maxHeartbeats 1000000 in
theorem symbols_any (s : ByteArray) (w : World) (hs : s.size ≤ 1000000) : Calls Try.prog 6 #[.string s] w fun e w' => e = .returned (.string ⟨(repl true s.data.toList).toArray⟩) ∧ Below w.heap.size w w' := by
  go_enter Try.func6, Try.ntmps6
  go_wp2_with fail
  (with_reducible refine (replace_true s _ hs).mono ?_)
  rintro e w1 ⟨rfl, hb⟩
  have HB := Lib.hid hb
  clear hb
  go_wp2_with fail
  go_ret
  exact ⟨rfl, HB.out⟩

set_option maxRecDepth 100000 in
set_option maxHeartbeats 1000000 in
theorem plain_any (s : ByteArray) (w : World) (hs : s.size ≤ 1000000) : Calls Try.prog 8 #[.string s] w fun e w' => e = .returned (.string ⟨(repl false s.data.toList).toArray⟩) ∧ Below w.heap.size w w' := by
  go_enter Try.func8, Try.ntmps8
  go_wp2_with fail
  (with_reducible refine (replace_false s _ hs).mono ?_)
  rintro e w1 ⟨rfl, hb⟩
  have HB := Lib.hid hb
  clear hb
  go_wp2_with fail
  go_ret
  exact ⟨rfl, HB.out⟩

set_option maxRecDepth 100000 in
set_option maxHeartbeats 1000000 in
theorem refSymbols_any (s : ByteArray) (w : World) (hs : s.size ≤ 1000000) : Calls Try.prog 7 #[.string s] w fun e w' => e = .returned (.string ⟨(repl true s.data.toList).toArray⟩) ∧ Below w.heap.size w w' := by
  go_enter Try.func7, Try.ntmps7
  go_wp2_with fail
  (with_reducible refine (replaced_true s _ hs).mono ?_)
  rintro e w1 ⟨rfl, hb⟩
  have HB := Lib.hid hb
  clear hb
  go_wp2_with fail
  go_ret
  exact ⟨rfl, HB.out⟩

set_option maxRecDepth 100000 in
set_option maxHeartbeats 1000000 in
theorem refPlain_any (s : ByteArray) (w : World) (hs : s.size ≤ 1000000) : Calls Try.prog 9 #[.string s] w fun e w' => e = .returned (.string ⟨(repl false s.data.toList).toArray⟩) ∧ Below w.heap.size w w' := by
  go_enter Try.func9, Try.ntmps9
  go_wp2_with fail
  (with_reducible refine (replaced_false s _ hs).mono ?_)
  rintro e w1 ⟨rfl, hb⟩
  have HB := Lib.hid hb
  clear hb
  go_wp2_with fail
  go_ret
  exact ⟨rfl, HB.out⟩

end Go.Proofs.Ytlpopbpddfegfaa
