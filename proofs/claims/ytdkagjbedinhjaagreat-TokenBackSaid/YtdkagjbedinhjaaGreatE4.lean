/-
  strings.byteStringReplacer's Replace, of any string.
-/
import Derived.Test.YtdkagjbedinhjaaGreatY4
import Derived.Laws.CopyOwn
import Derived.OwnWalk
import Derived.LoopN
import Derived.Deep.Cut
import Derived.Deep.RegionLaw
import Derived.Laws.Cover3
section
namespace Go.Proofs.YtdkagjbedinhjaaGreat
open Go.RowKit Go.Shelf

/-- Bytes that are written as two. -/
def spB (c : UInt8) : Bool := c == 92 || c == 34 || c == 10
def nsp (l : Bs) : Nat := l.countP spB
theorem escOf_plain {c : UInt8} (h : spB c = false) : escOf c = [c] := by
  unfold spB at h
  simp only [Bool.or_eq_false_iff, beq_eq_false_iff_ne] at h
  unfold escOf
  rw [if_neg h.1.1, if_neg h.1.2, if_neg h.2]
theorem escOf_two {c : UInt8} (h : spB c = true) : (escOf c).length = 2 := by
  unfold spB at h
  simp only [Bool.or_eq_true, beq_iff_eq] at h
  unfold escOf
  split
  · rfl
  · split
    · rfl
    · split
      · rfl
      · rename_i h1 h2 h3
        rcases h with (h | h) | h <;> contradiction
theorem esc_app (a b : Bs) : escT (a ++ b) = escT a ++ escT b := by unfold escT; rw [List.flatMap_append]
theorem esc_length : ∀ l : Bs, (escT l).length = l.length + nsp l
  | [] => rfl
  | c :: r => by
    show (escOf c ++ escT r).length = _
    rw [List.length_append, esc_length r]
    unfold nsp
    rw [List.countP_cons, List.length_cons]
    cases h : spB c with
    | true => rw [escOf_two h]; simp; omega
    | false => rw [escOf_plain h]; simp; omega
theorem esc_plain : ∀ l : Bs, nsp l = 0 → escT l = l
  | [], _ => rfl
  | c :: r, h => by
    unfold nsp at h
    rw [List.countP_cons] at h
    show escOf c ++ escT r = _
    have h1 : spB c = false := by
      cases hc : spB c with
      | true => rw [hc] at h; simp at h
      | false => rfl
    rw [escOf_plain h1, esc_plain r (by unfold nsp; omega)]
    rfl
theorem nsp_counts (l : Bs) : nsp l = Lib.countByte l 10 + Lib.countByte l 34 + Lib.countByte l 92 := by
  unfold nsp Lib.countByte
  induction l with
  | nil => rfl
  | cons c r ih =>
    rw [List.countP_cons, List.count_cons, List.count_cons, List.count_cons, ih]
    unfold spB
    by_cases h1 : c = 92
    · subst h1; simp; omega
    · by_cases h2 : c = 34
      · subst h2; simp; omega
      · by_cases h3 : c = 10
        · subst h3; simp; omega
        · simp [h1, h2, h3]

theorem take_snoc' (l : Bs) (k : Nat) (h : k < l.length) : l.take (k + 1) = l.take k ++ [l[k]] := by rw [List.take_append_getElem]
theorem nsp_snoc (l : Bs) (k : Nat) (h : k < l.length) : nsp (l.take (k + 1)) = nsp (l.take k) + (if spB l[k] then 1 else 0) := by
  rw [take_snoc' l k h]
  unfold nsp
  rw [List.countP_append, List.countP_singleton]
theorem esc_snoc (l : Bs) (k : Nat) (h : k < l.length) : escT (l.take (k + 1)) = escT (l.take k) ++ escOf l[k] := by
  rw [take_snoc' l k h, esc_app]
  congr 1
  show escOf l[k] ++ [] = _
  rw [List.append_nil]

def lookS : List Value := [.string ⟨#[10]⟩, .string ⟨#[34]⟩, .string ⟨#[92]⟩]
/-- What a byte's cell of the replacements holds. -/
def ReplAt (c : UInt8) (v : Value) (w : World) : Prop :=
  (spB c = false ∧ v = .slice none 0 0) ∨ (spB c = true ∧ ∃ g cap, v = .slice (some ⟨g, 0, none⟩) 2 cap ∧ g < w.heap.size ∧ ∀ j u, (Lib.byteCells (escOf c))[j]? = some u → w.cell? ⟨g, j, none⟩ = some u)
theorem ReplAt.later {c : UInt8} {v : Value} {w w' : World} (h : ReplAt c v w) (hb : Below w.heap.size w w') : ReplAt c v w' := by
  rcases h with h | ⟨h, g, cap, hv, hg, hc⟩
  · exact .inl h
  · exact .inr ⟨h, g, cap, hv, Nat.lt_of_lt_of_le hg hb.size, fun j u hj => (hb.cell (p := ⟨g, j, none⟩) hg).trans (hc j u hj)⟩
/-- A byteStringReplacer of the three bytes. -/
structure BSR (q : Nat) (w : World) : Prop where
  lt : q < w.heap.size
  each : ∀ c : UInt8, ∃ v, w.cell? ⟨q, c.toNat, none⟩ = some v ∧ ReplAt c v w
  row : ∃ t, w.cell? ⟨q, 256, none⟩ = some (.slice (some ⟨t, 0, none⟩) 3 3) ∧ t < w.heap.size ∧ ∀ j u, lookS[j]? = some u → w.cell? ⟨t, j, none⟩ = some u
theorem BSR.later {q : Nat} {w w' : World} (h : BSR q w) (hb : Below w.heap.size w w') : BSR q w' where
  lt := Nat.lt_of_lt_of_le h.lt hb.size
  each := fun c => by
    obtain ⟨v, hv, hr⟩ := h.each c
    exact ⟨v, (hb.cell (p := ⟨q, c.toNat, none⟩) h.lt).trans hv, hr.later hb⟩
  row := by
    obtain ⟨t, ht, hl, hc⟩ := h.row
    exact ⟨t, (hb.cell (p := ⟨q, 256, none⟩) h.lt).trans ht, Nat.lt_of_lt_of_le hl hb.size, fun j u hj => (hb.cell (p := ⟨t, j, none⟩) hl).trans (hc j u hj)⟩
end Go.Proofs.YtdkagjbedinhjaaGreat
end

section
namespace Go.Proofs.YtdkagjbedinhjaaGreat
open Go.RowKit Go.Shelf

def cnt3 (l : Bs) : Nat → Nat
  | 0 => 0
  | 1 => Lib.countByte l 10
  | 2 => Lib.countByte l 10 + Lib.countByte l 34
  | _ => nsp l
theorem look_step (l : Bs) : ∀ k : Nat, k < 3 → ∃ c : UInt8, lookS[k]? = some (.string ⟨#[c]⟩) ∧ spB c = true ∧ cnt3 l (k + 1) = cnt3 l k + Lib.countByte l c
  | 0, _ => ⟨10, rfl, rfl, by simp [cnt3]⟩
  | 1, _ => ⟨34, rfl, rfl, by simp [cnt3]⟩
  | 2, _ => ⟨92, rfl, rfl, by simp [cnt3, nsp_counts]⟩
theorem count_le (l : Bs) (c : UInt8) : Lib.countByte l c ≤ l.length := by unfold Lib.countByte; exact List.count_le_length
theorem cnt3_le (l : Bs) : ∀ k : Nat, cnt3 l k ≤ 2 * l.length
  | 0 => Nat.zero_le _
  | 1 => by have := count_le l 10; show Lib.countByte l 10 ≤ _; omega
  | 2 => by have := count_le l 10; have := count_le l 34; show Lib.countByte l 10 + Lib.countByte l 34 ≤ _; omega
  | _ + 3 => by have : nsp l ≤ l.length := List.countP_le_length; show nsp l ≤ _; omega

theorem bytes_back (s : ByteArray) : (⟨s.data.toList.toArray⟩ : ByteArray) = s := by cases s; simp
theorem infoU8 : (Tryz.prog.info? 5).map (fun i => (i.zero, i.size, i.bytes)) = some (some (Value.int .u8 0), 1, 1) := by kernel_rfl
theorem neq_some (g n cap : Nat) (w : World) : (binOp .neq 57 (.slice (some ⟨g, 0, none⟩) n cap) (.slice none 0 0)).run Tryz.prog w = .ok (.bool true) w := run_neq_slice_nil w _ 5 _ _ _ Tryz.underlying57
theorem neq_nil (w : World) : (binOp .neq 57 (.slice none 0 0) (.slice none 0 0)).run Tryz.prog w = .ok (.bool false) w := run_neq_slice_nil w _ 5 _ _ _ Tryz.underlying57
theorem infoSize8 : (Tryz.prog.info? 5).map (·.size) = some 1 := by kernel_rfl
theorem one_cells (l : Bs) : ∀ v ∈ Lib.byteCells l, v.oneCell' = true := fun v hv => by
  obtain ⟨b, _, rfl⟩ := List.mem_map.1 hv
  rfl
theorem row_cell (A : Bs) (z : Value) (n : Nat) (h : 1 ≤ n) : (Lib.byteCells A ++ List.replicate n z).toArray[A.length]? = some z := by
  rw [List.getElem?_toArray, List.getElem?_append_right (by rw [Lib.byteCells_length]; exact Nat.le_refl _), Lib.byteCells_length, Nat.sub_self]
  cases n with
  | zero => omega
  | succ n => rfl
theorem row_set (A : Bs) (c : UInt8) (z : Value) (M : Nat) (h : A.length + 1 ≤ M) : ((Lib.byteCells A ++ List.replicate (M - A.length) z).toArray.setIfInBounds A.length (.int .u8 c.toNat)) = (Lib.byteCells (A ++ [c]) ++ List.replicate (M - (A ++ [c]).length) z).toArray := by
  obtain ⟨n, hn⟩ : ∃ n, M = A.length + 1 + n := ⟨M - (A.length + 1), by omega⟩
  subst hn
  rw [show A.length + 1 + n - A.length = n + 1 by omega, List.length_append, show A.length + 1 + n - (A.length + [c].length) = n by simp]
  apply Array.ext'
  rw [Array.toList_setIfInBounds]
  show (Lib.byteCells A ++ List.replicate (n + 1) z).set A.length _ = _
  rw [List.set_append_right _ _ (by rw [Lib.byteCells_length]; exact Nat.le_refl _), Lib.byteCells_length, Nat.sub_self, List.replicate_succ, List.set_cons_zero]
  unfold Lib.byteCells
  simp
theorem row_splice (A E : Bs) (z : Value) (M : Nat) (h : A.length + E.length ≤ M) : splice (Lib.byteCells A ++ List.replicate (M - A.length) z) A.length (Lib.byteCells E) = Lib.byteCells (A ++ E) ++ List.replicate (M - (A ++ E).length) z := by
  have hl : (Lib.byteCells A).length = A.length := Lib.byteCells_length A
  unfold splice
  rw [List.take_append_of_le_length (by omega), List.take_of_length_le (by omega), List.drop_append, List.drop_of_length_le (by omega), List.nil_append, List.drop_replicate, Lib.byteCells_length, Lib.byteCells_length, List.length_append, ← List.append_assoc, show M - A.length - (A.length + E.length - A.length) = M - (A.length + E.length) by omega]
  congr 1
  unfold Lib.byteCells
  simp
theorem made_row {w : World} {B g n : Nat} (h : w.ownsRow B 5 1 (.slice (some ⟨g, 0, none⟩) n n) n (madeCells (Value.int .u8 0).cells (n * 1)).toList) : w.heap[g]? = some (.cells (Lib.byteCells [] ++ List.replicate n (Value.int .u8 0)).toArray 5 (0, 0)) := by
  obtain ⟨_, ⟨h1, _⟩ | ⟨g', cap, cur, hv, _, hh, _, _, hsz, hc⟩⟩ := h
  · cases h1
  · cases hv
    rw [Nat.mul_one] at hc hsz
    rw [List.take_of_length_le (by simp [hsz]), show (Value.int .u8 0).cells = #[Value.int .u8 0] from rfl, toList_madeCells_one] at hc
    have hcur : cur = (Lib.byteCells [] ++ List.replicate n (Value.int .u8 0)).toArray := by
      apply Array.ext'
      rw [hc]
      rfl
    rw [hh, hcur]
theorem esc_le (l : Bs) (k : Nat) : (escT (l.take k)).length ≤ (escT l).length := by
  have h : escT l = escT (l.take k) ++ escT (l.drop k) := by rw [← esc_app, List.take_append_drop]
  rw [h, List.length_append]
  omega
theorem list_get (s : ByteArray) (k : Nat) (h : k < s.size) : s.data.toList[k]'(by rw [← Lib.size_eq]; exact h) = s[k] := by simp; rfl

set_option maxRecDepth 100000 in
set_option maxHeartbeats 4000000 in
theorem bsr_replace (q : Nat) (s : ByteArray) (w : World) (hq : BSR q w) (hs : s.size ≤ 40000) :
    Calls Tryz.prog 124 #[.pointer (some ⟨q, 0, none⟩), .string s] w fun e w' => e = .returned (.string ⟨(escT s.data.toList).toArray⟩) ∧ Below w.heap.size w w' := by
  obtain ⟨t, h256, htl, htc⟩ := hq.row
  have HQ := Lib.hid hq
  have HTL := Lib.hid htl
  have HTC := Lib.hid htc
  have h256' := Lib.hid h256
  clear hq htl htc
  go_enter Tryz.func124, Tryz.ntmps124
  go_upto_if 26 with fail
  go_cut [5, 6] from 16 (fun n b wc => n = .int .i64 ((escT s.data.toList).length : Int) ∧ b = .bool (decide (nsp s.data.toList ≠ 0)) ∧ Below w.heap.size w wc)
  case first =>
    by_cases h24 : 24 ≤ s.size
    · rw [show decide ((24 : Int) ≤ (s.size : Int)) = true from by simp; omega]
      go_wp2_with fail
      go_loopw [5, 6, 32] (fun n b i wr => ∃ k : Nat, i = .int .i64 (k : Int) ∧ k ≤ 3 ∧ n = .int .i64 ((s.size + cnt3 s.data.toList k : Nat) : Int) ∧ b = .bool (decide (cnt3 s.data.toList k ≠ 0)) ∧ Below w.heap.size w wr) (fun _ _ i _ => 3 - (intOf i).toNat)
      case atStart => exact ⟨0, rfl, by decide, rfl, rfl, Below.refl _ _⟩
      case round =>
        obtain ⟨k, rfl, hk, rfl, rfl, hb⟩ := hrel
        have HB := Lib.hid hb
        have HQ' := Lib.hid (HQ.out.later hb)
        clear h256
        by_cases h3 : k < 3
        · obtain ⟨c, hlk, hsp, hst⟩ := look_step s.data.toList k h3
          have hcell : wr.cell? ⟨t, k, none⟩ = some (.string ⟨#[c]⟩) := (hb.cell (p := ⟨t, k, none⟩) HTL.out).trans (HTC.out k _ hlk)
          obtain ⟨v, hv, hr⟩ := HQ'.out.each c
          rcases hr with ⟨h1, _⟩ | ⟨_, g, cap, rfl, _, _⟩
          · rw [hsp] at h1; cases h1
          have HCN := Lib.hid (Tryz.strings_Count_one s c wr)
          have hxl := count_le s.data.toList c
          have hcl := cnt3_le s.data.toList k
          rw [← Lib.size_eq] at hxl hcl
          obtain ⟨x, hx⟩ : ∃ x, Lib.countByte s.data.toList c = x := ⟨_, rfl⟩
          obtain ⟨y, hy⟩ : ∃ y, cnt3 s.data.toList k = y := ⟨_, rfl⟩
          rw [hx] at HCN hst hxl
          rw [hy] at hst hcl ⊢
          have HST := Lib.hid hst
          clear hst hx hy hlk hsp hb
          by_cases hx0 : x = 0
          · subst hx0
            go_wp2_with fail
            (with_reducible refine HCN.out.mono ?_)
            rintro e w' ⟨rfl, rfl⟩
            go_wp2_with fail
            go_round
            case rel => exact ⟨k + 1, by go_num, by omega, by rw [HST.out]; go_num, by rw [HST.out]; simp, HB.out⟩
            case measure => simp [intOf]; omega
          · go_wp2_with fail
            (with_reducible refine HCN.out.mono ?_)
            rintro e w' ⟨rfl, rfl⟩
            have hxi : ((x : Int) != 0) = true := by simp; omega
            have hc256 : c.toNat < 256 := c.toNat_lt
            have hc0 : (⟨#[c]⟩ : ByteArray)[0]'(Nat.zero_lt_one) = c := rfl
            go_wp2_with fail
            go_quiet (fail)
            go_wp2_with fail
            go_round
            case rel => exact ⟨k + 1, by go_num, by omega, by rw [HST.out]; go_num, by rw [HST.out]; simp; omega, below_drewN HB.out _⟩
            case measure => simp [intOf]; omega
        · have h3' : k = 3 := by omega
          subst h3'
          go_wp2_with fail
          go_meet
          case rel => exact ⟨by rw [show cnt3 s.data.toList 3 = nsp s.data.toList from rfl, esc_length, Lib.size_eq], rfl, HB.out⟩
    · rw [show decide ((24 : Int) ≤ (s.size : Int)) = false from by simp; omega]
      go_wp2_with fail
      go_loopw [5, 6, 10] (fun n b i wr => ∃ k : Nat, i = .int .i64 (k : Int) ∧ k ≤ s.size ∧ n = .int .i64 ((s.size + nsp (s.data.toList.take k) : Nat) : Int) ∧ b = .bool (decide (nsp (s.data.toList.take k) ≠ 0)) ∧ Below w.heap.size w wr) (fun _ _ i _ => s.size - (intOf i).toNat)
      case atStart => exact ⟨0, rfl, Nat.zero_le _, rfl, rfl, Below.refl _ _⟩
      case round =>
        obtain ⟨k, rfl, hk, rfl, rfl, hb⟩ := hrel
        have HB := Lib.hid hb
        have HQ' := Lib.hid (HQ.out.later hb)
        clear h256 hb
        by_cases hlt : k < s.size
        · have hst := nsp_snoc s.data.toList k (by rw [← Lib.size_eq]; exact hlt)
          rw [list_get s k hlt] at hst
          have hcl : nsp (s.data.toList.take k) ≤ s.size := by
            have h1 : nsp (s.data.toList.take k) ≤ (s.data.toList.take k).length := List.countP_le_length
            rw [List.length_take, ← Lib.size_eq] at h1
            omega
          obtain ⟨y, hy⟩ : ∃ y, nsp (s.data.toList.take k) = y := ⟨_, rfl⟩
          rw [hy] at hst hcl ⊢
          obtain ⟨v, hv, hr⟩ := HQ'.out.each s[k]
          have hc256 : s[k].toNat < 256 := s[k].toNat_lt
          rcases hr with ⟨h1, rfl⟩ | ⟨h1, g, cap, rfl, _, _⟩
          · rw [h1] at hst
            have HST := Lib.hid hst
            clear hst hy h1
            have hne := neq_nil
            go_wp2_with fail
            go_round
            case rel => exact ⟨k + 1, by go_num, by omega, by rw [HST.out]; go_num, by rw [HST.out]; simp, HB.out⟩
            case measure => simp [intOf]; omega
          · rw [h1] at hst
            have HST := Lib.hid hst
            clear hst hy h1
            have hne := neq_some g 2 cap
            go_wp2_with fail
            go_round
            case rel => exact ⟨k + 1, by go_num, by omega, by rw [HST.out]; go_num, by rw [HST.out]; simp, HB.out⟩
            case measure => simp [intOf]; omega
        · have h3' : k = s.size := by omega
          subst h3'
          go_wp2_with fail
          go_meet
          case rel => exact ⟨by rw [Lib.size_eq, List.take_length, esc_length], by rw [Lib.size_eq, List.take_length], HB.out⟩
  case rest =>
    obtain ⟨rfl, rfl, hbc⟩ := hcut
    have HB := Lib.hid hbc
    have HQ' := Lib.hid (HQ.out.later hbc)
    clear hbc h256
    by_cases hz : nsp s.data.toList = 0
    · have HE := Lib.hid (esc_plain _ hz)
      go_wp2_with fail
      go_ret
      refine ⟨?_, HB.out⟩
      show Ending.returned (.string s) = _
      rw [HE.out, bytes_back]
    · have hn := esc_length s.data.toList
      have hn2 : nsp s.data.toList ≤ s.data.toList.length := List.countP_le_length
      rw [← Lib.size_eq] at hn hn2
      have hN : (escT s.data.toList).length ≤ 80000 := by omega
      clear hn hn2
      obtain ⟨M, hM⟩ : ∃ M, (escT s.data.toList).length = M := ⟨_, rfl⟩
      rw [hM] at hN ⊢
      have HMM := Lib.hid hM
      clear hM
      obtain ⟨i5, hi5, hx0, hx1, hxb⟩ := info_parts infoU8
      go_wp2_with (at_make; refine wpList_make_full _ rfl _ _ 57 rfl wc.heap.size 5 i5 (.int .u8 0) 1 Tryz.underlying57 hi5 hx0 hx1 .i64 .i64 (M : Int) (M : Int) M rfl rfl rfl rfl (by rw [hxb]; omega) (by unfold maxLen; omega) (Nat.le_refl _) ?_; intro w2 ho2 hg2; have HO2 := Lib.hid (made_row ho2); have HB2 := Lib.hid (HB.out.grown hg2 HB.out.size (fun q e => by cases e)); clear ho2 hg2)
      obtain ⟨g, hg⟩ : ∃ g, wc.heap.size = g := ⟨_, rfl⟩
      have HG := Lib.hid (show w.heap.size ≤ g by rw [← hg]; exact HB.out.size)
      rw [hg] at HO2 ⊢
      have HQ2 := Lib.hid (HQ.out.later HB2.out)
      clear HB HQ' hg hi5 hx0 hx1 hxb
      go_loopw [13, 14] (fun j i wr => ∃ k : Nat, i = .int .i64 (k : Int) ∧ k ≤ s.size ∧ j = .int .i64 ((escT (s.data.toList.take k)).length : Int) ∧ Hid (wr.heap[g]? = some (.cells (Lib.byteCells (escT (s.data.toList.take k)) ++ List.replicate (M - (escT (s.data.toList.take k)).length) (Value.int .u8 0)).toArray 5 (0, 0))) ∧ Below w.heap.size w wr) (fun _ i _ => s.size - (intOf i).toNat)
      case atStart => exact ⟨0, rfl, Nat.zero_le _, rfl, HO2, HB2.out⟩
      case round =>
        obtain ⟨k, rfl, hk, rfl, HH, hb⟩ := hrel
        have HB := Lib.hid hb
        have HQ' := Lib.hid (HQ.out.later hb)
        clear hb
        by_cases hlt : k < s.size
        · have hes := esc_snoc s.data.toList k (by rw [← Lib.size_eq]; exact hlt)
          rw [list_get s k hlt] at hes
          have hle := esc_le s.data.toList (k + 1)
          obtain ⟨A, hA⟩ : ∃ A, escT (s.data.toList.take k) = A := ⟨_, rfl⟩
          rw [hA] at hes HH ⊢
          rw [HMM.out] at hle
          rw [hes, List.length_append] at hle
          obtain ⟨v, hv, hr⟩ := HQ'.out.each s[k]
          have hc256 : s[k].toNat < 256 := s[k].toNat_lt
          have HES := Lib.hid hes
          clear hes hA
          rcases hr with ⟨h1, rfl⟩ | ⟨h1, r, cap, rfl, hrl, hrc⟩
          · rw [escOf_plain h1] at HES hle
            have hne := neq_nil
            have hlA : A.length + 1 ≤ M := hle
            have hcj := (Lib.cell_of_heap HH.out A.length).trans (row_cell A _ _ (by omega))
            have hfj := Lib.frozen_of_heap HH.out A.length
            have HS := Lib.hid (heap_setCell_same wr g A.length _ _ (.int .u8 s[k].toNat) HH.out)
            rw [row_set A s[k] _ M hlA] at HS
            clear h1 hle
            go_wp2_with fail
            go_round
            case rel => exact ⟨k + 1, by go_num, by omega, by rw [HES.out]; simp, by rw [HES.out]; exact HS, HB.out.setCell (p := ⟨g, A.length, none⟩) HG.out _⟩
            case measure => simp [intOf]; omega
          · have h2 := escOf_two h1
            have hne := neq_some r 2 cap
            rw [h2] at hle
            have HRC := Lib.hid hrc
            have HSP := Lib.hid (row_splice A (escOf s[k]) (.int .u8 0) M (by rw [h2]; exact hle))
            have hbl : (Lib.byteCells (escOf s[k])).length = 2 := by rw [Lib.byteCells_length]; exact h2
            have HE2 := Lib.hid h2
            have hAM : A.length ≤ M := by omega
            have HHD := Lib.hid (show wr.drew.heap[g]? = some (.cells (Lib.byteCells A ++ List.replicate (M - A.length) (Value.int .u8 0)).toArray 5 (0, 0)) from HH.out)
            have hci : (s[k].toNat : Int) < 256 := by omega
            have hAne : ¬ M = A.length := by omega
            clear h1 hrc h2
            go_wp2_with fail
            go_region_law (refine step_copy_splice rfl (.tmp 105) (.tmp 111) 57 57 rfl 5 Tryz.underlying57 infoSize8 (some ⟨g, A.length, none⟩) (some ⟨r, 0, none⟩) (M - A.length) (M - A.length) 2 cap rfl rfl g A.length (Lib.byteCells A ++ List.replicate (M - A.length) (Value.int .u8 0)) 5 HHD.out (Lib.byteCells (escOf s[k])) (by rw [hbl]; exact (Nat.min_eq_left (by omega)).symm) (fun _ => ⟨rfl, ⟨r, 0, none⟩, rfl, fun j v hj => by rw [Addr.add_lit, Nat.zero_add]; exact HRC.out j v hj⟩) (by rw [hbl, List.length_append, Lib.byteCells_length, List.length_replicate]; omega) (one_cells _) w.heap.size w HB.out.drew HG.out ?_; intro w4 hg4 hb4)
            rw [HSP.out] at hg4
            have HB4 := Lib.hid hb4
            clear hb4
            go_wp2_with fail
            go_round
            case rel => exact ⟨k + 1, by go_num, by omega, by rw [HES.out, List.length_append, HE2.out]; simp, by rw [HES.out]; exact hg4, HB4.out⟩
            case measure => simp [intOf]; omega
        · have h3' : k = s.size := by omega
          subst h3'
          rw [Lib.size_eq, List.take_length, HMM.out, Nat.sub_self] at HH
          have hback := run_convert_bytes_back (P := Tryz.prog) wr 57 9 5 ⟨g, 0, none⟩ M (escT s.data.toList) Tryz.underlying57 Tryz.underlying5 Tryz.underlying9 (fun j hj => by
            rw [Addr.add_lit, Nat.zero_add, Lib.cell_of_heap HH.out, List.getElem?_toArray]
            unfold Lib.byteCells
            simp [hj])
          rw [HMM.out] at hback
          go_wp2_with fail
          go_ret
          exact ⟨rfl, HB.out⟩
end Go.Proofs.YtdkagjbedinhjaaGreat
end

