/-
  The scanner's quotations.
-/
import Derived.Test.YtdkagjbedinhjaaGreatV3
import Derived.WalkLawsBesides
namespace Go.Proofs.YtdkagjbedinhjaaGreat
open Go.RowKit

/-- A candidate that leaves by a fault. -/
def faultV (k : Nat) (code : Int) : Value := .iface 50 (.agg #[.int .i64 (k : Int), .int .i64 code])
def CandP (f b k : Nat) (w : World) (at_ : Nat) (code : Int) : Prop :=
  Calls Tryz.prog f #[.pointer (some ⟨b, 0, none⟩), .int .i64 (k : Int)] w fun x w' => x = .panicked [{ v := faultV at_ code, recovered := false }] ∧ Below w.heap.size w w'

def openL : Bs := [92, 60, 111, 112, 101, 110, 62]
def closeL : Bs := [92, 60, 99, 108, 111, 115, 101, 62]

theorem nest_bounds (p q : Bs) : ∀ (f : Nat) (l : Bs) (d : Int) (n : Nat), 1 ≤ d → nestF p q f l d = some n → q.length ≤ n ∧ n ≤ l.length
  | 0, _, _, _, _, h => by simp [nestF] at h
  | f + 1, l, d, n, hd, h => by
    unfold nestF at h
    by_cases hl : l = []
    · rw [if_pos hl] at h; cases h
    · rw [if_neg hl] at h
      have l1 : 1 ≤ l.length := List.length_pos_iff.2 hl
      by_cases hp : Lib.hasPrefix l p = true
      · rw [if_pos hp, if_neg (by omega)] at h
        obtain ⟨m, hm, rfl⟩ := Option.map_eq_some_iff.1 h
        have := nest_bounds p q f _ _ m (by omega) hm
        have hpl := (List.isPrefixOf_iff_prefix.1 hp).length_le
        rw [List.length_drop] at this
        omega
      · rw [if_neg hp] at h
        by_cases hq : Lib.hasPrefix l q = true
        · rw [if_pos hq] at h
          have hql := (List.isPrefixOf_iff_prefix.1 hq).length_le
          by_cases h0 : d - 1 = 0
          · rw [if_pos h0] at h
            cases h
            exact ⟨Nat.le_refl _, hql⟩
          · rw [if_neg h0] at h
            obtain ⟨m, hm, rfl⟩ := Option.map_eq_some_iff.1 h
            have := nest_bounds p q f _ _ m (by omega) hm
            rw [List.length_drop] at this
            omega
        · rw [if_neg hq, if_neg (by omega)] at h
          obtain ⟨m, hm, rfl⟩ := Option.map_eq_some_iff.1 h
          have := nest_bounds p q f _ _ m (by omega) hm
          rw [List.length_drop] at this
          omega
theorem nest_from (p q : Bs) (hp0 : p ≠ []) (hq0 : q ≠ []) {l : Bs} {n : Nat} (hp : Lib.hasPrefix l p = true) (h : nestL p q l 0 = some n) : p.length + q.length ≤ n ∧ n ≤ l.length := by
  have hpl := (List.isPrefixOf_iff_prefix.1 hp).length_le
  have p1 : 1 ≤ p.length := List.length_pos_iff.2 hp0
  have hl : l ≠ [] := fun e => by rw [e] at hpl; have h0 : p.length ≤ 0 := hpl; omega
  rw [nestL_step p q hp0 hq0 hl, if_pos hp, if_neg (by omega)] at h
  obtain ⟨m, hm, rfl⟩ := Option.map_eq_some_iff.1 h
  have := nest_bounds p q _ _ _ m (by omega) hm
  rw [List.length_drop] at this
  omega

set_option maxRecDepth 100000 in
set_option maxHeartbeats 4000000 in
theorem quotation_some (b : Nat) (T : ByteArray) (k n : Nat) (w : World) (hS : ScT b T w) (hk : k ≤ T.size) (hT : T.size ≤ 100000000) (h1 : Lib.hasPrefix (from' T k) openL = true) (hn : nestL openL closeL (from' T k) 0 = some n) :
    CandC 47 b k w 9 (T.extract (k + 7) (k + n - 8)) (k + n) := by
  unfold CandC
  obtain ⟨W, hW, hb, hz, ht⟩ := res_laid w
  have hS2 := hS.later hb hS.lt
  have c1 := hS2.cell
  have c1' := c1
  rw [← hW] at c1'
  have hro : (T.extract k T.size).data.toList = from' T k := from_ext T k
  have P1 := Lib.hid fun (w : World) => Tryz.strings_HasPrefix (T.extract k T.size) ⟨#[92, 60, 111, 112, 101, 110, 62]⟩ w
  simp only [hro] at P1
  have e1 : Lib.hasPrefix (from' T k) (⟨#[92, 60, 111, 112, 101, 110, 62]⟩ : ByteArray).data.toList = true := h1
  simp only [e1] at P1
  have hnb := nest_from openL closeL (by decide) (by decide) h1 hn
  rw [from_len] at hnb
  have hnb1 : 15 ≤ n := hnb.1
  have hN := nested_any b T ⟨#[92, 60, 111, 112, 101, 110, 62]⟩ ⟨#[92, 60, 99, 108, 111, 115, 101, 62]⟩ k W hS2 hk hT (by decide) (by decide)
  have e2 : nestI (nestL (⟨#[92, 60, 111, 112, 101, 110, 62]⟩ : ByteArray).data.toList (⟨#[92, 60, 99, 108, 111, 115, 101, 62]⟩ : ByteArray).data.toList (from' T k) 0) k = ((k + n : Nat) : Int) := by
    show nestI (nestL openL closeL (from' T k) 0) k = _
    rw [hn]
    rfl
  rw [e2] at hN
  have HN := Lib.hid hN
  have pc := fun w => piece_run T (k + 7) (k + n - 8) (by omega) (by omega) ((k : Int) + 7) (((k + n : Nat) : Int) - 8) (by omega) (by omega) w
  obtain ⟨tx, htx⟩ : ∃ tx, T.extract (k + 7) (k + n - 8) = tx := ⟨_, rfl⟩
  simp only [htx] at pc
  rw [htx]
  have hge : decide (((k + n : Nat) : Int) < 0) = false := by simp; omega
  have HW := Lib.hid hW
  have HB := Lib.hid hb
  have HZ := Lib.hid hz
  have HT := Lib.hid ht
  have hle : (k : Int) ≤ T.size := by omega
  have hle2 : k + n ≤ T.size := by omega
  obtain ⟨m, hm⟩ : ∃ m, k + n = m := ⟨_, rfl⟩
  rw [hm] at HN pc hge hle2
  rw [hm]
  have HS2 := Lib.hid hS2
  clear hW hb hz ht hS h1 e1 hro hS2 hN e2 hn htx hnb hm
  go_enter Tryz.func47, Tryz.ntmps47
  go_wp2_with fail
  rw [HW.out]
  clear c1'
  (with_reducible refine (P1.out _).mono ?_)
  rintro e w' ⟨rfl, rfl⟩
  go_wp2_with fail
  (with_reducible refine HN.out.mono ?_)
  rintro e w2 ⟨rfl, hb2⟩
  have ht2 := HT.out.later hb2 (by have := HZ.out; omega)
  obtain ⟨q0, q1, q2, f0, f1, f2⟩ := ht2.cells
  have c2 := (HS2.out.later hb2 HS2.out.lt).cell
  have HB2 := Lib.hid hb2
  have HT2 := Lib.hid ht2
  clear hb2 ht2 c1
  go_wp2_with fail
  exact bodyPost_ret (results_ct rfl _ _ ⟨w.heap.size, 0, none⟩ _ rfl (HT2.out.put _ _ _).load) rfl ⟨rfl, below_put (HB.out.trans (HB2.out.mono (by have := HZ.out; omega))) (Nat.le_refl _) _ _ _⟩

set_option maxRecDepth 100000 in
set_option maxHeartbeats 4000000 in
theorem quotation_bad (b : Nat) (T : ByteArray) (k : Nat) (w : World) (hS : ScT b T w) (hk : k ≤ T.size) (hT : T.size ≤ 100000000) (h1 : Lib.hasPrefix (from' T k) openL = true) (hn : nestL openL closeL (from' T k) 0 = none) :
    CandP 47 b k w k 161 := by
  unfold CandP faultV
  obtain ⟨W, hW, hb, hz, ht⟩ := res_laid w
  have hS2 := hS.later hb hS.lt
  have c1 := hS2.cell
  have c1' := c1
  rw [← hW] at c1'
  have hro : (T.extract k T.size).data.toList = from' T k := from_ext T k
  have P1 := Lib.hid fun (w : World) => Tryz.strings_HasPrefix (T.extract k T.size) ⟨#[92, 60, 111, 112, 101, 110, 62]⟩ w
  simp only [hro] at P1
  have e1 : Lib.hasPrefix (from' T k) (⟨#[92, 60, 111, 112, 101, 110, 62]⟩ : ByteArray).data.toList = true := h1
  simp only [e1] at P1
  have hN := nested_any b T ⟨#[92, 60, 111, 112, 101, 110, 62]⟩ ⟨#[92, 60, 99, 108, 111, 115, 101, 62]⟩ k W hS2 hk hT (by decide) (by decide)
  have e2 : nestI (nestL (⟨#[92, 60, 111, 112, 101, 110, 62]⟩ : ByteArray).data.toList (⟨#[92, 60, 99, 108, 111, 115, 101, 62]⟩ : ByteArray).data.toList (from' T k) 0) k = -1 := by
    show nestI (nestL openL closeL (from' T k) 0) k = _
    rw [hn]
    rfl
  rw [e2] at hN
  have HN := Lib.hid hN
  have HW := Lib.hid hW
  have HB := Lib.hid hb
  have hle : (k : Int) ≤ T.size := by omega
  clear hW hb hz ht hS h1 e1 hro hS2 hN e2 hn
  go_enter Tryz.func47, Tryz.ntmps47
  go_wp2_with fail
  rw [HW.out]
  clear c1'
  (with_reducible refine (P1.out _).mono ?_)
  rintro e w' ⟨rfl, rfl⟩
  go_wp2_with fail
  (with_reducible refine HN.out.mono ?_)
  rintro e w2 ⟨rfl, hb2⟩
  have HB2 := Lib.hid (HB.out.trans (hb2.mono HB.out.size))
  clear hb2
  go_wp2_with fail
  exact ⟨rfl, rfl, HB2.out⟩
end Go.Proofs.YtdkagjbedinhjaaGreat
