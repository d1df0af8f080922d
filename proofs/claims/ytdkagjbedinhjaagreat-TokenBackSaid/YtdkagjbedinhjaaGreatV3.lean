/-
  The scanner's nested marks, from a mark to its end.
-/
import Derived.Test.YtdkagjbedinhjaaGreatV2
namespace Go.Proofs.YtdkagjbedinhjaaGreat
open Go.RowKit

/-- The place in a cell. -/
def atOf (W : World) (B : Nat) : Nat := match W.cell? ⟨B + 1, 0, none⟩ with
  | some (.int _ i) => i.toNat
  | _ => 0
theorem NestAt.atOf {b : Nat} {T : ByteArray} {B j : Nat} {d : Int} {W : World} (h : NestAt b T B j d W) : atOf W B = j := by
  unfold Go.Proofs.YtdkagjbedinhjaaGreat.atOf
  rw [h.at_.cell]
  rfl

/-- What nested answers. -/
def nestI (o : Option Nat) (k : Nat) : Int := match o with
  | some n => ((k + n : Nat) : Int)
  | none => -1
theorem nestI_map (o : Option Nat) (a j : Nat) : nestI (o.map (a + ·)) j = nestI o (j + a) := by
  cases o with
  | none => rfl
  | some n => simp [nestI]; omega

theorem nest_laid (b : Nat) (T : ByteArray) (k : Nat) (w : World) (hS : ScT b T w) : ∃ W, ((w.alloc (.cells #[.pointer (some ⟨b, 0, none⟩)] 62)).alloc (.cells #[.int .i64 (k : Int)] 3)).alloc (.cells #[.int .i64 0] 3) = W ∧ Below w.heap.size w W ∧ NestAt b T w.heap.size k 0 W := by
  have z1 : (w.alloc (.cells #[.pointer (some ⟨b, 0, none⟩)] 62)).heap.size = w.heap.size + 1 := by simp
  have n1 := Boxed.new w 62 (.pointer (some ⟨b, 0, none⟩))
  have b1 := (Below.refl w.heap.size w).alloc (Nat.le_refl _) (.cells #[.pointer (some ⟨b, 0, none⟩)] 62)
  generalize w.alloc (.cells #[.pointer (some ⟨b, 0, none⟩)] 62) = w1 at *
  have z2 : (w1.alloc (.cells #[.int .i64 (k : Int)] 3)).heap.size = w1.heap.size + 1 := by simp
  have n2 := Boxed.new w1 3 (.int .i64 (k : Int))
  have m1 := n1.alloc (.cells #[.int .i64 (k : Int)] 3)
  have b2 := b1.alloc (by omega) (.cells #[.int .i64 (k : Int)] 3)
  generalize w1.alloc (.cells #[.int .i64 (k : Int)] 3) = w2 at *
  have n3 := Boxed.new w2 3 (.int .i64 0)
  have m2 := m1.alloc (.cells #[.int .i64 0] 3)
  have k2 := n2.alloc (.cells #[.int .i64 0] 3)
  have b3 := b2.alloc (by omega) (.cells #[.int .i64 0] 3)
  rw [z1] at k2
  rw [z2, z1] at n3
  exact ⟨_, rfl, b3, hS.later b3 hS.lt, hS.lt, m2, k2, n3⟩

set_option maxRecDepth 100000 in
set_option maxHeartbeats 8000000 in
theorem nested_any (b : Nat) (T p q : ByteArray) (k : Nat) (w : World) (hS : ScT b T w) (hk : k ≤ T.size) (hT : T.size ≤ 100000000) (hp : p.data.toList ≠ []) (hq : q.data.toList ≠ []) :
    Calls Tryz.prog 41 #[.pointer (some ⟨b, 0, none⟩), .int .i64 (k : Int), .string p, .string q] w fun e w' => e = .returned (.int .i64 (nestI (nestL p.data.toList q.data.toList (from' T k) 0) k)) ∧ Below w.heap.size w w' := by
  have hmf : ∀ (fn : Fn) (first cap : Array Value) (w : World), (Instr.makeFunc fn first cap).run Tryz.prog w = .ok (.func fn first cap) w := fun _ _ _ _ => rfl
  obtain ⟨W, hW, hb, hN⟩ := nest_laid b T k w hS
  have HW := Lib.hid hW
  have HB := Lib.hid hb
  have HN := Lib.hid hN
  have HP0 := Lib.hid hp
  have HQ0 := Lib.hid hq
  clear hW hb hN hp hq hS
  go_enter Tryz.func41, Tryz.ntmps41
  go_wp2_with fail
  rw [HW.out]
  clear HW
  go_loopw [12] (fun _ wr => ∃ (j : Nat) (d : Int), j ≤ T.size ∧ -(j : Int) ≤ d ∧ d ≤ j ∧ Hid (NestAt b T w.heap.size j d wr) ∧ Hid (nestI (nestL p.data.toList q.data.toList (from' T j) d) j = nestI (nestL p.data.toList q.data.toList (from' T k) 0) k) ∧ Hid (Below w.heap.size w wr)) (fun _ wr => T.size - atOf wr w.heap.size)
  case atStart => exact ⟨k, 0, hk, by omega, by omega, HN, Lib.hid rfl, HB⟩
  case round =>
    obtain ⟨j, d, hj, hd1, hd2, HR, HE, HBr⟩ := hrel
    clear HN HB
    have c0 := HR.out.sc.cell
    have c1 := HR.out.at_.cell
    have c2 := HR.out.depth.cell
    have ct := HR.out.text.cell
    have hme := Lib.hid HR.out.atOf
    by_cases hlt : j < T.size
    · have hdc : decide (j < T.size) = true := by simp; exact hlt
      have hne : from' T j ≠ [] := by rw [from_cons hlt]; simp
      have HL := Lib.hid (nestL_step p.data.toList q.data.toList HP0.out HQ0.out hne d)
      have hps : 1 ≤ p.size := by rw [Lib.size_eq]; exact List.length_pos_iff.2 HP0.out
      have hqs : 1 ≤ q.size := by rw [Lib.size_eq]; exact List.length_pos_iff.2 HQ0.out
      have hps' := Lib.hid (Lib.size_eq p)
      have hqs' := Lib.hid (Lib.size_eq q)
      clear hne
      go_wp2_with fail
      go_quiet (fail)
      go_wp2_with fail
      have HV := Lib.hid (HR.out.drew nq)
      have HBV := Lib.hid (below_drewN HBr.out nq)
      clear c0 c1 c2 ct HR HBr
      generalize wr.drewN nq = V at *
      cases ho : Lib.hasPrefix (from' T j) p.data.toList with
      | true =>
        have hpl : j + p.size ≤ T.size := by
          have := (List.isPrefixOf_iff_prefix.1 ho).length_le
          rw [from_len, ← Lib.size_eq] at this
          omega
        have HS1 := Lib.hid (step_yes b T p w.heap.size j d 1 V HV.out hj hT ho (by omega) (by omega) (by omega) (by omega))
        have HO := Lib.hid ho
        clear ho
        (with_reducible refine HS1.out.mono ?_)
        rintro e w2 ⟨rfl, hn2, hb2⟩
        have HB2 := Lib.hid (HBV.out.trans hb2)
        clear hb2
        have k1 := hn2.at_.cell
        have k2 := hn2.depth.cell
        have HN2 := Lib.hid hn2
        by_cases h0 : d + 1 = 0
        · have hz : ((d + 1 : Int) == 0) = true := by simp; exact h0
          have H0 := Lib.hid h0
          clear h0
          go_wp2_with fail
          go_ret
          exact ⟨ret_int (by rw [← HE.out, HL.out, if_pos HO.out, if_pos H0.out]; show _ = ((j + p.data.toList.length : Nat) : Int); rw [← hps'.out]; first | rfl | omega), HB2.out⟩
        · have hz : ((d + 1 : Int) == 0) = false := by simp; exact h0
          have H0 := Lib.hid h0
          clear h0
          go_wp2_with fail
          go_roundw
          case rel => exact ⟨j + p.size, d + 1, by omega, by omega, by omega, HN2, Lib.hid (by rw [← HE.out, HL.out, if_pos HO.out, if_neg H0.out, nestI_map, from_add, ← hps'.out]), Lib.hid (HB2.out)⟩
          case measure => rw [HN2.out.atOf, hme.out]; omega
      | false =>
        have HS1 := Lib.hid (step_no b T p w.heap.size j d 1 V HV.out hj hT ho)
        have HO := Lib.hid (show ¬ Lib.hasPrefix (from' T j) p.data.toList = true by rw [ho]; decide)
        clear ho
        (with_reducible refine HS1.out.mono ?_)
        rintro e w2 ⟨rfl, n2, rfl⟩
        have HV2 := Lib.hid (HV.out.drew n2)
        have HB2 := Lib.hid (below_drewN HBV.out n2)
        clear HS1 HV HBV
        generalize V.drewN n2 = V2 at *
        cases hc : Lib.hasPrefix (from' T j) q.data.toList with
        | true =>
          have hpl : j + q.size ≤ T.size := by
            have := (List.isPrefixOf_iff_prefix.1 hc).length_le
            rw [from_len, ← Lib.size_eq] at this
            omega
          have HS2 := Lib.hid (step_yes b T q w.heap.size j d (-1) V2 HV2.out hj hT hc (by omega) (by omega) (by omega) (by omega))
          have HC := Lib.hid hc
          clear hc
          go_wp2_with fail
          (with_reducible refine HS2.out.mono ?_)
          rintro e w3 ⟨rfl, hn3, hb3⟩
          have hn3' : NestAt b T w.heap.size (j + q.size) (d - 1) w3 := hn3
          have HB3 := Lib.hid (HB2.out.trans hb3)
          clear hb3 hn3
          have k1 := hn3'.at_.cell
          have k2 := hn3'.depth.cell
          have HN2 := Lib.hid hn3'
          by_cases h0 : d - 1 = 0
          · have hz : ((d - 1 : Int) == 0) = true := by simp; exact h0
            have H0 := Lib.hid h0
            clear h0
            go_wp2_with fail
            go_ret
            exact ⟨ret_int (by rw [← HE.out, HL.out, if_neg HO.out, if_pos HC.out, if_pos H0.out]; show _ = ((j + q.data.toList.length : Nat) : Int); rw [← hqs'.out]; first | rfl | omega), HB3.out⟩
          · have hz : ((d - 1 : Int) == 0) = false := by simp; exact h0
            have H0 := Lib.hid h0
            clear h0
            go_wp2_with fail
            go_roundw
            case rel => exact ⟨j + q.size, d - 1, by omega, by omega, by omega, HN2, Lib.hid (by rw [← HE.out, HL.out, if_neg HO.out, if_pos HC.out, if_neg H0.out, nestI_map, from_add, ← hqs'.out]), Lib.hid (HB3.out)⟩
            case measure => rw [HN2.out.atOf, hme.out]; omega
        | false =>
          have HS2 := Lib.hid (step_no b T q w.heap.size j d (-1) V2 HV2.out hj hT hc)
          have HC := Lib.hid (show ¬ Lib.hasPrefix (from' T j) q.data.toList = true by rw [hc]; decide)
          clear hc
          go_wp2_with fail
          (with_reducible refine HS2.out.mono ?_)
          rintro e w3 ⟨rfl, n3, rfl⟩
          have HV3 := Lib.hid (HV2.out.drew n3)
          have HB3 := Lib.hid (below_drewN HB2.out n3)
          clear HS2 HV2 HB2
          generalize V2.drewN n3 = V3 at *
          have m1 := HV3.out.at_.cell
          have g1 := HV3.out.at_.frozen
          have m2 := HV3.out.depth.cell
          have hn4 := HV3.out.putAt (j + 1)
          have HB4 := Lib.hid (HB3.out.setCell (p := ⟨w.heap.size + 1, 0, none⟩) (Nat.le_succ _) (.int .i64 ((j + 1 : Nat) : Int)))
          rw [show (((j + 1 : Nat)) : Int) = (j : Int) + 1 by omega] at hn4 HB4
          have k1 := hn4.at_.cell
          have k2 := hn4.depth.cell
          have HN2 := Lib.hid hn4
          by_cases h0 : d = 0
          · have hz : ((d : Int) == 0) = true := by simp; exact h0
            have H0 := Lib.hid h0
            clear h0
            go_wp2_with fail
            go_ret
            exact ⟨ret_int (by rw [← HE.out, HL.out, if_neg HO.out, if_neg HC.out, if_pos H0.out]; simp [nestI]), HB4.out⟩
          · have hz : ((d : Int) == 0) = false := by simp; exact h0
            have H0 := Lib.hid h0
            clear h0
            go_wp2_with fail
            go_roundw
            case rel => exact ⟨j + 1, d, by omega, by omega, by omega, HN2, Lib.hid (by rw [← HE.out, HL.out, if_neg HO.out, if_neg HC.out, if_neg H0.out, nestI_map, from_add]), Lib.hid (HB4.out)⟩
            case measure => rw [HN2.out.atOf, hme.out]; omega
    · have hdc : decide (j < T.size) = false := by simp; omega
      go_wp2_with fail
      go_quiet (fail)
      go_wp2_with fail
      go_ret
      have hnil : from' T j = [] := from_nil (by omega)
      exact ⟨ret_int (by rw [← HE.out, hnil]; rfl), below_drewN HBr.out _⟩
end Go.Proofs.YtdkagjbedinhjaaGreat
