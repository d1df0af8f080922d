/-
  The statement's own walk.
-/
import Derived.Test.YtdffhnfjcbnioaaDoorP8
import Derived.Outline
namespace Go.Proofs.YtdffhnfjcbnioaaDoor
open Go.RowKit

set_option maxRecDepth 100000 in
set_option maxHeartbeats 8000000 in
theorem limits_walk (N d : Nat) (w : World) (hN : N < 65536) (hd : N % 30200 = d) (hK : Kinds w)
    (hAw : ∀ W, Kinds W → Calls Tryd.prog 5 #[] W fun e w' => e = .returned (.bool true) ∧ Below W.heap.size W w') :
    Calls Tryd.prog 3 #[.int .u16 (N : Nat)] w fun e w' => e = .returned (.bool true) ∧ Below w.heap.size w w' := by
  have hdi : (N : Int) % 30200 = (d : Int) := by omega
  have hd2 : d < 30200 := by omega
  have HD := Lib.hid hdi
  have HK := Lib.hid hK
  have H1 := Lib.hid (stands_new w)
  unfold pcv nmA at H1
  clear hd hdi hK
  go_enter Tryd.func3, Tryd.ntmps3
  go_wp2_with fail
  rw [HD.out]
  have e1 : (1 + (d : Int) - 1) = (d : Int) := by omega
  rw [e1]
  clear e1
  generalize (w.alloc _) = w1 at *
  go_loopw [16] (fun t wr => ∃ k : Nat, t = .int .i64 k ∧ k ≤ d ∧ Stands w.heap.size w (chain k) wr) (fun t _ => d - (intOf t).toNat)
  case atStart => exact ⟨0, rfl, Nat.zero_le _, H1.out⟩
  case round =>
    obtain ⟨k, rfl, hk, hst⟩ := hrel
    by_cases hlt : k < d
    · obtain ⟨op, nm, a, n, c, hra, hth, hpb, hv, hw⟩ := hst
      have hth2 : (wr.alloc (.cells #[.int .i64 op, .string nm, .int .i64 0, .string ⟨#[]⟩, .int .i64 0, .int .i64 0, .string ⟨#[]⟩, .int .i64 0, .slice none 0 0, .slice none 0 0, .slice none 0 0, .slice none 0 0, .slice none 0 0, .slice none 0 0, .slice none 0 0, .int .i64 0, .slice a n c] 36)).there w.heap.size 0 17 := there_alloc hth hpb _
      have HRA : Hid (wr.rangeAt w.heap.size 0 [.int .i64 op, .string nm, .int .i64 0, .string ⟨#[]⟩, .int .i64 0, .int .i64 0, .string ⟨#[]⟩, .int .i64 0, .slice none 0 0, .slice none 0 0, .slice none 0 0, .slice none 0 0, .slice none 0 0, .slice none 0 0, .slice none 0 0, .int .i64 0, .slice a n c]) := Lib.hid hra
      have HTH := Lib.hid hth2
      have HNX := Lib.hid (stands_sym hth hpb hv hw (Nat.le_refl _))
      clear hra hth hpb hv hw hth2
      go_wp2_with (first
        | refine wpList_load_mid (op := ⟨some 18, .load 36 (.tmp 3), _, _, _, _⟩) rfl 36 (.tmp 3) rfl w.heap.size 0 rfl [.int .i64 op, .string nm, .int .i64 0, .string ⟨#[]⟩, .int .i64 0, .int .i64 0, .string ⟨#[]⟩, .int .i64 0, .slice none 0 0, .slice none 0 0, .slice none 0 0, .slice none 0 0, .slice none 0 0, .slice none 0 0, .slice none 0 0, .int .i64 0, .slice a n c] _ HRA.out Tryd.underlying36 rfl (by kernel_rfl) ?_
        | refine wpList_store_mid (op := ⟨none, .store 36 (.tmp 3) (.tmp 20), _, _, _, _⟩) rfl 36 (.tmp 3) (.tmp 20) rfl w.heap.size 0 (pcv 9 ⟨#[]⟩ (some ⟨wr.heap.size, 0, none⟩) 1 1) rfl rfl HTH.out (by kernel_rfl) (pcv_one _ _ _ _ _) ?_)
      go_roundw
      case rel => exact ⟨k + 1, by go_num, by omega, HNX.out⟩
      case measure => simp [intOf]; omega
    · obtain rfl : k = d := by omega
      have HS1 := Lib.hid hst
      clear hst
      obtain ⟨wp, hwp⟩ : ∃ wp : World, wp = wr := ⟨_, rfl⟩
      subst hwp
      by_cases hk3 : 30000 < 1 + (k : Int)
      · have EP : limitE (chain k) = 6 := limit_chain_big k (by omega) (by omega)
        have HEP := Lib.hid EP
        clear EP
        have H2 := Lib.hid (show Stands wp.heap.size wp (bush 0) (wp.alloc (.cells (pcv 1 nmA none 0 0) 36)) from stands_new wp)
        obtain ⟨m, hm⟩ : ∃ m : Nat, N % 20 = m := ⟨_, rfl⟩
        have hmi : (N : Int) % 20 = (m : Int) := by omega
        have hm2 : m < 20 := by omega
        have HM := Lib.hid hmi
        have HMN := Lib.hid hm
        clear hm hmi
        unfold pcv nmA at H2
        go_wp2_with fail
        rw [HM.out]
        generalize (wp.alloc _) = w2 at *
        go_loopw [29] (fun t wq => ∃ j : Nat, t = .int .i64 j ∧ j ≤ 1 + m ∧ Stands wp.heap.size wp (bush j) wq) (fun t _ => 1 + m - (intOf t).toNat)
        case atStart => exact ⟨0, rfl, Nat.zero_le _, H2.out⟩
        case round =>
          obtain ⟨j, rfl, hj, hst⟩ := hrel
          by_cases hlt2 : j < 1 + m
          · obtain ⟨op, nm, a, n, c, hra, hth, hpb, hv, hw⟩ := hst
            have hth2 : (wr.alloc (.cells #[.int .i64 op, .string nm, .int .i64 0, .string ⟨#[]⟩, .int .i64 0, .int .i64 0, .string ⟨#[]⟩, .int .i64 0, .slice none 0 0, .slice none 0 0, .slice none 0 0, .slice none 0 0, .slice none 0 0, .slice none 0 0, .slice none 0 0, .int .i64 0, .slice a n c, .int .i64 op, .string nm, .int .i64 0, .string ⟨#[]⟩, .int .i64 0, .int .i64 0, .string ⟨#[]⟩, .int .i64 0, .slice none 0 0, .slice none 0 0, .slice none 0 0, .slice none 0 0, .slice none 0 0, .slice none 0 0, .slice none 0 0, .int .i64 0, .slice a n c] 36)).there wp.heap.size 0 17 := there_alloc hth hpb _
            have hj2 : (j : Int) < 1 + (m : Int) := by omega
            have HRA : Hid (wr.rangeAt wp.heap.size 0 [.int .i64 op, .string nm, .int .i64 0, .string ⟨#[]⟩, .int .i64 0, .int .i64 0, .string ⟨#[]⟩, .int .i64 0, .slice none 0 0, .slice none 0 0, .slice none 0 0, .slice none 0 0, .slice none 0 0, .slice none 0 0, .slice none 0 0, .int .i64 0, .slice a n c]) := Lib.hid hra
            have HTH := Lib.hid hth2
            have hnx := stands_dup hth hpb hv hw (Nat.le_refl _)
            rw [pcv_two] at hnx
            have HNX := Lib.hid hnx
            clear hra hth hpb hv hw hth2 hnx
            go_wp2_with (first
              | refine wpList_load_mid (op := ⟨some 31, .load 36 (.tmp 6), _, _, _, _⟩) rfl 36 (.tmp 6) rfl wp.heap.size 0 rfl [.int .i64 op, .string nm, .int .i64 0, .string ⟨#[]⟩, .int .i64 0, .int .i64 0, .string ⟨#[]⟩, .int .i64 0, .slice none 0 0, .slice none 0 0, .slice none 0 0, .slice none 0 0, .slice none 0 0, .slice none 0 0, .slice none 0 0, .int .i64 0, .slice a n c] _ HRA.out Tryd.underlying36 rfl (by kernel_rfl) ?_
              | refine wpList_load_mid (op := ⟨some 32, .load 36 (.tmp 6), _, _, _, _⟩) rfl 36 (.tmp 6) rfl wp.heap.size 0 rfl [.int .i64 op, .string nm, .int .i64 0, .string ⟨#[]⟩, .int .i64 0, .int .i64 0, .string ⟨#[]⟩, .int .i64 0, .slice none 0 0, .slice none 0 0, .slice none 0 0, .slice none 0 0, .slice none 0 0, .slice none 0 0, .slice none 0 0, .int .i64 0, .slice a n c] _ HRA.out Tryd.underlying36 rfl (by kernel_rfl) ?_
              | refine wpList_store_mid (op := ⟨none, .store 36 (.tmp 6) (.tmp 34), _, _, _, _⟩) rfl 36 (.tmp 6) (.tmp 34) rfl wp.heap.size 0 (pcv 10 ⟨#[]⟩ (some ⟨wr.heap.size, 0, none⟩) 2 2) rfl rfl HTH.out (by kernel_rfl) (pcv_one _ _ _ _ _) ?_)
            go_roundw
            case rel => exact ⟨j + 1, by go_num, by omega, HNX.out⟩
            case measure => simp [intOf]; omega
          · obtain rfl : j = 1 + m := by omega
            have hq0 := hst
            obtain ⟨op', nm', a', n', c', hra', hth', hpb', hv', hw'⟩ := hst
            have hsp := HS1.out.later hw'
            obtain ⟨op, nm, a, n, c, hra, hth, hpb, hv, hw⟩ := hsp
            have hcp := check_val op nm a n c (chain k) w.heap.size wr hv (HK.out.later hw) (good_chain k) (by rw [chain_depth]; omega)
            have CQ := Lib.hid fun W (h : Below wr.heap.size wr W) j v (hv : (pcv op' nm' a' n' c').toList[j]? = some v) => (show W.cell? ⟨wp.heap.size, j, none⟩ = some v from Nat.zero_add j ▸ (h.cell (p := ⟨wp.heap.size, 0 + j, none⟩) hpb').trans (hra' j v hv))
            have HCQ := Lib.hid fun W (h : Below wr.heap.size wr W) => check_val op' nm' a' n' c' (bush (1 + m)) wp.heap.size W (hv'.later (.below h)) (HK.out.later (hw.trans (h.mono hw.size))) (good_bush _) (by rw [bush_depth]; omega)
            have HAW := Lib.hid fun W (h : Below wr.heap.size wr W) => hAw W (HK.out.later (hw.trans (h.mono hw.size)))
            have HRA : Hid (wr.rangeAt w.heap.size 0 [.int .i64 op, .string nm, .int .i64 0, .string ⟨#[]⟩, .int .i64 0, .int .i64 0, .string ⟨#[]⟩, .int .i64 0, .slice none 0 0, .slice none 0 0, .slice none 0 0, .slice none 0 0, .slice none 0 0, .slice none 0 0, .slice none 0 0, .int .i64 0, .slice a n c]) := Lib.hid hra
            have HWW := Lib.hid hw
            unfold pcv at hcp
            rw [HEP.out] at hcp
            have HCP := Lib.hid hcp
            clear hcp hra hth hpb hv hw hra' hth' hpb' hv' hw' hq0
            by_cases h19 : m = 19
            · have hX : 2000000 < wrap64 (wrap64 (2 ^ (2 + N % 20)) - 1) := by rw [HMN.out, h19]; decide +kernel
              have hE : limitE (bush (1 + m)) = 5 := by rw [h19]; exact limit_bush_big
              have HE := Lib.hid hE
              clear hE h19
              go_wp2_with (first
                | refine wpList_load_mid (op := ⟨some 44, .load 36 (.tmp 3), _, _, _, _⟩) rfl 36 (.tmp 3) rfl w.heap.size 0 rfl [.int .i64 op, .string nm, .int .i64 0, .string ⟨#[]⟩, .int .i64 0, .int .i64 0, .string ⟨#[]⟩, .int .i64 0, .slice none 0 0, .slice none 0 0, .slice none 0 0, .slice none 0 0, .slice none 0 0, .slice none 0 0, .slice none 0 0, .int .i64 0, .slice a n c] _ HRA.out Tryd.underlying36 rfl (by kernel_rfl) ?_)
              (with_reducible refine HCP.out.mono ?_)
              rintro e W1 ⟨rfl, hW1⟩
              have hcq := HCQ.out W1 hW1
              have HW1 := Lib.hid hW1
              have CQ1 := Lib.hid (CQ.out W1 hW1)
              have RQ : Hid (W1.rangeAt wp.heap.size 0 [.int .i64 op', .string nm', .int .i64 0, .string ⟨#[]⟩, .int .i64 0, .int .i64 0, .string ⟨#[]⟩, .int .i64 0, .slice none 0 0, .slice none 0 0, .slice none 0 0, .slice none 0 0, .slice none 0 0, .slice none 0 0, .slice none 0 0, .int .i64 0, .slice a' n' c']) := Lib.hid fun j v hv => (by rw [Nat.zero_add]; exact CQ1.out j v hv)
              unfold pcv at hcq
              rw [HE.out] at hcq
              have HCQ1 := Lib.hid hcq
              clear hcq hW1
              go_wp2_with (first
                | refine Go.BigFrame.wpList_want (o := ⟨some 49, .load 36 (.tmp 6), _, _, _, _⟩) (by rfl) (fun K hK => wp_load_mid 36 (.tmp 6) rfl wp.heap.size 0 rfl [.int .i64 op', .string nm', .int .i64 0, .string ⟨#[]⟩, .int .i64 0, .int .i64 0, .string ⟨#[]⟩, .int .i64 0, .slice none 0 0, .slice none 0 0, .slice none 0 0, .slice none 0 0, .slice none 0 0, .slice none 0 0, .slice none 0 0, .int .i64 0, .slice a' n' c'] _ RQ.out Tryd.underlying36 rfl (by kernel_rfl) (hK _ _ ?_)))
              (with_reducible refine HCQ1.out.mono ?_)
              rintro e W2 ⟨rfl, hW2⟩
              have HW2 := Lib.hid (HW1.out.trans (hW2.mono HW1.out.size))
              have HA := Lib.hid (HAW.out W2 HW2.out)
              clear hW2
              go_wp2_with fail
              (with_reducible refine HA.out.mono ?_)
              rintro e W3 ⟨rfl, hW3⟩
              have HF := Lib.hid (HWW.out.trans ((HW2.out.trans (hW3.mono HW2.out.size)).mono HWW.out.size))
              clear hW3
              go_wp2_with fail
              go_ret
              exact ⟨rfl, HF.out⟩
            · have hX : ¬ 2000000 < wrap64 (wrap64 (2 ^ (2 + N % 20)) - 1) := by rw [HMN.out]; exact wide_small m (by omega)
              have hE : limitE (bush (1 + m)) = 0 := limit_bush m (by omega)
              have HE := Lib.hid hE
              clear hE h19
              go_wp2_with (first
                | refine wpList_load_mid (op := ⟨some 44, .load 36 (.tmp 3), _, _, _, _⟩) rfl 36 (.tmp 3) rfl w.heap.size 0 rfl [.int .i64 op, .string nm, .int .i64 0, .string ⟨#[]⟩, .int .i64 0, .int .i64 0, .string ⟨#[]⟩, .int .i64 0, .slice none 0 0, .slice none 0 0, .slice none 0 0, .slice none 0 0, .slice none 0 0, .slice none 0 0, .slice none 0 0, .int .i64 0, .slice a n c] _ HRA.out Tryd.underlying36 rfl (by kernel_rfl) ?_)
              (with_reducible refine HCP.out.mono ?_)
              rintro e W1 ⟨rfl, hW1⟩
              have hcq := HCQ.out W1 hW1
              have HW1 := Lib.hid hW1
              have CQ1 := Lib.hid (CQ.out W1 hW1)
              have RQ : Hid (W1.rangeAt wp.heap.size 0 [.int .i64 op', .string nm', .int .i64 0, .string ⟨#[]⟩, .int .i64 0, .int .i64 0, .string ⟨#[]⟩, .int .i64 0, .slice none 0 0, .slice none 0 0, .slice none 0 0, .slice none 0 0, .slice none 0 0, .slice none 0 0, .slice none 0 0, .int .i64 0, .slice a' n' c']) := Lib.hid fun j v hv => (by rw [Nat.zero_add]; exact CQ1.out j v hv)
              unfold pcv at hcq
              rw [HE.out] at hcq
              have HCQ1 := Lib.hid hcq
              clear hcq hW1
              go_wp2_with (first
                | refine Go.BigFrame.wpList_want (o := ⟨some 49, .load 36 (.tmp 6), _, _, _, _⟩) (by rfl) (fun K hK => wp_load_mid 36 (.tmp 6) rfl wp.heap.size 0 rfl [.int .i64 op', .string nm', .int .i64 0, .string ⟨#[]⟩, .int .i64 0, .int .i64 0, .string ⟨#[]⟩, .int .i64 0, .slice none 0 0, .slice none 0 0, .slice none 0 0, .slice none 0 0, .slice none 0 0, .slice none 0 0, .slice none 0 0, .int .i64 0, .slice a' n' c'] _ RQ.out Tryd.underlying36 rfl (by kernel_rfl) (hK _ _ ?_)))
              (with_reducible refine HCQ1.out.mono ?_)
              rintro e W2 ⟨rfl, hW2⟩
              have HW2 := Lib.hid (HW1.out.trans (hW2.mono HW1.out.size))
              have HA := Lib.hid (HAW.out W2 HW2.out)
              clear hW2
              go_wp2_with fail
              (with_reducible refine HA.out.mono ?_)
              rintro e W3 ⟨rfl, hW3⟩
              have HF := Lib.hid (HWW.out.trans ((HW2.out.trans (hW3.mono HW2.out.size)).mono HWW.out.size))
              clear hW3
              go_wp2_with fail
              go_ret
              exact ⟨rfl, HF.out⟩

      · have EP : limitE (chain k) = 0 := limit_chain k (by omega)
        have HEP := Lib.hid EP
        clear EP
        have H2 := Lib.hid (show Stands wp.heap.size wp (bush 0) (wp.alloc (.cells (pcv 1 nmA none 0 0) 36)) from stands_new wp)
        obtain ⟨m, hm⟩ : ∃ m : Nat, N % 20 = m := ⟨_, rfl⟩
        have hmi : (N : Int) % 20 = (m : Int) := by omega
        have hm2 : m < 20 := by omega
        have HM := Lib.hid hmi
        have HMN := Lib.hid hm
        clear hm hmi
        unfold pcv nmA at H2
        go_wp2_with fail
        rw [HM.out]
        generalize (wp.alloc _) = w2 at *
        go_loopw [29] (fun t wq => ∃ j : Nat, t = .int .i64 j ∧ j ≤ 1 + m ∧ Stands wp.heap.size wp (bush j) wq) (fun t _ => 1 + m - (intOf t).toNat)
        case atStart => exact ⟨0, rfl, Nat.zero_le _, H2.out⟩
        case round =>
          obtain ⟨j, rfl, hj, hst⟩ := hrel
          by_cases hlt2 : j < 1 + m
          · obtain ⟨op, nm, a, n, c, hra, hth, hpb, hv, hw⟩ := hst
            have hth2 : (wr.alloc (.cells #[.int .i64 op, .string nm, .int .i64 0, .string ⟨#[]⟩, .int .i64 0, .int .i64 0, .string ⟨#[]⟩, .int .i64 0, .slice none 0 0, .slice none 0 0, .slice none 0 0, .slice none 0 0, .slice none 0 0, .slice none 0 0, .slice none 0 0, .int .i64 0, .slice a n c, .int .i64 op, .string nm, .int .i64 0, .string ⟨#[]⟩, .int .i64 0, .int .i64 0, .string ⟨#[]⟩, .int .i64 0, .slice none 0 0, .slice none 0 0, .slice none 0 0, .slice none 0 0, .slice none 0 0, .slice none 0 0, .slice none 0 0, .int .i64 0, .slice a n c] 36)).there wp.heap.size 0 17 := there_alloc hth hpb _
            have hj2 : (j : Int) < 1 + (m : Int) := by omega
            have HRA : Hid (wr.rangeAt wp.heap.size 0 [.int .i64 op, .string nm, .int .i64 0, .string ⟨#[]⟩, .int .i64 0, .int .i64 0, .string ⟨#[]⟩, .int .i64 0, .slice none 0 0, .slice none 0 0, .slice none 0 0, .slice none 0 0, .slice none 0 0, .slice none 0 0, .slice none 0 0, .int .i64 0, .slice a n c]) := Lib.hid hra
            have HTH := Lib.hid hth2
            have hnx := stands_dup hth hpb hv hw (Nat.le_refl _)
            rw [pcv_two] at hnx
            have HNX := Lib.hid hnx
            clear hra hth hpb hv hw hth2 hnx
            go_wp2_with (first
              | refine wpList_load_mid (op := ⟨some 31, .load 36 (.tmp 6), _, _, _, _⟩) rfl 36 (.tmp 6) rfl wp.heap.size 0 rfl [.int .i64 op, .string nm, .int .i64 0, .string ⟨#[]⟩, .int .i64 0, .int .i64 0, .string ⟨#[]⟩, .int .i64 0, .slice none 0 0, .slice none 0 0, .slice none 0 0, .slice none 0 0, .slice none 0 0, .slice none 0 0, .slice none 0 0, .int .i64 0, .slice a n c] _ HRA.out Tryd.underlying36 rfl (by kernel_rfl) ?_
              | refine wpList_load_mid (op := ⟨some 32, .load 36 (.tmp 6), _, _, _, _⟩) rfl 36 (.tmp 6) rfl wp.heap.size 0 rfl [.int .i64 op, .string nm, .int .i64 0, .string ⟨#[]⟩, .int .i64 0, .int .i64 0, .string ⟨#[]⟩, .int .i64 0, .slice none 0 0, .slice none 0 0, .slice none 0 0, .slice none 0 0, .slice none 0 0, .slice none 0 0, .slice none 0 0, .int .i64 0, .slice a n c] _ HRA.out Tryd.underlying36 rfl (by kernel_rfl) ?_
              | refine wpList_store_mid (op := ⟨none, .store 36 (.tmp 6) (.tmp 34), _, _, _, _⟩) rfl 36 (.tmp 6) (.tmp 34) rfl wp.heap.size 0 (pcv 10 ⟨#[]⟩ (some ⟨wr.heap.size, 0, none⟩) 2 2) rfl rfl HTH.out (by kernel_rfl) (pcv_one _ _ _ _ _) ?_)
            go_roundw
            case rel => exact ⟨j + 1, by go_num, by omega, HNX.out⟩
            case measure => simp [intOf]; omega
          · obtain rfl : j = 1 + m := by omega
            have hq0 := hst
            obtain ⟨op', nm', a', n', c', hra', hth', hpb', hv', hw'⟩ := hst
            have hsp := HS1.out.later hw'
            obtain ⟨op, nm, a, n, c, hra, hth, hpb, hv, hw⟩ := hsp
            have hcp := check_val op nm a n c (chain k) w.heap.size wr hv (HK.out.later hw) (good_chain k) (by rw [chain_depth]; omega)
            have CQ := Lib.hid fun W (h : Below wr.heap.size wr W) j v (hv : (pcv op' nm' a' n' c').toList[j]? = some v) => (show W.cell? ⟨wp.heap.size, j, none⟩ = some v from Nat.zero_add j ▸ (h.cell (p := ⟨wp.heap.size, 0 + j, none⟩) hpb').trans (hra' j v hv))
            have HCQ := Lib.hid fun W (h : Below wr.heap.size wr W) => check_val op' nm' a' n' c' (bush (1 + m)) wp.heap.size W (hv'.later (.below h)) (HK.out.later (hw.trans (h.mono hw.size))) (good_bush _) (by rw [bush_depth]; omega)
            have HAW := Lib.hid fun W (h : Below wr.heap.size wr W) => hAw W (HK.out.later (hw.trans (h.mono hw.size)))
            have HRA : Hid (wr.rangeAt w.heap.size 0 [.int .i64 op, .string nm, .int .i64 0, .string ⟨#[]⟩, .int .i64 0, .int .i64 0, .string ⟨#[]⟩, .int .i64 0, .slice none 0 0, .slice none 0 0, .slice none 0 0, .slice none 0 0, .slice none 0 0, .slice none 0 0, .slice none 0 0, .int .i64 0, .slice a n c]) := Lib.hid hra
            have HWW := Lib.hid hw
            unfold pcv at hcp
            rw [HEP.out] at hcp
            have HCP := Lib.hid hcp
            clear hcp hra hth hpb hv hw hra' hth' hpb' hv' hw' hq0
            by_cases h19 : m = 19
            · have hX : 2000000 < wrap64 (wrap64 (2 ^ (2 + N % 20)) - 1) := by rw [HMN.out, h19]; decide +kernel
              have hE : limitE (bush (1 + m)) = 5 := by rw [h19]; exact limit_bush_big
              have HE := Lib.hid hE
              clear hE h19
              go_wp2_with (first
                | refine wpList_load_mid (op := ⟨some 44, .load 36 (.tmp 3), _, _, _, _⟩) rfl 36 (.tmp 3) rfl w.heap.size 0 rfl [.int .i64 op, .string nm, .int .i64 0, .string ⟨#[]⟩, .int .i64 0, .int .i64 0, .string ⟨#[]⟩, .int .i64 0, .slice none 0 0, .slice none 0 0, .slice none 0 0, .slice none 0 0, .slice none 0 0, .slice none 0 0, .slice none 0 0, .int .i64 0, .slice a n c] _ HRA.out Tryd.underlying36 rfl (by kernel_rfl) ?_)
              (with_reducible refine HCP.out.mono ?_)
              rintro e W1 ⟨rfl, hW1⟩
              have hcq := HCQ.out W1 hW1
              have HW1 := Lib.hid hW1
              have CQ1 := Lib.hid (CQ.out W1 hW1)
              have RQ : Hid (W1.rangeAt wp.heap.size 0 [.int .i64 op', .string nm', .int .i64 0, .string ⟨#[]⟩, .int .i64 0, .int .i64 0, .string ⟨#[]⟩, .int .i64 0, .slice none 0 0, .slice none 0 0, .slice none 0 0, .slice none 0 0, .slice none 0 0, .slice none 0 0, .slice none 0 0, .int .i64 0, .slice a' n' c']) := Lib.hid fun j v hv => (by rw [Nat.zero_add]; exact CQ1.out j v hv)
              unfold pcv at hcq
              rw [HE.out] at hcq
              have HCQ1 := Lib.hid hcq
              clear hcq hW1
              go_wp2_with (first
                | refine Go.BigFrame.wpList_want (o := ⟨some 49, .load 36 (.tmp 6), _, _, _, _⟩) (by rfl) (fun K hK => wp_load_mid 36 (.tmp 6) rfl wp.heap.size 0 rfl [.int .i64 op', .string nm', .int .i64 0, .string ⟨#[]⟩, .int .i64 0, .int .i64 0, .string ⟨#[]⟩, .int .i64 0, .slice none 0 0, .slice none 0 0, .slice none 0 0, .slice none 0 0, .slice none 0 0, .slice none 0 0, .slice none 0 0, .int .i64 0, .slice a' n' c'] _ RQ.out Tryd.underlying36 rfl (by kernel_rfl) (hK _ _ ?_)))
              (with_reducible refine HCQ1.out.mono ?_)
              rintro e W2 ⟨rfl, hW2⟩
              have HW2 := Lib.hid (HW1.out.trans (hW2.mono HW1.out.size))
              have HA := Lib.hid (HAW.out W2 HW2.out)
              clear hW2
              go_wp2_with fail
              (with_reducible refine HA.out.mono ?_)
              rintro e W3 ⟨rfl, hW3⟩
              have HF := Lib.hid (HWW.out.trans ((HW2.out.trans (hW3.mono HW2.out.size)).mono HWW.out.size))
              clear hW3
              go_wp2_with fail
              go_ret
              exact ⟨rfl, HF.out⟩
            · have hX : ¬ 2000000 < wrap64 (wrap64 (2 ^ (2 + N % 20)) - 1) := by rw [HMN.out]; exact wide_small m (by omega)
              have hE : limitE (bush (1 + m)) = 0 := limit_bush m (by omega)
              have HE := Lib.hid hE
              clear hE h19
              go_wp2_with (first
                | refine wpList_load_mid (op := ⟨some 44, .load 36 (.tmp 3), _, _, _, _⟩) rfl 36 (.tmp 3) rfl w.heap.size 0 rfl [.int .i64 op, .string nm, .int .i64 0, .string ⟨#[]⟩, .int .i64 0, .int .i64 0, .string ⟨#[]⟩, .int .i64 0, .slice none 0 0, .slice none 0 0, .slice none 0 0, .slice none 0 0, .slice none 0 0, .slice none 0 0, .slice none 0 0, .int .i64 0, .slice a n c] _ HRA.out Tryd.underlying36 rfl (by kernel_rfl) ?_)
              (with_reducible refine HCP.out.mono ?_)
              rintro e W1 ⟨rfl, hW1⟩
              have hcq := HCQ.out W1 hW1
              have HW1 := Lib.hid hW1
              have CQ1 := Lib.hid (CQ.out W1 hW1)
              have RQ : Hid (W1.rangeAt wp.heap.size 0 [.int .i64 op', .string nm', .int .i64 0, .string ⟨#[]⟩, .int .i64 0, .int .i64 0, .string ⟨#[]⟩, .int .i64 0, .slice none 0 0, .slice none 0 0, .slice none 0 0, .slice none 0 0, .slice none 0 0, .slice none 0 0, .slice none 0 0, .int .i64 0, .slice a' n' c']) := Lib.hid fun j v hv => (by rw [Nat.zero_add]; exact CQ1.out j v hv)
              unfold pcv at hcq
              rw [HE.out] at hcq
              have HCQ1 := Lib.hid hcq
              clear hcq hW1
              go_wp2_with (first
                | refine Go.BigFrame.wpList_want (o := ⟨some 49, .load 36 (.tmp 6), _, _, _, _⟩) (by rfl) (fun K hK => wp_load_mid 36 (.tmp 6) rfl wp.heap.size 0 rfl [.int .i64 op', .string nm', .int .i64 0, .string ⟨#[]⟩, .int .i64 0, .int .i64 0, .string ⟨#[]⟩, .int .i64 0, .slice none 0 0, .slice none 0 0, .slice none 0 0, .slice none 0 0, .slice none 0 0, .slice none 0 0, .slice none 0 0, .int .i64 0, .slice a' n' c'] _ RQ.out Tryd.underlying36 rfl (by kernel_rfl) (hK _ _ ?_)))
              (with_reducible refine HCQ1.out.mono ?_)
              rintro e W2 ⟨rfl, hW2⟩
              have HW2 := Lib.hid (HW1.out.trans (hW2.mono HW1.out.size))
              have HA := Lib.hid (HAW.out W2 HW2.out)
              clear hW2
              go_wp2_with fail
              (with_reducible refine HA.out.mono ?_)
              rintro e W3 ⟨rfl, hW3⟩
              have HF := Lib.hid (HWW.out.trans ((HW2.out.trans (hW3.mono HW2.out.size)).mono HWW.out.size))
              clear hW3
              go_wp2_with fail
              go_ret
              exact ⟨rfl, HF.out⟩


end Go.Proofs.YtdffhnfjcbnioaaDoor
