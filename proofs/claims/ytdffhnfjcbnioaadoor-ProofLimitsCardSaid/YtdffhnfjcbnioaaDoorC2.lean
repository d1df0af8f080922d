/-
  The contract of types.compare: by recursion on the first tree.
-/
import Derived.Test.YtdffhnfjcbnioaaDoorC1
import Derived.StillTailTactics
import Derived.Deep.QuietTactic
import Derived.BigQuiet
namespace Go.Proofs.YtdffhnfjcbnioaaDoor
open Go.RowKit

/-- cmp.Or behind new blocks: where the world is no longer told, but that what lay below lies. -/
theorem or_ints' (wb : World) (b o cap : Nat) (xs : List Int) (w : World) (n : Nat) (hn : n = xs.length) (hl : xs.length ≤ 9223372036854775807) (hc : ∀ i (h : i < xs.length), w.cell? ⟨b, o + i, none⟩ = some (.int .i64 xs[i])) (hb : Below wb.heap.size wb w) :
    Calls Tryd.prog 60 #[.slice (some ⟨b, o, none⟩) n cap] w fun e w' => e = .returned (.int .i64 (firstNZ xs)) ∧ Below wb.heap.size wb w' := by
  subst hn
  exact (or_ints b o cap xs w hl hc).mono fun e w' ⟨he, hw⟩ => ⟨he, hw ▸ hb⟩

theorem firstNZ_four (a b c d : Int) : firstNZ [a, b, c, d] = or2 a (or2 b (or2 c d)) := by
  have : or2 d 0 = d := by unfold or2; split <;> simp [*]
  simp [firstNZ, this]

theorem cmp_int_q (x y : Int) (w : World) (n : Nat) : Calls Tryd.prog 61 #[.int .i64 x, .int .i64 y] (w.drewN n) fun e w' => e = .returned (.int .i64 (c3 x y)) ∧ ∃ m, w' = w.drewN m :=
  (cmp_int x y (w.drewN n)).mono fun _ _ ⟨he, hw⟩ => ⟨he, n, hw.symm⟩

theorem cmpL_tail (l m : List Ty) (k : Nat) (h1 : k ≤ l.length) (h2 : k ≤ m.length) (h : k = l.length ∨ k = m.length) : Ty.cmpL (l.drop k) (m.drop k) = c3 l.length m.length := by
  unfold c3
  rcases h with rfl | rfl
  · rw [List.drop_length]
    by_cases e : l.length < m.length
    · rw [List.drop_eq_getElem_cons e, if_pos (by omega)]; rfl
    · rw [List.drop_of_length_le (by omega), if_neg (by omega), if_neg (by omega)]; rfl
  · rw [List.drop_length]
    by_cases e : m.length < l.length
    · rw [List.drop_eq_getElem_cons e, if_neg (by omega), if_pos (by omega)]; rfl
    · rw [List.drop_of_length_le (by omega), if_neg (by omega), if_neg (by omega)]; rfl

theorem cmpL_drop (l m : List Ty) (k : Nat) (h1 : k < l.length) (h2 : k < m.length) : Ty.cmpL (l.drop k) (m.drop k) = or2 (Ty.cmp l[k] m[k]) (Ty.cmpL (l.drop (k + 1)) (m.drop (k + 1))) := by
  rw [List.drop_eq_getElem_cons h1, List.drop_eq_getElem_cons h2]; rfl

/-- A type's measure, for recursion. -/
noncomputable def Ty.sz (t : Ty) : Nat := SizeOf.sizeOf t

theorem Ty.size_arg {op ix : Int} {nm : ByteArray} {srt : List ByteArray} {args : List Ty} (k : Nat) (h : k < args.length) : args[k].sz < (Ty.mk op nm ix srt args).sz := by
  have := List.sizeOf_lt_of_mem (List.getElem_mem h)
  unfold Ty.sz
  simp only [Ty.mk.sizeOf_spec]
  omega

set_option maxRecDepth 100000 in
set_option maxHeartbeats 4000000 in
theorem compare_any (N : Nat) : ∀ (B : Nat) (b1 o1 b2 o2 : Nat) (T1 T2 : Ty) (w : World), T1.sz < N → B ≤ w.heap.size → AtTy B w b1 o1 T1 → AtTy B w b2 o2 T2 →
    Calls Tryd.prog 80 #[.pointer (some ⟨b1, o1, none⟩), .pointer (some ⟨b2, o2, none⟩)] w fun e w' => e = .returned (.int .i64 (Ty.cmp T1 T2)) ∧ Below w.heap.size w w' := by
  induction N with
  | zero => intro B b1 o1 b2 o2 T1 T2 w hN; omega
  | succ N ih =>
  intro B b1 o1 b2 o2 T1 T2 w hN hB h1 h2
  have IH := Lib.hid ih
  clear ih
  obtain ⟨_, _, op, ix, nm, srt, args, vs, a, cap, ab, ao, hb, k0, k1, k2, k3, k4, hop, hix, hnm, hs, hl, ha, he⟩ := h1
  obtain ⟨_, _, op', ix', nm', srt', args', vs', a', cap', ab', ao', hb', k0', k1', k2', k3', k4', hop', hix', hnm', hs', hl', ha', he'⟩ := h2
  have hsd : HasStrs B w.drew vs srt := hs.later ((Below.refl _ _).drew) (Nat.le_refl _)
  have hsd' : HasStrs B w.drew vs' srt' := hs'.later ((Below.refl _ _).drew) (Nat.le_refl _)
  have k4s : ∀ W, Below w.heap.size w W → W.cell? ⟨b1, o1 + 4, none⟩ = some (.slice a args.length cap) := fun W h => (h.cell (p := ⟨b1, o1 + 4, none⟩) (by show b1 < _; omega)).trans k4
  have k4s' : ∀ W, Below w.heap.size w W → W.cell? ⟨b2, o2 + 4, none⟩ = some (.slice a' args'.length cap') := fun W h => (h.cell (p := ⟨b2, o2 + 4, none⟩) (by show b2 < _; omega)).trans k4'
  have K4 := Lib.hid k4s
  have K4' := Lib.hid k4s'
  clear k4s k4s'
  obtain ⟨x0, hx0⟩ : ∃ x, c3 op op' = x := ⟨_, rfl⟩
  obtain ⟨x1, hx1⟩ : ∃ x, c3s nm nm' = x := ⟨_, rfl⟩
  obtain ⟨x2, hx2⟩ : ∃ x, c3 ix ix' = x := ⟨_, rfl⟩
  obtain ⟨x3, hx3⟩ : ∃ x, lexl c3s srt srt' = x := ⟨_, rfl⟩
  have hval : Ty.cmp (.mk op nm ix srt args) (.mk op' nm' ix' srt' args') = or2 (or2 x0 (or2 x1 (or2 x2 x3))) (Ty.cmpL args args') := by rw [← hx0, ← hx1, ← hx2, ← hx3]; rfl
  have r0 := (c3_cmp op).range op'
  have r1 := (c3s_cmp nm).range nm'
  have r2 := (c3_cmp ix).range ix'
  have r3 := (lexl_cmp c3s c3s_cmp srt).range srt'
  rw [hx0] at r0
  rw [hx1] at r1
  rw [hx2] at r2
  rw [hx3] at r3
  rw [hval]
  have hr := or2_range r0 (or2_range r1 (or2_range r2 r3))
  have hf4 := firstNZ_four x0 x1 x2 x3
  obtain ⟨c, hc⟩ : ∃ c, or2 x0 (or2 x1 (or2 x2 x3)) = c := ⟨_, rfl⟩
  rw [hc] at hr hf4 ⊢
  have HF4 := Lib.hid hf4
  have HR := Lib.hid hr
  have X0 := Lib.hid hx0
  have X1 := Lib.hid hx1
  have X2 := Lib.hid hx2
  have X3 := Lib.hid hx3
  clear hval hx0 hx1 hx2 hx3 hc hf4 r0 r1 r2 r3 hr
  go_enter Tryd.func80, Tryd.ntmps80
  go_wp2_with fail
  refine wp_region_still_tail 36 (by kernel_rfl) (by kernel_rfl) ?_
  simp only [List.take_succ_cons, List.take_zero, List.drop_succ_cons, List.drop_zero]
  repeat (first | still_call ((cmp_int _ _ _).mono (fun e w' ⟨he, hw⟩ => ⟨he, hw.symm⟩)) | still_call ((cmp_str _ _ _).mono (fun e w' ⟨he, hw⟩ => ⟨he, hw.symm⟩)) | still_call ((cmp_strs B _ _ _ _ w.drew hsd hsd').mono (fun e w' ⟨he, hw⟩ => ⟨he, hw.symm⟩)) | still_step)
  try refine wpStill_nil ?_
  change wpList _ _ _ _ _ w.drew
  rw [X0.out, X1.out, X2.out, X3.out]
  clear hs hs' hsd hsd' k0 k1 k2 k3 k4 k0' k1' k2' k3' k4' hop hix hnm hop' hix' hnm'
  go_wp2_with fail
  refine (or_ints' w _ _ _ [x0, x1, x2, x3] _ _ rfl (by simp) ?hcell ?hbel).mono ?_
  case hcell =>
    intro i hi
    simp only [List.length_cons, List.length_nil, Nat.zero_add, Nat.reduceAdd] at hi
    match i, hi with
    | 0, _ => go_simp
    | 1, _ => go_simp
    | 2, _ => go_simp
    | 3, _ => go_simp
  case hbel => exact ((Below.refl _ _).alloc (by simp) _).drew
  rw [HF4.out]
  rintro e W ⟨rfl, hW⟩
  have kk := K4.out W hW
  have kk' := K4'.out W hW
  rcases HR.out with rfl | rfl | rfl
  · go_wp2_with fail
    go_ret
    exact ⟨ret_i64 (by rfl), hW⟩
  · go_wp2_with fail
    have HE := Lib.hid he
    have HE' := Lib.hid he'
    have HA := Lib.hid ha
    have HA' := Lib.hid ha'
    clear he he' ha ha'
    by_cases hmn : args'.length < args.length
    all_goals
      go_quiet (fail)
      go_wp2_with fail
      go_loopw [60] (fun t wr => ∃ k : Nat, t = .int .i64 k ∧ k ≤ args.length ∧ k ≤ args'.length ∧ Ty.cmpL (args.drop k) (args'.drop k) = Ty.cmpL args args' ∧ Below w.heap.size w wr) (fun t _ => args.length - (intOf t).toNat)
      case atStart => exact ⟨0, rfl, Nat.zero_le _, Nat.zero_le _, rfl, below_drewN hW _⟩
      case round =>
        obtain ⟨k, rfl, hk1, hk2, hf, hwr⟩ := hrel
        have HF := Lib.hid hf
        clear hf
        have kk := K4.out wr hwr
        have kk' := K4'.out wr hwr
        by_cases hlt : k < args.length ∧ k < args'.length
        · obtain ⟨hlt1, hlt2⟩ := hlt
          obtain ⟨rfl, hab⟩ := HA.out (by intro e; subst e; simp at hlt1)
          obtain ⟨rfl, hab'⟩ := HA'.out (by intro e; subst e; simp at hlt2)
          go_wp2_with fail
          refine wp_region_still_tail 12 (by kernel_rfl) (by kernel_rfl) ?_
          simp only [List.take_succ_cons, List.take_zero, List.drop_succ_cons, List.drop_zero]
          repeat still_step
          try refine wpStill_nil ?_
          change wpList _ _ _ _ _ wr.drew
          go_wp2_with fail
          have hB2 : B ≤ wr.drew.heap.size := by have := hwr.size; show B ≤ wr.heap.size; omega
          have hbd : Below B w wr.drew := (hwr.drew).mono hB
          refine (IH.out B ab (ao + k * 5) ab' (ao' + k * 5) args[k] args'[k] wr.drew (by have := Ty.size_arg (op := op) (ix := ix) (nm := nm) (srt := srt) k hlt1; omega) hB2 (AtTy.later hbd (Nat.le_refl _) (HE.out k hlt1)) (AtTy.later hbd (Nat.le_refl _) (HE'.out k hlt2))).mono ?_
          rintro e W2 ⟨rfl, hW2⟩
          have hW3 : Below w.heap.size w W2 := hwr.drew.trans (hW2.mono hwr.size)
          have hr := (Ty.cmp_cmp args[k]).range args'[k]
          have hd := Lib.hid (cmpL_drop args args' k hlt1 hlt2)
          obtain ⟨c, hc⟩ : ∃ c, Ty.cmp args[k] args'[k] = c := ⟨_, rfl⟩
          rw [hc] at hr ⊢
          have HC := Lib.hid hc
          clear hc
          rcases hr with rfl | rfl | rfl
          · go_wp2_with fail
            go_ret
            exact ⟨ret_i64 (by rw [← HF.out, hd.out, HC.out]; rfl), hW3⟩
          · go_wp2_with fail
            go_roundw
            case rel => exact ⟨k + 1, by go_num, by omega, by omega, by rw [← HF.out, hd.out, HC.out]; rfl, hW3⟩
            case measure => simp [intOf]; omega
          · go_wp2_with fail
            go_ret
            exact ⟨ret_i64 (by rw [← HF.out, hd.out, HC.out]; rfl), hW3⟩
        · have hend := Lib.hid (cmpL_tail args args' k hk1 hk2 (by omega))
          go_wp2_with fail
          go_quiet ((go_at_call 61; exact cmp_int_q _ _ _ _))
          go_wp2_with fail
          go_ret
          exact ⟨ret_i64 (by rw [← HF.out, hend.out]; rfl), below_drewN hwr _⟩
  · go_wp2_with fail
    go_ret
    exact ⟨ret_i64 (by rfl), hW⟩
end Go.Proofs.YtdffhnfjcbnioaaDoor
