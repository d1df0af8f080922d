/-
  The contract of term.compare: by recursion on the first tree; term.Equal.
-/
import Derived.Test.YtdffhnfjcbnioaaDoorT3
import Derived.StillTailTactics
import Derived.Deep.RegionHeld3
namespace Go.Proofs.YtdffhnfjcbnioaaDoor
open Go.RowKit

/-- A boxed term lies in its block. -/
theorem HasTm.boxed {B : Nat} {w : World} {v : Value} {T : Tm} (h : HasTm B w v T) (hB : B ≤ w.heap.size) (t : TypeId) : ∃ vs, v = .agg vs ∧ AtTm (w.heap.size + 1) (w.alloc (.cells vs t)) w.heap.size 0 T := by
  have h' := h
  obtain ⟨vs, sa, sc, a, cap, kb, ko, rfl, _⟩ := h'
  refine ⟨_, rfl, ?_⟩
  have hb : Below B w (w.alloc (.cells #[.int .i64 T.op, .string T.name, .int .i64 T.num, .int .i64 T.ty.op, .string T.ty.name, .int .i64 T.ty.index, vs, .slice sa T.ty.args.length sc, .slice a T.kids.length cap] t)) := ((Below.refl _ _).alloc (Nat.le_refl _) _).mono hB
  refine atTm_of_has (cs := [.int .i64 T.op, .string T.name, .int .i64 T.num, .int .i64 T.ty.op, .string T.ty.name, .int .i64 T.ty.index, vs, .slice sa T.ty.args.length sc, .slice a T.kids.length cap]) (Nat.lt_succ_self _) (fun j hj => ?_) (h.later hb (by omega))
  rw [World.cell?_alloc_new, Nat.zero_add]
  simp

theorem cmp_str_q (x y : ByteArray) (w : World) (n : Nat) : Calls Tryd.prog 79 #[.string x, .string y] (w.drewN n) fun e w' => e = .returned (.int .i64 (c3s x y)) ∧ ∃ m, w' = w.drewN m :=
  (cmp_str x y (w.drewN n)).mono fun _ _ ⟨he, hw⟩ => ⟨he, n, hw.symm⟩

set_option maxHeartbeats 1000000 in
theorem names_any (b1 o1 b2 o2 : Nat) (op : Int) (nm nm' : ByteArray) (w : World) (c0 : w.cell? ⟨b1, o1, none⟩ = some (.int .i64 op)) (c1 : w.cell? ⟨b1, o1 + 1, none⟩ = some (.string nm)) (d1 : w.cell? ⟨b2, o2 + 1, none⟩ = some (.string nm')) :
    Calls Tryd.prog 62 #[.pointer (some ⟨b1, o1, none⟩), .pointer (some ⟨b2, o2, none⟩)] w fun e w' => e = .returned (.int .i64 (nameC op nm nm')) ∧ Below w.heap.size w w' := by
  by_cases h : op = 5
  · subst h
    go_enter Tryd.func62, Tryd.ntmps62
    go_wp2_with fail
    go_ret
    exact ⟨rfl, Below.refl _ _⟩
  · have hn : nameC op nm nm' = c3s nm nm' := if_neg h
    have HN := Lib.hid hn
    have hne : (op == 5) = false := by simpa using h
    clear hn h
    go_enter Tryd.func62, Tryd.ntmps62
    go_wp2_with fail
    go_quiet ((go_at_call 79; exact cmp_str_q _ _ _ _))
    go_wp2_with fail
    go_ret
    exact ⟨ret_i64 HN.out.symm, below_drewN (Below.refl _ _) _⟩

theorem firstNZ_three (a b c : Int) : firstNZ [a, b, c] = or2 a (or2 b c) := by
  have : or2 c 0 = c := by unfold or2; split <;> simp [*]
  simp [firstNZ, this]

theorem nameC_range (o : Int) (n n' : ByteArray) : nameC o n n' = -1 ∨ nameC o n n' = 0 ∨ nameC o n n' = 1 := by
  unfold nameC
  split
  · simp
  · exact (c3s_cmp n).range n'

set_option maxRecDepth 100000 in
set_option maxHeartbeats 8000000 in
theorem tcompare_any (N : Nat) : ∀ (B : Nat) (b1 o1 b2 o2 : Nat) (T1 T2 : Tm) (w : World), T1.sz < N → B ≤ w.heap.size → AtTm B w b1 o1 T1 → AtTm B w b2 o2 T2 →
    Calls Tryd.prog 44 #[.pointer (some ⟨b1, o1, none⟩), .pointer (some ⟨b2, o2, none⟩)] w fun e w' => e = .returned (.int .i64 (Tm.cmp T1 T2)) ∧ Below w.heap.size w w' := by
  induction N with
  | zero => intro B b1 o1 b2 o2 T1 T2 w hN; omega
  | succ N ih =>
  intro B b1 o1 b2 o2 T1 T2 w hN hB h1 h2
  have IH := Lib.hid ih
  clear ih
  obtain ⟨_, _, op, num, nm, ty, kids, a, cap, kb, ko, hb, k0, k1, k2, kt, k8, hop, hnum, hnm, hl, ha, he⟩ := h1
  obtain ⟨_, _, op', num', nm', ty', kids', a', cap', kb', ko', hb', k0', k1', k2', kt', k8', hop', hnum', hnm', hl', ha', he'⟩ := h2
  have K8 := Lib.hid fun W (h : Below w.heap.size w W) => (h.cell (p := ⟨b1, o1 + 8, none⟩) (by show b1 < _; omega)).trans k8
  have K8' := Lib.hid fun W (h : Below w.heap.size w W) => (h.cell (p := ⟨b2, o2 + 8, none⟩) (by show b2 < _; omega)).trans k8'
  have KT := Lib.hid fun W (h : Below w.heap.size w W) => AtTy.val (kt.later (h.mono hB) (Nat.le_refl B))
  have KT' := Lib.hid fun W (h : Below w.heap.size w W) => AtTy.val (kt'.later (h.mono hB) (Nat.le_refl B))
  have KN := Lib.hid fun W (h : Below w.heap.size w W) => names_any b1 o1 b2 o2 op nm nm' W ((h.cell (p := ⟨b1, o1, none⟩) (by show b1 < _; omega)).trans k0) ((h.cell (p := ⟨b1, o1 + 1, none⟩) (by show b1 < _; omega)).trans k1) ((h.cell (p := ⟨b2, o2 + 1, none⟩) (by show b2 < _; omega)).trans k1')
  have C0 := Lib.hid fun W (h : Below w.heap.size w W) => (h.cell (p := ⟨b1, o1, none⟩) (by show b1 < _; omega)).trans k0
  have C0' := Lib.hid fun W (h : Below w.heap.size w W) => (h.cell (p := ⟨b2, o2, none⟩) (by show b2 < _; omega)).trans k0'
  have C2 := Lib.hid fun W (h : Below w.heap.size w W) => (h.cell (p := ⟨b1, o1 + 2, none⟩) (by show b1 < _; omega)).trans k2
  have C2' := Lib.hid fun W (h : Below w.heap.size w W) => (h.cell (p := ⟨b2, o2 + 2, none⟩) (by show b2 < _; omega)).trans k2'
  obtain ⟨x0, hx0⟩ : ∃ x, c3 op op' = x := ⟨_, rfl⟩
  obtain ⟨x1, hx1⟩ : ∃ x, nameC op nm nm' = x := ⟨_, rfl⟩
  obtain ⟨x2, hx2⟩ : ∃ x, c3 num num' = x := ⟨_, rfl⟩
  obtain ⟨x3, hx3⟩ : ∃ x, Ty.cmp ty ty' = x := ⟨_, rfl⟩
  have hval : Tm.cmp (.mk op nm num ty kids) (.mk op' nm' num' ty' kids') = or2 (or2 x0 (or2 x1 x2)) (or2 x3 (Tm.cmpL kids kids')) := by rw [← hx0, ← hx1, ← hx2, ← hx3]; rfl
  have r0 := (c3_cmp op).range op'
  have r1 := nameC_range op nm nm'
  have r2 := (c3_cmp num).range num'
  have r3 := (Ty.cmp_cmp ty).range ty'
  have hnC := fun W h => KN.out W h
  rw [hx0] at r0
  rw [hx1] at r1
  rw [hx2] at r2
  rw [hx3] at r3
  simp only [hx1] at hnC
  rw [hval]
  have hr := or2_range r0 (or2_range r1 r2)
  have hf4 := firstNZ_three x0 x1 x2
  obtain ⟨c, hc⟩ : ∃ c, or2 x0 (or2 x1 x2) = c := ⟨_, rfl⟩
  rw [hc] at hr hf4 ⊢
  have HF4 := Lib.hid hf4
  have HR := Lib.hid hr
  have HR3 := Lib.hid r3
  have NC := Lib.hid hnC
  have hf5 : firstNZ [c3 op op', x1, c3 num num'] = c := by rw [hx0, hx2]; exact hf4
  have HF5 := Lib.hid hf5
  have X3 := Lib.hid hx3
  clear hf5 hval hx0 hx1 hx2 hx3 hc hf4 r0 r1 r2 r3 hr hnC KN k0 k1 k2 kt k8 k0' k1' k2' kt' k8' hop hnum hnm hop' hnum' hnm'
  have q0 := C0.out w.drew (below_drewN (Below.refl _ _) 1)
  have q0' := C0'.out w.drew (below_drewN (Below.refl _ _) 1)
  have q2 := C2.out w.drew (below_drewN (Below.refl _ _) 1)
  have q2' := C2'.out w.drew (below_drewN (Below.refl _ _) 1)
  go_enter Tryd.func44, Tryd.ntmps44
  go_wp2_with fail
  go_region_held3 (fun W => W.cell? ⟨b1, o1, none⟩ = some (.int .i64 op) ∧ W.cell? ⟨b2, o2, none⟩ = some (.int .i64 op') ∧ W.cell? ⟨b1, o1 + 2, none⟩ = some (.int .i64 num) ∧ W.cell? ⟨b2, o2 + 2, none⟩ = some (.int .i64 num'))
    (first | (refine ⟨?_, ?_, ?_, ?_⟩ <;> assumption) | exact ⟨C0.out _ (HB1.out.trans (((Below.refl _ w1).alloc (Nat.le_refl _) _).mono HB1.out.size)), C0'.out _ (HB1.out.trans (((Below.refl _ w1).alloc (Nat.le_refl _) _).mono HB1.out.size)), C2.out _ (HB1.out.trans (((Below.refl _ w1).alloc (Nat.le_refl _) _).mono HB1.out.size)), C2'.out _ (HB1.out.trans (((Below.refl _ w1).alloc (Nat.le_refl _) _).mono HB1.out.size))⟩)
    ((first
      | (go_at_call 62
         refine (NC.out w.drew (below_drewN (Below.refl _ _) 1)).mono ?_
         rintro e w1 ⟨rfl, hw1⟩
         have HB1 := Lib.hid (show Below w.heap.size w w1 from (below_drewN (Below.refl w.heap.size w) 1).trans hw1)
         have p0 := C0.out w1 HB1.out
         have p0' := C0'.out w1 HB1.out
         have p2 := C2.out w1 HB1.out
         have p2' := C2'.out w1 HB1.out)
      | (go_at_call 60
         have _g : w1 = w1 := rfl
         refine (or_ints' w _ _ _ [c3 op op', x1, c3 num num'] _ _ rfl (by simp) ?hcell ?hbel).mono ?_
         case hcell =>
           intro i hi
           simp only [List.length_cons, List.length_nil, Nat.zero_add, Nat.reduceAdd] at hi
           match i, hi with
           | 0, _ => go_simp
           | 1, _ => go_simp
           | 2, _ => go_simp
         case hbel => exact HB1.out.trans (((Below.refl _ _).alloc (Nat.le_refl _) _).mono HB1.out.size)
         rw [HF5.out]
         rintro e W ⟨rfl, hW⟩
         have s0 := C0.out W hW
         have s0' := C0'.out W hW
         have s2 := C2.out W hW
         have s2' := C2'.out W hW)
      | (go_at_call 61
         refine (cmp_int _ _ _).mono ?_
         rintro e w' ⟨rfl, rfl⟩)))
  clear q0 q0' q2 q2' p0 p0' p2 p2' s0 s0' s2 s2'
  rcases HR.out with rfl | rfl | rfl
  · go_wp2_with fail
    go_ret
    exact ⟨ret_i64 (by rfl), hW⟩
  · have hWd : Below w.heap.size w W.drew := below_drewN hW 1
    obtain ⟨sa, sc, ta, tc, tb, t0, t1, t2, t3, t4, tv⟩ := KT.out W.drew hWd
    obtain ⟨sa', sc', ta', tc', tb', t0', t1', t2', t3', t4', tv'⟩ := KT'.out W.drew hWd
    have hBd : B ≤ W.drew.heap.size := by have := hW.size; show B ≤ W.heap.size; omega
    have HCV := Lib.hid (compare_val B _ _ _ _ W.drew hBd tv tv')
    clear tv tv' tb tb'
    go_wp2_with fail
    refine wp_region_still_tail 8 (by kernel_rfl) (by kernel_rfl) ?_
    simp only [List.take_succ_cons, List.take_zero, List.drop_succ_cons, List.drop_zero]
    repeat still_step
    try refine wpStill_nil ?_
    change wpList _ _ _ _ _ W.drew
    go_wp2_with fail
    refine HCV.out.mono ?_
    rw [X3.out]
    rintro e W4 ⟨rfl, hW4⟩
    have hB4 : Below w.heap.size w W4 := hWd.trans (hW4.mono hWd.size)
    clear t0 t1 t2 t3 t4 t0' t1' t2' t3' t4' hWd hBd hW4
    have kk := K8.out W4 hB4
    have kk' := K8'.out W4 hB4
    rcases HR3.out with rfl | rfl | rfl
    · go_wp2_with fail
      go_ret
      exact ⟨ret_i64 (by rfl), hB4⟩
    · go_wp2_with fail
      have HE := Lib.hid he
      have HE' := Lib.hid he'
      have HA := Lib.hid ha
      have HA' := Lib.hid ha'
      clear he he' ha ha'
      by_cases hmn : kids'.length < kids.length
      all_goals
        go_quiet (fail)
        go_wp2_with fail
        go_loopw [58] (fun t wr => ∃ k : Nat, t = .int .i64 k ∧ k ≤ kids.length ∧ k ≤ kids'.length ∧ Tm.cmpL (kids.drop k) (kids'.drop k) = Tm.cmpL kids kids' ∧ Below w.heap.size w wr) (fun t _ => kids.length - (intOf t).toNat)
        case atStart => exact ⟨0, rfl, Nat.zero_le _, Nat.zero_le _, rfl, below_drewN hB4 _⟩
        case round =>
          obtain ⟨k, rfl, hk1, hk2, hf, hwr⟩ := hrel
          have HF := Lib.hid hf
          clear hf
          have kk := K8.out wr hwr
          have kk' := K8'.out wr hwr
          by_cases hlt : k < kids.length ∧ k < kids'.length
          · obtain ⟨hlt1, hlt2⟩ := hlt
            obtain ⟨rfl, hab⟩ := HA.out (by intro e; subst e; simp at hlt1)
            obtain ⟨rfl, hab'⟩ := HA'.out (by intro e; subst e; simp at hlt2)
            go_wp2_with fail
            refine wp_region_still_tail 12 (by kernel_rfl) (by kernel_rfl) ?_
            simp only [List.take_succ_cons, List.take_zero, List.drop_succ_cons, List.drop_zero]
            repeat still_step
            try refine wpStill_nil ?_
            change wpList _ _ _ _ _ wr.drew
            go_wp2_with fail
            have hB2 : B ≤ wr.drew.heap.size := by have := hwr.size; show B ≤ wr.heap.size; omega
            have hbd : Below B w wr.drew := (hwr.drew).mono hB
            refine (IH.out B kb (ko + k * 9) kb' (ko' + k * 9) kids[k] kids'[k] wr.drew (by have := Tm.size_kid (op := op) (num := num) (nm := nm) (ty := ty) k hlt1; omega) hB2 (AtTm.later hbd (Nat.le_refl _) (HE.out k hlt1)) (AtTm.later hbd (Nat.le_refl _) (HE'.out k hlt2))).mono ?_
            rintro e W2 ⟨rfl, hW2⟩
            have hW3 : Below w.heap.size w W2 := hwr.drew.trans (hW2.mono hwr.size)
            have hr := Tm.cmp_range kids[k] kids'[k]
            have hd := Lib.hid (Tm.cmpL_drop kids kids' k hlt1 hlt2)
            obtain ⟨c, hc⟩ : ∃ c, Tm.cmp kids[k] kids'[k] = c := ⟨_, rfl⟩
            rw [hc] at hr ⊢
            have HC := Lib.hid hc
            clear hc
            rcases hr with rfl | rfl | rfl
            · go_wp2_with fail
              go_ret
              exact ⟨ret_i64 (by rw [← HF.out, hd.out, HC.out]; rfl), hW3⟩
            · go_wp2_with fail
              go_roundw
              case rel => exact ⟨k + 1, by go_num, by omega, by omega, by rw [← HF.out, hd.out, HC.out]; rfl, hW3⟩
              case measure => simp [intOf]; omega
            · go_wp2_with fail
              go_ret
              exact ⟨ret_i64 (by rw [← HF.out, hd.out, HC.out]; rfl), hW3⟩
          · have hend := Lib.hid (Tm.cmpL_tail kids kids' k hk1 hk2 (by omega))
            go_wp2_with fail
            go_quiet ((go_at_call 61; exact cmp_int_q _ _ _ _))
            go_wp2_with fail
            go_ret
            exact ⟨ret_i64 (by rw [← HF.out, hend.out]; rfl), below_drewN hwr _⟩
    · go_wp2_with fail
      go_ret
      exact ⟨ret_i64 (by rfl), hB4⟩
  · go_wp2_with fail
    go_ret
    exact ⟨ret_i64 (by rfl), hW⟩

set_option maxRecDepth 100000 in
set_option maxHeartbeats 1000000 in
theorem tequal_val (B : Nat) (v1 v2 : Value) (T1 T2 : Tm) (w : World) (hB : B ≤ w.heap.size) (h1 : HasTm B w v1 T1) (h2 : HasTm B w v2 T2) :
    Calls Tryd.prog 27 #[v1, v2] w fun e w' => e = .returned (.bool (Tm.cmp T1 T2 == 0)) ∧ Below w.heap.size w w' := by
  obtain ⟨vs1, rfl, a1⟩ := h1.boxed hB 29
  have h2' := h2.later (W' := w.alloc (.cells vs1 29)) (((Below.refl _ _).alloc (Nat.le_refl _) _).mono hB) (Nat.le_refl _)
  obtain ⟨vs2, rfl, a2⟩ := h2'.boxed (by simp; omega) 29
  rw [World.size_alloc] at a2
  have a1' := AtTm.later (B' := w.heap.size + 1 + 1) (W' := (w.alloc (.cells vs1 29)).alloc (.cells vs2 29)) (((Below.refl _ _).alloc (by simp) _)) (by omega) a1
  have A1 := Lib.hid a1'
  have A2 := Lib.hid a2
  have hc := Lib.hid fun w0 (hw0 : w0 = (w.alloc (.cells vs1 29)).alloc (.cells vs2 29)) => tcompare_any (T1.sz + 1) (w.heap.size + 1 + 1) w.heap.size 0 (w.heap.size + 1) 0 T1 T2 w0 (by omega) (by rw [hw0]; simp) (by rw [hw0]; exact A1.out) (by rw [hw0]; exact A2.out)
  clear a1 a2 a1' h1 h2 h2'
  go_enter Tryd.func27, Tryd.ntmps27
  go_wp2_with fail
  refine (hc.out _ rfl).mono ?_
  rintro e W ⟨rfl, hW⟩
  have hb : Below w.heap.size w W := (((Below.refl _ _).alloc (Nat.le_refl _) _).alloc (by simp) _).trans (hW.mono (by simp; omega))
  go_wp2_with fail
  go_ret
  exact ⟨rfl, hb⟩
end Go.Proofs.YtdffhnfjcbnioaaDoor
