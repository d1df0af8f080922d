import Derived.Test.YtlaibimdkamcfaaF1
import Derived.OwnWalk
section
/-
  The reference's put.
-/
namespace Go.Proofs.Ytlaibimdkamcfaa
open Go.RowKit Go.Maps

set_option maxRecDepth 100000 in
set_option maxHeartbeats 4000000 in
theorem refPut_any {xa : Option Addr} {l : List ByteArray} {xc : Nat} (s : ByteArray) (w : World) (hx : SortAt w xa l) (hl : l.length ≤ 1000) (hs : s.size ≤ maxLen) :
    Calls Try.prog 76 #[.slice xa l.length xc, .string s] w fun e w' => ∃ v, e = .returned v ∧ w'.ownsRow w.heap.size 9 1 v (putL s l).length ((putL s l).map Value.string) ∧ Below w.heap.size w w' := by
  have HX := Lib.hid hx
  have HSZ := Lib.hid hx.size
  have HS := Lib.hid hs
  clear hx hs
  obtain ⟨i9, hi9, hx0, hx1, hxb⟩ := info_parts Try.info9'
  go_enter Try.func76, Try.ntmps76
  go_wp2_with fail
  have ho0 : (w.alloc (.cells #[] 9)).ownsRow w.heap.size 9 1 (.slice (some ⟨w.heap.size, 0, none⟩) 0 0) 0 [] := World.ownsRow_made w #[] 0 (Nat.le_refl _) (Nat.zero_le _) rfl
  have hb0 : Below w.heap.size w (w.alloc (.cells #[] 9)) := (Below.refl _ w).alloc (Nat.le_refl _) _
  have HO0 := Lib.hid ho0
  have HB0 := Lib.hid hb0
  clear ho0 hb0
  generalize (Value.slice (some ⟨w.heap.size, 0, none⟩) 0 0) = v0 at *
  generalize (w.alloc (.cells #[] 9)) = w1 at *
  go_loopw [5, 6, 7] (fun ov dv t wr => ∃ (i : Nat) (o : List ByteArray) (dn : Bool), t = .int .i64 i ∧ dv = .bool dn ∧ i ≤ l.length ∧ ((dn = false → o.length ≤ i) ∧ o.length ≤ i + 1) ∧ (if dn then o ++ l.drop i = putL s l else o ++ putL s (l.drop i) = putL s l) ∧ wr.ownsRow w.heap.size 9 1 ov o.length (o.map Value.string) ∧ Below w.heap.size w wr) (fun _ _ t _ => l.length - (intOf t).toNat)
  case atStart => exact ⟨0, [], false, rfl, rfl, Nat.zero_le _, ⟨fun _ => Nat.zero_le _, Nat.zero_le _⟩, by simp, HO0.out, HB0.out⟩
  case round =>
    obtain ⟨i, o, dn, rfl, rfl, hi, ⟨hol0, hol⟩, hp, ho, hb⟩ := hrel
    have HP := Lib.hid hp
    have HO := Lib.hid ho
    have HB := Lib.hid hb
    obtain ⟨oa, oc, rfl⟩ := own_slice ho
    by_cases hlt : i < l.length
    · obtain ⟨b, off, hxa, hxs0, _⟩ := HX.out
      have hxs := hxs0.later hb
      have e := hxa (by intro e; subst e; simp at hlt)
      subst e
      have hcx := hxs.cell i hlt
      have HLB := Lib.hid (hxs0.lt (by intro e; subst e; simp at hlt))
      have HZ := Lib.hid (HSZ.out _ (List.getElem_mem hlt))
      have HDR := Lib.hid (List.drop_eq_getElem_cons hlt)
      obtain ⟨x, hx⟩ : ∃ x, l[i] = x := ⟨_, rfl⟩
      rw [hx] at hcx HZ HDR
      clear hp ho hb hxa hxs hxs0 hx
      cases dn with
      | true =>
        clear hol0
        have hfin : (o ++ [x]) ++ l.drop (i + 1) = putL s l := by
          have h := HP.out
          rw [if_pos rfl, HDR.out] at h
          rw [← h]; simp
        have HF := Lib.hid hfin
        clear hfin
        go_wp2_with (at_builtin; refine wpList_append_own _ rfl _ _ 27 rfl w.heap.size 9 i9 (.string ByteArray.empty) 1 16 Try.underlying27 hi9 hx0 hx1 hxb rfl (by decide) _ _ _ rfl (HO.out.alloc _) ⟨wr.heap.size, 0, none⟩ 1 1 [.string x] rfl rfl (cell_one_new _ _ _) (by simp [Value.oneCell']) (by unfold maxLen; omega) (by omega) (by have := HB.out.size; simp; omega) ?_; intro v' w7 hown7 hgrow7 _)
        have hb7 : Below w.heap.size wr w7 := ((Below.refl w.heap.size wr).alloc HB.out.size _).grown hgrow7 (by have := HB.out.size; simp; omega) (fun q e => (HO.out.lt q e).1)
        refine ⟨⟨i + 1, o ++ [x], true, by simp only [Int.natCast_add, Int.natCast_one], rfl, by omega, ⟨fun h => (by cases h), by simp; omega⟩, by rw [if_pos rfl]; exact HF.out, ?_, HB.out.trans hb7⟩, ?_⟩
        · simpa using hown7
        · show l.length - ((i : Int) + 1).toNat < l.length - ((i : Nat) : Int).toNat
          omega
      | false =>
        have hol1 := hol0 rfl
        clear hol0
        have hpp := HP.out
        rw [if_neg (by simp), HDR.out] at hpp
        have hbl := bytesLess_ltS x s
        cases hbb : Op.bytesLess x.toList s.toList with
        | true =>
          have HF := Lib.hid (putL_step (hbl.1 hbb) hpp)
          clear hpp hbl
          go_wp2_with (at_builtin; refine wpList_append_own _ rfl _ _ 27 rfl w.heap.size 9 i9 (.string ByteArray.empty) 1 16 Try.underlying27 hi9 hx0 hx1 hxb rfl (by decide) _ _ _ rfl (HO.out.alloc _) ⟨wr.heap.size, 0, none⟩ 1 1 [.string x] rfl rfl (cell_one_new _ _ _) (by simp [Value.oneCell']) (by unfold maxLen; omega) (by omega) (by have := HB.out.size; simp; omega) ?_; intro v' w7 hown7 hgrow7 _)
          have hb7 : Below w.heap.size wr w7 := ((Below.refl w.heap.size wr).alloc HB.out.size _).grown hgrow7 (by have := HB.out.size; simp; omega) (fun q e => (HO.out.lt q e).1)
          refine ⟨⟨i + 1, o ++ [x], false, by simp only [Int.natCast_add, Int.natCast_one], rfl, by omega, ⟨fun _ => by simp; omega, by simp; omega⟩, by rw [if_neg (by simp)]; exact HF.out, ?_, HB.out.trans hb7⟩, ?_⟩
          · simpa using hown7
          · show l.length - ((i : Int) + 1).toNat < l.length - ((i : Nat) : Int).toNat
            omega
        | false =>
          have hf := putL_found (fun h => by have := hbl.2 h; rw [hbb] at this; cases this) hpp
          have hq := toList_beq x s
          by_cases he : x = s
          · rw [if_pos he] at hf
            rw [decide_eq_true he] at hq
            have HF := Lib.hid hf
            clear hpp hbl he hf
            go_wp2_with (at_builtin; refine wpList_append_own _ rfl _ _ 27 rfl w.heap.size 9 i9 (.string ByteArray.empty) 1 16 Try.underlying27 hi9 hx0 hx1 hxb rfl (by decide) _ _ _ rfl (HO.out.alloc _) ⟨wr.heap.size, 0, none⟩ 1 1 [.string x] rfl rfl (cell_one_new _ _ _) (by simp [Value.oneCell']) (by unfold maxLen; omega) (by omega) (by have := HB.out.size; simp; omega) ?_; intro v' w7 hown7 hgrow7 _)
            have hb7 : Below w.heap.size wr w7 := ((Below.refl w.heap.size wr).alloc HB.out.size _).grown hgrow7 (by have := HB.out.size; simp; omega) (fun q e => (HO.out.lt q e).1)
            refine ⟨⟨i + 1, o ++ [x], true, by simp only [Int.natCast_add, Int.natCast_one], rfl, by omega, ⟨fun h => (by cases h), by simp; omega⟩, by rw [if_pos rfl]; exact HF.out, ?_, HB.out.trans hb7⟩, ?_⟩
            · simpa using hown7
            · show l.length - ((i : Int) + 1).toNat < l.length - ((i : Nat) : Int).toNat
              omega
          · rw [if_neg he] at hf
            rw [decide_eq_false he] at hq
            have HF := Lib.hid hf
            clear hpp hbl he hf
            go_wp2_with (first | (have _g : w7 = w7 := rfl; at_builtin; refine wpList_append_own _ rfl _ _ 27 rfl w.heap.size 9 i9 (.string ByteArray.empty) 1 16 Try.underlying27 hi9 hx0 hx1 hxb rfl (by decide) _ _ _ rfl (HO7.out.alloc _) ⟨w7.heap.size, 0, none⟩ 1 1 [.string x] rfl rfl (cell_one_new _ _ _) (by simp [Value.oneCell']) (by unfold maxLen; omega) (by omega) (by have := HB7.out.size; simp; omega) ?_; intro v' w8 hown8 hgrow8 _) | (at_builtin; refine wpList_append_own _ rfl _ _ 27 rfl w.heap.size 9 i9 (.string ByteArray.empty) 1 16 Try.underlying27 hi9 hx0 hx1 hxb rfl (by decide) _ _ _ rfl (HO.out.alloc _) ⟨wr.heap.size, 0, none⟩ 1 1 [.string s] rfl rfl (cell_one_new _ _ _) (by simp [Value.oneCell']) (by unfold maxLen; omega) (by omega) (by have := HB.out.size; simp; omega) ?_; intro v' w7 hown7 hgrow7 _; have hb7 : Below w.heap.size wr w7 := ((Below.refl w.heap.size wr).alloc HB.out.size _).grown hgrow7 (by have := HB.out.size; simp; omega) (fun q e => (HO.out.lt q e).1); have k7 := (hb7.cell (p := ⟨b, off + i, none⟩) HLB.out).trans hcx; have HB7 := Lib.hid (HB.out.trans hb7); have HO7 := Lib.hid hown7; obtain ⟨oa7, oc7, rfl⟩ := own_slice hown7; clear hown7 hgrow7 hb7))
            have hb8 : Below w.heap.size w7 w8 := ((Below.refl w.heap.size w7).alloc HB7.out.size _).grown hgrow8 (by have := HB7.out.size; simp; omega) (fun q e => (HO7.out.lt q e).1)
            refine ⟨⟨i + 1, o ++ [s] ++ [x], true, by simp only [Int.natCast_add, Int.natCast_one], rfl, by omega, ⟨fun h => (by cases h), by simp; omega⟩, by rw [if_pos rfl]; exact HF.out, ?_, HB7.out.trans hb8⟩, ?_⟩
            · simpa using hown8
            · show l.length - ((i : Int) + 1).toNat < l.length - ((i : Nat) : Int).toNat
              omega
    · have hd : l.drop i = [] := List.drop_eq_nil_of_le (by omega)
      rw [hd] at hp
      clear hb ho HP hd
      cases dn with
      | true =>
        rw [if_pos rfl, List.append_nil] at hp
        have HF := Lib.hid hp
        clear hp
        go_wp2_with fail
        go_ret
        refine ⟨_, rfl, ?_, HB.out⟩
        rw [← HF.out]; exact HO.out
      | false =>
        rw [if_neg (by simp)] at hp
        have HF := Lib.hid hp
        clear hp hol0
        go_wp2_with (at_builtin; refine wpList_append_own _ rfl _ _ 27 rfl w.heap.size 9 i9 (.string ByteArray.empty) 1 16 Try.underlying27 hi9 hx0 hx1 hxb rfl (by decide) _ _ _ rfl (HO.out.alloc _) ⟨wr.heap.size, 0, none⟩ 1 1 [.string s] rfl rfl (cell_one_new _ _ _) (by simp [Value.oneCell']) (by unfold maxLen; omega) (by omega) (by have := HB.out.size; simp; omega) ?_; intro v' w7 hown7 hgrow7 _)
        have hb7 : Below w.heap.size wr w7 := ((Below.refl w.heap.size wr).alloc HB.out.size _).grown hgrow7 (by have := HB.out.size; simp; omega) (fun q e => (HO.out.lt q e).1)
        go_ret
        refine ⟨_, rfl, ?_, HB.out.trans hb7⟩
        rw [← HF.out]
        simpa [putL] using hown7
end Go.Proofs.Ytlaibimdkamcfaa
end

section
/-
  The reference's above, under.
-/
namespace Go.Proofs.Ytlaibimdkamcfaa
open Go.RowKit Go.Maps

theorem Try.info4' : (Try.prog.info? 4).map (fun i => (i.zero, i.size, i.bytes)) = some (some (Value.bool false), 1, 1) := by kernel_rfl
theorem made_bool (n : Nat) : (madeCells (Value.bool false).cells (n * 1)).toList = List.replicate n (.bool false) := by rw [Nat.mul_one]; exact toList_madeCells_one _ _
theorem Try.underlying78 : Try.prog.underlying 78 = some (.slice 4) := by kernel_rfl

set_option maxRecDepth 100000 in
set_option maxHeartbeats 4000000 in
theorem refAbove_any {nm : ByteArray} {ca ta ra oa ya qa : Option Addr} {cc tn tc rn rc on oc yn yc qn qc cb co : Nat} {cs : List Cls} (i : Nat) (w : World)
    (hca : cs ≠ [] → ca = some ⟨cb, co, none⟩) (hcs : ClassesAt w cb co cs) (hcl : cs.length ≤ 300) (hi : i < cs.length) (hO : openErr cs = 0) :
    Calls Try.prog 44 #[.agg #[.string nm, .slice ca cs.length cc, .slice ta tn tc, .slice ra rn rc, .slice oa on oc, .slice ya yn yc, .slice qa qn qc], .int .i64 i] w fun e w' => ∃ (g : Nat) (bs : List Bool), e = .returned (.slice (some ⟨g, 0, none⟩) cs.length cs.length) ∧ bs.length = cs.length ∧ (∀ j, bs[j]? = some true ↔ Reach (supOf cs) i j) ∧ w'.ownsRow w.heap.size 4 1 (.slice (some ⟨g, 0, none⟩) cs.length cs.length) cs.length (bs.map Value.bool) ∧ Below w.heap.size w w' := by
  have HCA := Lib.hid hca
  have hb0 : Below w.heap.size w (w.alloc (.cells #[.string nm, .slice ca cs.length cc, .slice ta tn tc, .slice ra rn rc, .slice oa on oc, .slice ya yn yc, .slice qa qn qc] 29)) := (Below.refl _ w).alloc (Nat.le_refl _) _
  have hc0 := heap_alloc_new w (.cells #[.string nm, .slice ca cs.length cc, .slice ta tn tc, .slice ra rn rc, .slice oa on oc, .slice ya yn yc, .slice qa qn qc] 29)
  have HB0 := Lib.hid hb0
  have HC0 := Lib.hid hc0
  have HCS := Lib.hid (hcs.later hb0)
  have HS0 := Lib.hid (show (w.alloc (.cells #[.string nm, .slice ca cs.length cc, .slice ta tn tc, .slice ra rn rc, .slice oa on oc, .slice ya yn yc, .slice qa qn qc] 29)).heap.size = w.heap.size + 1 by simp)
  clear hb0 hc0 hca hcs
  go_enter Try.func44, Try.ntmps44
  obtain ⟨i4, hi4, hx0, hx1, hxb⟩ := info_parts Try.info4'
  go_wp2_with (at_make; refine wpList_make_full _ rfl _ _ 78 rfl (w.alloc (.cells #[.string nm, .slice ca cs.length cc, .slice ta tn tc, .slice ra rn rc, .slice oa on oc, .slice ya yn yc, .slice qa qn qc] 29)).heap.size 4 i4 (.bool false) 1 Try.underlying78 hi4 hx0 hx1 .i64 .i64 (cs.length : Int) (cs.length : Int) cs.length rfl rfl rfl rfl (by rw [hxb]; omega) (by unfold maxLen; omega) (Nat.le_refl _) ?_; intro w2 ho2 hg2; rw [made_bool, HS0.out] at ho2; have hb2 : Below (w.alloc (.cells #[.string nm, .slice ca cs.length cc, .slice ta tn tc, .slice ra rn rc, .slice oa on oc, .slice ya yn yc, .slice qa qn qc] 29)).heap.size (w.alloc (.cells #[.string nm, .slice ca cs.length cc, .slice ta tn tc, .slice ra rn rc, .slice oa on oc, .slice ya yn yc, .slice qa qn qc] 29)) w2 := (Below.refl _ _).grown hg2 (Nat.le_refl _) (fun q e => by cases e); have HO2 := Lib.hid ho2; rw [HS0.out] at hb2; have HB2' := Lib.hid hb2; have c2 : w2.cell? ⟨w.heap.size + 1, i, none⟩ = some (.bool false) := ((ho2.cellAt i (by omega)).trans (by rw [List.getElem?_replicate, if_pos hi])); have f2 : w2.frozen? ⟨w.heap.size + 1, i, none⟩ = false := ho2.frozenAt i; clear ho2 hg2 hb2)
  generalize (w.alloc (.cells #[.string nm, .slice ca cs.length cc, .slice ta tn tc, .slice ra rn rc, .slice oa on oc, .slice ya yn yc, .slice qa qn qc] 29)) = w1 at *
  have hS := HO2.out.stored i (.bool true)
  have hb3 : Below (w.heap.size + 1) w1 (w2.setCell ⟨w.heap.size + 1, i, none⟩ (.bool true)) := HB2'.out.setCell (p := ⟨w.heap.size + 1, i, none⟩) (Nat.le_refl _) _
  have ho3 := hS.1
  rw [show (List.replicate cs.length (Value.bool false)).set i (.bool true) = ((List.replicate cs.length false).set i true).map Value.bool from by rw [List.map_set, List.map_replicate]] at ho3
  have HO3 := Lib.hid ho3
  have HB3 := Lib.hid hb3
  clear hS hb3 ho3 HO2 HB2' c2 f2
  generalize (w2.setCell ⟨w.heap.size + 1, i, none⟩ (.bool true)) = w3 at *
  clear w2
  obtain ⟨gg, hgg⟩ : ∃ q, w.heap.size + 1 = q := ⟨_, rfl⟩
  have HCell := Lib.hid (thy_cells HC0.out)
  have HGL := Lib.hid (show w.heap.size < w1.heap.size by rw [HS0.out]; omega)
  rw [hgg] at HO3 HB3 HS0 ⊢
  have HGG := Lib.hid hgg
  clear hgg
  obtain ⟨ga, hga⟩ : ∃ q, w.heap.size = q := ⟨_, rfl⟩
  rw [hga] at HCell HGL ⊢
  have HGA := Lib.hid hga
  clear hga
  rw [← HS0.out] at HB3
  go_loopw [6] (fun t wr => ∃ (kk : Nat) (bs : List Bool), t = .int .i64 ((kk : Int) - 1) ∧ kk ≤ i + 1 ∧ bs.length = cs.length ∧ MK (supOf cs) i kk bs ∧ wr.ownsRow gg 4 1 (.slice (some ⟨gg, 0, none⟩) cs.length cs.length) cs.length (bs.map Value.bool) ∧ Below w1.heap.size w1 wr) (fun t _ => (intOf t + 1).toNat)
  case atStart => exact ⟨i + 1, _, by congr 1; omega, Nat.le_refl _, by simp, MK.start _ hi, HO3.out, HB3.out⟩
  case round =>
    obtain ⟨kk, bs, rfl, hk, hbl, hm, ho, hb⟩ := hrel
    have HM := Lib.hid hm
    have HO := Lib.hid ho
    have HB := Lib.hid hb
    clear hm ho hb
    cases kk with
    | zero =>
      go_wp2_with fail
      go_ret
      refine ⟨gg, bs, rfl, hbl, HM.out.whole, own_mono HO.out (by rw [← HGG.out]; omega), HB0.out.trans (HB.out.mono HB0.out.size)⟩
    | succ m =>
      rw [show (((m + 1 : Nat) : Int) - 1) = (m : Int) by omega]
      have hml : m < bs.length := by omega
      have c1 := HO.out.cellAt m (by omega)
      rw [List.getElem?_map] at c1
      cases hbm : bs[m]? with
      | none => rw [List.getElem?_eq_none_iff] at hbm; omega
      | some v =>
        rw [hbm] at c1
        simp only [Option.map_some] at c1
        cases v with
        | false =>
          have HMS := Lib.hid (HM.out.skip hbm)
          clear hbm
          go_wp2_with fail
          refine ⟨⟨m, bs, rfl, by omega, hbl, HMS.out, HO.out, HB.out⟩, ?_⟩
          show ((m : Int) - 1 + 1).toNat < ((m : Int) + 1).toNat
          omega
        | true =>
          have hmc : m < cs.length := by omega
          have e := HCA.out (by intro e; subst e; simp at hmc)
          subst e
          obtain ⟨hcb, sa, sb, so, sc, c2, c3, c4, c5, c6, c7⟩ := HCS.out m hmc
          have HBM := Lib.hid hbm
          have HST := Lib.hid c5
          have HSA := Lib.hid c4
          have HSU := Lib.hid (show supOf cs m = cs[m].sups.map (idxOfC cs) by unfold supOf; rw [clsAt_eq hmc])
          have HKN := Lib.hid (fun (q : Nat) (hq : q < cs[m].sups.length) => (idx_take ((cls_ok (open_cls hO m hmc)).2.2.2 _ (by rw [clsAt_eq hmc]; exact List.getElem_mem hq))).2 : ∀ (q : Nat) (hq : q < cs[m].sups.length), knownB cs (cs[m].sups[q]) = true ∧ idxOfC cs (cs[m].sups[q]) < m)
          obtain ⟨c, hc⟩ : ∃ c, cs[m] = c := ⟨_, rfl⟩
          have HC := Lib.hid hc
          have d3 := (HB.out.cell (p := ⟨cb, co + m * 2 + 1, none⟩) hcb).trans c3
          have HCB := Lib.hid hcb
          have HC3 := Lib.hid c3
          rw [hc] at d3 c7 HSA HST HSU HC3
          have HKN' := Lib.hid (show ∀ (q : Nat) (hq : q < c.sups.length), knownB cs (c.sups[q]) = true ∧ idxOfC cs (c.sups[q]) < m by subst hc; exact HKN.out)
          clear hbm hc c2 c3 c4 c5 c6 hcb HKN
          unfold maxLen at c7
          have HG1 := Lib.hid HCell.out.2.1
          have g1 : wr.cell? ⟨ga, 1, none⟩ = _ := (HB.out.cell (p := ⟨ga, 1, none⟩) HGL.out).trans HG1.out
          go_wp2_with fail
          obtain ⟨wo, rfl⟩ : ∃ wo : World, wo = wr := ⟨_, rfl⟩
          clear d3 g1 c1
          go_loopw [7] (fun t wr => ∃ (q : Nat) (bq : List Bool), t = .int .i64 q ∧ q ≤ c.sups.length ∧ bq.length = cs.length ∧ bq[m]? = some true ∧ MK (supOf cs) i (m + 1) bq ∧ (∀ p, p < q → ∀ (hp : p < c.sups.length), bq[idxOfC cs (c.sups[p])]? = some true) ∧ wr.ownsRow gg 4 1 (.slice (some ⟨gg, 0, none⟩) cs.length cs.length) cs.length (bq.map Value.bool) ∧ Below w1.heap.size w1 wr) (fun t _ => c.sups.length - (intOf t).toNat)
          case atStart => exact ⟨0, bs, rfl, Nat.zero_le _, hbl, HBM.out, HM.out, fun p hp => absurd hp (Nat.not_lt_zero _), HO.out, HB.out⟩
          case round =>
            obtain ⟨q, bq, rfl, hq, hql, hqm, hqk, hqd, hqo, hqb⟩ := hrel
            have HQM := Lib.hid hqm
            have HQK := Lib.hid hqk
            have HQD := Lib.hid hqd
            have HQO := Lib.hid hqo
            have HQB := Lib.hid hqb
            have d3 := (hqb.cell (p := ⟨cb, co + m * 2 + 1, none⟩) HCB.out).trans HC3.out
            have g1 : wr.cell? ⟨ga, 1, none⟩ = _ := (hqb.cell (p := ⟨ga, 1, none⟩) HGL.out).trans HG1.out
            clear hqm hqk hqd hqo hqb
            by_cases hlt : q < c.sups.length
            · have e := HSA.out (by intro e; rw [e] at hlt; simp at hlt)
              subst e
              have HTR := Lib.hid ((ThyAt.mk (Thy.mk (by rw [← HGA.out]; exact HC0.out) HCS.out) (fun _ => rfl) (by unfold maxLen; omega) : ThyAt nm (some ⟨cb, co, none⟩) ta ra oa ya qa cc tn tc rn rc on oc yn yc qn qc cb co cs ga w1).later HQB.out)
              have hxs := HST.out.later HQB.out
              have hcx := hxs.cell q hlt
              have hlb : sb < wr.heap.size := hxs.lt (by intro e; rw [e] at hlt; simp at hlt)
              have HLB := Lib.hid hlb
              have HZ := Lib.hid (hxs.size q hlt)
              obtain ⟨hkn, hjm⟩ := HKN'.out q hlt
              have hmem : idxOfC cs (c.sups[q]) ∈ supOf cs m := by rw [HSU.out]; exact List.mem_map.2 ⟨_, List.getElem_mem hlt, rfl⟩
              have hri : refIdx cs (c.sups[q]) = ((idxOfC cs (c.sups[q]) : Nat) : Int) := by unfold refIdx; rw [if_pos hkn]
              obtain ⟨j, hj⟩ : ∃ j, idxOfC cs (c.sups[q]) = j := ⟨_, rfl⟩
              have HJ := Lib.hid hj
              rw [hj] at hjm hmem hri
              obtain ⟨s, hs⟩ : ∃ s, c.sups[q] = s := ⟨_, rfl⟩
              rw [hs] at hcx HZ hri
              have HMEM := Lib.hid hmem
              have HF := Lib.hid (fun W hb => refClass_uni HTR.out W HZ hb)
              rw [hri] at HF
              have HCX := Lib.hid hcx
              have HBR := Lib.hid ((Below.refl wr.heap.size wr).drew)
              have HCB' := Lib.hid (Nat.lt_of_lt_of_le HCB.out HQB.out.size)
              have HD3 := Lib.hid d3
              obtain ⟨g0, _, g2, g3, g4, g5, g6⟩ := HTR.out.cells
              have k0 : wr.drew.cell? ⟨ga, 0, none⟩ = _ := g0
              have k1 : wr.drew.cell? ⟨ga, 1, none⟩ = _ := g1
              have k2 : wr.drew.cell? ⟨ga, 2, none⟩ = _ := g2
              have k3 : wr.drew.cell? ⟨ga, 3, none⟩ = _ := g3
              have k4 : wr.drew.cell? ⟨ga, 4, none⟩ = _ := g4
              have k5 : wr.drew.cell? ⟨ga, 5, none⟩ = _ := g5
              have k6 : wr.drew.cell? ⟨ga, 6, none⟩ = _ := g6
              have k7 : wr.drew.cell? ⟨sb, so + q, none⟩ = _ := hcx
              have k8 : wr.drew.cell? ⟨cb, co + m * 2 + 1, none⟩ = _ := d3
              clear hxs hlb hkn hmem hri hj hs
              go_wp2_with fail
              go_region_held3 (fun W => W.cell? ⟨sb, so + q, none⟩ = some (.string s) ∧ W.cell? ⟨cb, co + m * 2 + 1, none⟩ = some (.slice (some ⟨sb, so, none⟩) c.sups.length sc) ∧ W.cell? ⟨ga, 0, none⟩ = some (.string nm) ∧ W.cell? ⟨ga, 1, none⟩ = some (.slice (some ⟨cb, co, none⟩) cs.length cc) ∧ W.cell? ⟨ga, 2, none⟩ = some (.slice ta tn tc) ∧ W.cell? ⟨ga, 3, none⟩ = some (.slice ra rn rc) ∧ W.cell? ⟨ga, 4, none⟩ = some (.slice oa on oc) ∧ W.cell? ⟨ga, 5, none⟩ = some (.slice ya yn yc) ∧ W.cell? ⟨ga, 6, none⟩ = some (.slice qa qn qc))
                (refine ⟨?_, ?_, ?_, ?_, ?_, ?_, ?_, ?_, ?_⟩ <;> assumption)
                ((go_at_call 43; refine (HF.out _ (by assumption)).mono ?_; rintro e w' ⟨rfl, hb', k0, k1, k2, k3, k4, k5, k6⟩; have k7 := (hb'.out.cell (p := ⟨sb, so + q, none⟩) HLB.out).trans HCX.out; have k8 := (hb'.out.cell (p := ⟨cb, co + m * 2 + 1, none⟩) HCB'.out).trans HD3.out))
              have HO' := Lib.hid (own_later HQO.out hb'.out)
              have HB' := Lib.hid (HQB.out.trans (hb'.out.mono HQB.out.size))
              have hj300 : j < cs.length := by omega
              have l1 := HO'.out.cellAt j (by omega)
              have l2 := HO'.out.frozenAt j
              rw [List.getElem?_map] at l1
              obtain ⟨bj, hbj⟩ : ∃ b, bq[j]? = some b := ⟨bq[j]'(by omega), List.getElem?_eq_getElem _⟩
              rw [hbj] at l1
              simp only [Option.map_some] at l1
              clear hbj
              go_wp2_with fail
              refine ⟨⟨q + 1, bq.set j true, by simp only [Int.natCast_add, Int.natCast_one], by omega, by simpa using hql, set_true HQM.out, HQK.out.mark HQM.out HMEM.out (by omega), fun p hp hp' => ?_, ?_, HB'.out.setCell (p := ⟨gg, j, none⟩) (Nat.le_of_eq HS0.out) _⟩, ?_⟩
              · by_cases e : p = q
                · subst e
                  rw [HJ.out, List.getElem?_set_self (by omega)]
                · exact set_true (HQD.out p (by omega) hp')
              · have h := (HO'.out.stored j (.bool true)).1
                rw [← List.map_set] at h
                exact h
              · show c.sups.length - ((q : Int) + 1).toNat < c.sups.length - ((q : Nat) : Int).toNat
                omega
            · have hall : ∀ j, j ∈ supOf cs m → bq[j]? = some true := fun j hj => by
                rw [HSU.out] at hj
                obtain ⟨s, hs, rfl⟩ := List.mem_map.1 hj
                obtain ⟨p, hp, rfl⟩ := List.getElem_of_mem hs
                exact HQD.out p (by omega) hp
              have HCL := Lib.hid (HQK.out.close hall)
              clear hall
              go_wp2_with fail
              refine ⟨⟨m, bq, rfl, by omega, hql, HCL.out, HQO.out, HQB.out⟩, ?_⟩
              show ((m : Int) - 1 + 1).toNat < ((m : Int) + 1).toNat
              omega
end Go.Proofs.Ytlaibimdkamcfaa
end

section
/-
  The reference's under.
-/
namespace Go.Proofs.Ytlaibimdkamcfaa
open Go.RowKit Go.Maps

theorem under_val {cs : List Cls} {a b : ByteArray} {bs : List Bool} (ha : knownB cs a = true) (hb : knownB cs b = true) (hl : bs.length = cs.length) (h : ∀ j, bs[j]? = some true ↔ Reach (supOf cs) (idxOfC cs a) j) : bs[idxOfC cs b]? = some (belowB cs a b) := by
  have hlt : idxOfC cs b < bs.length := by rw [hl]; exact idx_lt hb
  rw [List.getElem?_eq_getElem hlt]
  congr 1
  cases hv : belowB cs a b with
  | true =>
    have := (h (idxOfC cs b)).2 (below_known hv).2.2
    rw [List.getElem?_eq_getElem hlt] at this
    simpa using this
  | false =>
    cases hx : bs[idxOfC cs b] with
    | false => rfl
    | true =>
      have := (h (idxOfC cs b)).1 (by rw [List.getElem?_eq_getElem hlt, hx])
      rw [below_mk ha hb this] at hv
      cases hv

set_option maxRecDepth 100000 in
set_option maxHeartbeats 4000000 in
theorem refUnder_any {nm : ByteArray} {ca ta ra oa ya qa : Option Addr} {cc tn tc rn rc on oc yn yc qn qc cb co : Nat} {cs : List Cls} (a b : ByteArray) (w : World)
    (hca : cs ≠ [] → ca = some ⟨cb, co, none⟩) (hcs : ClassesAt w cb co cs) (hcl : cs.length ≤ 300) (hO : openErr cs = 0) (ha : knownB cs a = true) (hb : knownB cs b = true) (hsa : a.size ≤ maxLen) (hsb : b.size ≤ maxLen) :
    Calls Try.prog 74 #[.agg #[.string nm, .slice ca cs.length cc, .slice ta tn tc, .slice ra rn rc, .slice oa on oc, .slice ya yn yc, .slice qa qn qc], .string a, .string b] w fun e w' => e = .returned (.bool (belowB cs a b)) ∧ Below w.heap.size w w' := by
  have hclm : cs.length ≤ maxLen := by unfold maxLen; omega
  have hb0 : Below w.heap.size w (w.alloc (.cells #[.string nm, .slice ca cs.length cc, .slice ta tn tc, .slice ra rn rc, .slice oa on oc, .slice ya yn yc, .slice qa qn qc] 29)) := (Below.refl _ w).alloc (Nat.le_refl _) _
  have HTH := Lib.hid (ThyAt.mk (Thy.mk (heap_alloc_new w (.cells #[.string nm, .slice ca cs.length cc, .slice ta tn tc, .slice ra rn rc, .slice oa on oc, .slice ya yn yc, .slice qa qn qc] 29)) (hcs.later hb0)) hca hclm : ThyAt nm ca ta ra oa ya qa cc tn tc rn rc on oc yn yc qn qc cb co cs w.heap.size _)
  have HB0 := Lib.hid hb0
  have HSA := Lib.hid hsa
  have HSB := Lib.hid hsb
  have HKA := Lib.hid ha
  have HKB := Lib.hid hb
  have HO := Lib.hid hO
  have hia : refIdx cs a = ((idxOfC cs a : Nat) : Int) := by unfold refIdx; rw [if_pos ha]
  have hib : refIdx cs b = ((idxOfC cs b : Nat) : Int) := by unfold refIdx; rw [if_pos hb]
  have hla := idx_lt ha
  have hlb := idx_lt hb
  have HV := Lib.hid (fun (bs : List Bool) (hl : bs.length = cs.length) (h : ∀ j, bs[j]? = some true ↔ Reach (supOf cs) (idxOfC cs a) j) => under_val ha hb hl h)
  obtain ⟨ia, hia'⟩ : ∃ x, idxOfC cs a = x := ⟨_, rfl⟩
  obtain ⟨ib, hib'⟩ : ∃ x, idxOfC cs b = x := ⟨_, rfl⟩
  rw [hia'] at hia hla HV
  rw [hib'] at hib hlb HV
  obtain ⟨R, hR⟩ : ∃ R, belowB cs a b = R := ⟨_, rfl⟩
  rw [hR] at HV ⊢
  have HIA := Lib.hid hia
  have HIB := Lib.hid hib
  clear hb0 hca hcs hsa hsb ha hb hO hia hib hia' hib' hR hclm
  go_enter Try.func74, Try.ntmps74
  go_wp2_with fail
  generalize (w.alloc (.cells #[.string nm, .slice ca cs.length cc, .slice ta tn tc, .slice ra rn rc, .slice oa on oc, .slice ya yn yc, .slice qa qn qc] 29)) = w1 at *
  obtain ⟨ga, hga⟩ : ∃ q, w.heap.size = q := ⟨_, rfl⟩
  rw [hga] at HTH ⊢
  have HGA := Lib.hid hga
  clear hga
  obtain ⟨g0, g1, g2, g3, g4, g5, g6⟩ := HTH.out.cells
  have k0 : w1.drew.cell? ⟨ga, 0, none⟩ = _ := g0
  have k1 : w1.drew.cell? ⟨ga, 1, none⟩ = _ := g1
  have k2 : w1.drew.cell? ⟨ga, 2, none⟩ = _ := g2
  have k3 : w1.drew.cell? ⟨ga, 3, none⟩ = _ := g3
  have k4 : w1.drew.cell? ⟨ga, 4, none⟩ = _ := g4
  have k5 : w1.drew.cell? ⟨ga, 5, none⟩ = _ := g5
  have k6 : w1.drew.cell? ⟨ga, 6, none⟩ = _ := g6
  have HBR := Lib.hid ((Below.refl w1.heap.size w1).drew)
  have HFA := Lib.hid (fun W hb => refClass_uni HTH.out W HSA hb)
  rw [HIA.out] at HFA
  refine wp_region_noPanic ?_
  refine wp_region_held_drew (S := (fun W => W.cell? ⟨ga, 0, none⟩ = some (.string nm) ∧ W.cell? ⟨ga, 1, none⟩ = some (.slice ca cs.length cc) ∧ W.cell? ⟨ga, 2, none⟩ = some (.slice ta tn tc) ∧ W.cell? ⟨ga, 3, none⟩ = some (.slice ra rn rc) ∧ W.cell? ⟨ga, 4, none⟩ = some (.slice oa on oc) ∧ W.cell? ⟨ga, 5, none⟩ = some (.slice ya yn yc) ∧ W.cell? ⟨ga, 6, none⟩ = some (.slice qa qn qc))) (by kernel_rfl) (by refine ⟨?_, ?_, ?_, ?_, ?_, ?_, ?_⟩ <;> assumption) (fun hHeld => ?_)
  refine wpAnyH_take (i := 0) (oi := { dst := some 7, op := Op.load 29 (Operand.tmp 3), type := 29, pos := "ref.go:73", after := #[], guard := none }) (v := ?vr0) rfl (by kernel_rfl) (by kernel_rfl) (by kernel_rfl) (fun _ _ _ h => h) (Or.inl ⟨by rfl, ?hyr0⟩) (by assumption) ?restr0
  case hyr0 => (intro w hSw; (try dsimp only at hSw); go_simp; (try with_reducible rfl))
  case' restr0 => skip
  try simp only [Act.put, List.setIfInBounds_toArray, List.set_cons_zero, List.set_cons_succ]
  refine wpAnyH_take (i := 1) (oi := { dst := some 8, op := Op.load 29 (Operand.tmp 3), type := 29, pos := "ref.go:73", after := #[], guard := none }) (v := ?vr1) rfl (by kernel_rfl) (by kernel_rfl) (by kernel_rfl) (fun _ _ _ h => h) (Or.inl ⟨by rfl, ?hyr1⟩) (by assumption) ?restr1
  case hyr1 => (intro w hSw; (try dsimp only at hSw); go_simp; (try with_reducible rfl))
  case' restr1 => skip
  try simp only [Act.put, List.setIfInBounds_toArray, List.set_cons_zero, List.set_cons_succ]
  refine wpAnyH_take (i := 2) (oi := { dst := some 9, op := Op.move (Operand.tmp 1), type := 9, pos := "ref.go:73", after := #[], guard := none }) (v := ?vr2) rfl (by kernel_rfl) (by kernel_rfl) (by kernel_rfl) (fun _ _ _ h => h) (Or.inl ⟨by rfl, ?hyr2⟩) (by assumption) ?restr2
  case hyr2 => (intro w hSw; (try dsimp only at hSw); go_simp; (try with_reducible rfl))
  case' restr2 => skip
  try simp only [Act.put, List.setIfInBounds_toArray, List.set_cons_zero, List.set_cons_succ]
  refine wpAnyH_take (i := 5) (oi := { dst := some 12, op := Op.load 29 (Operand.tmp 3), type := 29, pos := "ref.go:73", after := #[], guard := none }) (v := ?vr5) rfl (by kernel_rfl) (by kernel_rfl) (by kernel_rfl) (fun _ _ _ h => h) (Or.inl ⟨by rfl, ?hyr5⟩) (by assumption) ?restr5
  case hyr5 => (intro w hSw; (try dsimp only at hSw); go_simp; (try with_reducible rfl))
  case' restr5 => skip
  try simp only [Act.put, List.setIfInBounds_toArray, List.set_cons_zero, List.set_cons_succ]
  refine wpAnyH_take (i := 6) (oi := { dst := some 13, op := Op.move (Operand.tmp 2), type := 9, pos := "ref.go:73", after := #[], guard := none }) (v := ?vr6) rfl (by kernel_rfl) (by kernel_rfl) (by kernel_rfl) (fun _ _ _ h => h) (Or.inl ⟨by rfl, ?hyr6⟩) (by assumption) ?restr6
  case hyr6 => (intro w hSw; (try dsimp only at hSw); go_simp; (try with_reducible rfl))
  case' restr6 => skip
  try simp only [Act.put, List.setIfInBounds_toArray, List.set_cons_zero, List.set_cons_succ]
  refine wpAnyH_ready (rs := [3]) (by kernel_rfl) (by simp) ?_
  refine AllReadyH.cons (o := { dst := some 10, op := Op.call { callee := Callee.value (Operand.func 43), args := #[Operand.tmp 8, Operand.tmp 9], argTypes := #[29, 9] }, type := 3, pos := "ref.go:73", after := #[{ on := 1, ground := Ground.data }, { on := 2, ground := Ground.data }], guard := none }) rfl (fun K hK => ?_) AllReadyH.nil
  go_simp
  (go_at_call 43; refine (HFA.out _ (by assumption)).mono ?_; rintro e w7 ⟨rfl, hb7, k0, k1, k2, k3, k4, k5, k6⟩)
  try go_wp2_with fail
  refine hK.out _ _ ?_ (fun hHeld => ?_)
  · refine ⟨?_, ?_, ?_, ?_, ?_, ?_, ?_⟩ <;> assumption
  clear hK K
  try simp only [Act.put, List.setIfInBounds_toArray, List.set_cons_zero, List.set_cons_succ]
  refine wpAnyH_ready (rs := [4]) (by kernel_rfl) (by simp) ?_
  refine AllReadyH.cons (o := { dst := some 11, op := Op.call { callee := Callee.value (Operand.func 44), args := #[Operand.tmp 7, Operand.tmp 10], argTypes := #[29, 3] }, type := 78, pos := "ref.go:73", after := #[{ on := 0, ground := Ground.data }, { on := 3, ground := Ground.data }, { on := 3, ground := Ground.chain }], guard := none }) rfl (fun K hK => ?_) AllReadyH.nil
  go_simp
  have HT7 := Lib.hid (HTH.out.later hb7.out)
  go_at_call 44
  refine (refAbove_any ia w7 HT7.out.cla HT7.out.thy.cls hcl hla HO.out).mono ?_
  rintro e w8 ⟨g, bs, rfl, hbl, hbs, ho8, hb8⟩
  have HT8 := Lib.hid (HT7.out.later hb8)
  have HB8 := Lib.hid (hb7.out.trans (hb8.mono hb7.out.size))
  have HO8 := Lib.hid ho8
  have hv := HV.out bs hbl hbs
  obtain ⟨k0, k1, k2, k3, k4, k5, k6⟩ := HT8.out.cells
  clear hbs ho8 hb8
  try go_wp2_with fail
  refine hK.out _ _ ?_ (fun hHeld => ?_)
  · refine ⟨?_, ?_, ?_, ?_, ?_, ?_, ?_⟩ <;> assumption
  clear hK K
  try simp only [Act.put, List.setIfInBounds_toArray, List.set_cons_zero, List.set_cons_succ]
  refine wpAnyH_ready (rs := [7]) (by kernel_rfl) (by simp) ?_
  refine AllReadyH.cons (o := { dst := some 14, op := Op.call { callee := Callee.value (Operand.func 43), args := #[Operand.tmp 12, Operand.tmp 13], argTypes := #[29, 9] }, type := 3, pos := "ref.go:73", after := #[{ on := 5, ground := Ground.data }, { on := 6, ground := Ground.data }, { on := 4, ground := Ground.chain }], guard := none }) rfl (fun K hK => ?_) AllReadyH.nil
  go_simp
  go_at_call 43
  refine (refClass_any b w8 HT8.out.cla HT8.out.thy.cls HT8.out.len HSB.out).mono ?_
  rw [HIB.out]
  rintro e w9 ⟨rfl, hb9⟩
  have HB9 := Lib.hid (HB8.out.trans (hb9.mono HB8.out.size))
  have HO9 := Lib.hid (own_later HO8.out hb9)
  have kx := HO9.out.cellAt ib (by omega)
  rw [List.getElem?_map, hv, Option.map_some] at kx
  obtain ⟨k0, k1, k2, k3, k4, k5, k6⟩ := (HT8.out.later hb9).cells
  clear hb9
  try go_wp2_with fail
  refine hK.out _ _ ?_ (fun hHeld => ?_)
  · refine ⟨?_, ?_, ?_, ?_, ?_, ?_, ?_⟩ <;> assumption
  clear hK K
  try simp only [Act.put, List.setIfInBounds_toArray, List.set_cons_zero, List.set_cons_succ]
  refine wpAnyH_take (i := 8) (oi := { dst := some 15, op := Op.indexAddr 78 (Operand.tmp 11) (Operand.tmp 14), type := 0, pos := "ref.go:73", after := #[{ on := 4, ground := Ground.data }, { on := 7, ground := Ground.data }], guard := none }) (v := ?vr8) rfl (by kernel_rfl) (by kernel_rfl) (by kernel_rfl) (fun _ _ _ h => h) (Or.inl ⟨by rfl, ?hyr8⟩) (by assumption) ?restr8
  case hyr8 => (intro w hSw; (try dsimp only at hSw); go_simp; (try with_reducible rfl))
  case' restr8 => skip
  try simp only [Act.put, List.setIfInBounds_toArray, List.set_cons_zero, List.set_cons_succ]
  refine wpAnyH_ready (rs := [9]) (by kernel_rfl) (by simp) ?_
  refine AllReadyH.cons (o := { dst := some 16, op := Op.load 4 (Operand.tmp 15), type := 4, pos := "ref.go:73", after := #[{ on := 8, ground := Ground.data }], guard := none }) rfl (fun K hK => ?_) AllReadyH.nil
  go_simp
  refine hK.out _ _ ?_ (fun hHeld => ?_)
  · refine ⟨?_, ?_, ?_, ?_, ?_, ?_, ?_⟩ <;> assumption
  clear hK K
  try simp only [Act.put, List.setIfInBounds_toArray, List.set_cons_zero, List.set_cons_succ]
  refine wpAnyH_take (i := 10) (oi := { dst := some 6, op := Op.assign (Operand.tmp 16), type := 4, pos := "ref.go:73", after := #[{ on := 9, ground := Ground.data }, { on := 7, ground := Ground.chain }, { on := 0, ground := Ground.phase }, { on := 1, ground := Ground.phase }, { on := 2, ground := Ground.phase }, { on := 3, ground := Ground.phase }, { on := 4, ground := Ground.phase }, { on := 5, ground := Ground.phase }, { on := 6, ground := Ground.phase }, { on := 7, ground := Ground.phase }, { on := 8, ground := Ground.phase }, { on := 9, ground := Ground.phase }], guard := none }) (v := ?vr10) rfl (by kernel_rfl) (by kernel_rfl) (by kernel_rfl) (fun _ _ _ h => h) (Or.inl ⟨by rfl, ?hyr10⟩) (by assumption) ?restr10
  case hyr10 => (intro w hSw; (try dsimp only at hSw); go_simp; (try with_reducible rfl))
  case' restr10 => skip
  try simp only [Act.put, List.setIfInBounds_toArray, List.set_cons_zero, List.set_cons_succ]
  refine wpAnyH_done (by kernel_rfl) ?_ _
  refine NoPanic.normal ?_
  go_wp2_with fail
  go_ret
  exact ⟨rfl, HB0.out.trans (HB9.out.mono HB0.out.size)⟩
end Go.Proofs.Ytlaibimdkamcfaa
end

