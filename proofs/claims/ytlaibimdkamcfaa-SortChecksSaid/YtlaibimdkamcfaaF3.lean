/-
  The reference's above, under.
-/
import Derived.Test.YtlaibimdkamcfaaF2
import Derived.Test.YtlaibimdkamcfaaM5
import Derived.OwnWalk
namespace Go.Proofs.Ytlaibimdkamcfaa
open Go.RowKit Go.Maps

theorem Try.info4' : (Try.prog.info? 4).map (fun i => (i.zero, i.size, i.bytes)) = some (some (Value.bool false), 1, 1) := by kernel_rfl
theorem made_bool (n : Nat) : (madeCells (Value.bool false).cells (n * 1)).toList = List.replicate n (.bool false) := by rw [Nat.mul_one]; exact toList_madeCells_one _ _
theorem Try.underlying78 : Try.prog.underlying 78 = some (.slice 4) := by kernel_rfl

set_option maxRecDepth 100000 in
set_option maxHeartbeats 4000000 in
theorem refAbove_any {nm : ByteArray} {ca ta ra oa ya qa : Option Addr} {cc tn tc rn rc on oc yn yc qn qc cb co : Nat} {cs : List Cls} (i : Nat) (w : World)
    (hca : cs ≠ [] → ca = some ⟨cb, co, none⟩) (hcs : ClassesAt w cb co cs) (hcl : cs.length ≤ 300) (hi : i < cs.length) (hO : openErr cs = 0) :
    Calls Try.prog 44 #[.agg #[.string nm, .slice ca cs.length cc, .slice ta tn tc, .slice ra rn rc, .slice oa on oc, .slice ya yn yc, .slice qa qn qc], .int .i64 i] w fun e w' => ∃ (g : Nat) (bs : List Bool), e = .returned (.slice (some ⟨g, 0, none⟩) cs.length cs.length) ∧ bs.length = cs.length ∧ (∀ j, bs[j]? = some true ↔ Reach (supOf cs) i j) ∧ w'.ownsRow w.heap.size 4 1 (.slice (some ⟨g, 0, none⟩) cs.length cs.length) cs.length (bs.map Value.bool) ∧ Below w.heap.size w w' := by
  have HCA := Lib.hid hca
  have hb0 : Below w.heap.size w (w.alloc (.cells #[.string nm, .slice ca cs.length cc, .slice ta tn tc, .slice ra rn rc, .slice oa on oc, .slice ya yn yc, .slice qa qn qc] 29)) := (Below.refl _ w).alloc (Nat.le_refl _) _
  have hc0 := heap_alloc_new w (.cells #[.string nm, .slice ca cs.length cc, .slice ta tn tc, .slice ra rn rc, .slice oa on oc, .slice ya yn yc, .slice qa qn qc] 29)
  have HB0 := Lib.hid hb0
  have HC0 := Lib.hid hc0
  have HCS := Lib.hid (hcs.later hb0)
  have HS0 := Lib.hid (show (w.alloc (.cells #[.string nm, .slice ca cs.length cc, .slice ta tn tc, .slice ra rn rc, .slice oa on oc, .slice ya yn yc, .slice qa qn qc] 29)).heap.size = w.heap.size + 1 by simp)
  clear hb0 hc0 hca hcs
  go_enter Try.func44, Try.ntmps44
  obtain ⟨i4, hi4, hx0, hx1, hxb⟩ := info_parts Try.info4'
  go_wp2_with (at_make; refine wpList_make_full _ rfl _ _ 78 rfl (w.alloc (.cells #[.string nm, .slice ca cs.length cc, .slice ta tn tc, .slice ra rn rc, .slice oa on oc, .slice ya yn yc, .slice qa qn qc] 29)).heap.size 4 i4 (.bool false) 1 Try.underlying78 hi4 hx0 hx1 .i64 .i64 (cs.length : Int) (cs.length : Int) cs.length rfl rfl rfl rfl (by rw [hxb]; omega) (by unfold maxLen; omega) (Nat.le_refl _) ?_; intro w2 ho2 hg2; rw [made_bool, HS0.out] at ho2; have hb2 : Below (w.alloc (.cells #[.string nm, .slice ca cs.length cc, .slice ta tn tc, .slice ra rn rc, .slice oa on oc, .slice ya yn yc, .slice qa qn qc] 29)).heap.size (w.alloc (.cells #[.string nm, .slice ca cs.length cc, .slice ta tn tc, .slice ra rn rc, .slice oa on oc, .slice ya yn yc, .slice qa qn qc] 29)) w2 := (Below.refl _ _).grown hg2 (Nat.le_refl _) (fun q e => by cases e); have HO2 := Lib.hid ho2; rw [HS0.out] at hb2; have HB2' := Lib.hid hb2; have c2 : w2.cell? ⟨w.heap.size + 1, i, none⟩ = some (.bool false) := ((ho2.cellAt i (by omega)).trans (by rw [List.getElem?_replicate, if_pos hi])); have f2 : w2.frozen? ⟨w.heap.size + 1, i, none⟩ = false := ho2.frozenAt i; clear ho2 hg2 hb2)
  generalize (w.alloc (.cells #[.string nm, .slice ca cs.length cc, .slice ta tn tc, .slice ra rn rc, .slice oa on oc, .slice ya yn yc, .slice qa qn qc] 29)) = w1 at *
  have hS := HO2.out.stored i (.bool true)
  have hb3 : Below (w.heap.size + 1) w1 (w2.setCell ⟨w.heap.size + 1, i, none⟩ (.bool true)) := HB2'.out.setCell (p := ⟨w.heap.size + 1, i, none⟩) (Nat.le_refl _) _
  have ho3 := hS.1
  rw [show (List.replicate cs.length (Value.bool false)).set i (.bool true) = ((List.replicate cs.length false).set i true).map Value.bool from by rw [List.map_set, List.map_replicate]] at ho3
  have HO3 := Lib.hid ho3
  have HB3 := Lib.hid hb3
  clear hS hb3 ho3 HO2 HB2' c2 f2
  generalize (w2.setCell ⟨w.heap.size + 1, i, none⟩ (.bool true)) = w3 at *
  clear w2
  obtain ⟨gg, hgg⟩ : ∃ q, w.heap.size + 1 = q := ⟨_, rfl⟩
  have HCell := Lib.hid (thy_cells HC0.out)
  have HGL := Lib.hid (show w.heap.size < w1.heap.size by rw [HS0.out]; omega)
  rw [hgg] at HO3 HB3 HS0 ⊢
  have HGG := Lib.hid hgg
  clear hgg
  obtain ⟨ga, hga⟩ : ∃ q, w.heap.size = q := ⟨_, rfl⟩
  rw [hga] at HCell HGL ⊢
  have HGA := Lib.hid hga
  clear hga
  rw [← HS0.out] at HB3
  go_loopw [6] (fun t wr => ∃ (kk : Nat) (bs : List Bool), t = .int .i64 ((kk : Int) - 1) ∧ kk ≤ i + 1 ∧ bs.length = cs.length ∧ MK (supOf cs) i kk bs ∧ wr.ownsRow gg 4 1 (.slice (some ⟨gg, 0, none⟩) cs.length cs.length) cs.length (bs.map Value.bool) ∧ Below w1.heap.size w1 wr) (fun t _ => (intOf t + 1).toNat)
  case atStart => exact ⟨i + 1, _, by congr 1; omega, Nat.le_refl _, by simp, MK.start _ hi, HO3.out, HB3.out⟩
  case round =>
    obtain ⟨kk, bs, rfl, hk, hbl, hm, ho, hb⟩ := hrel
    have HM := Lib.hid hm
    have HO := Lib.hid ho
    have HB := Lib.hid hb
    clear hm ho hb
    cases kk with
    | zero =>
      go_wp2_with fail
      go_ret
      refine ⟨gg, bs, rfl, hbl, HM.out.whole, own_mono HO.out (by rw [← HGG.out]; omega), HB0.out.trans (HB.out.mono HB0.out.size)⟩
    | succ m =>
      rw [show (((m + 1 : Nat) : Int) - 1) = (m : Int) by omega]
      have hml : m < bs.length := by omega
      have c1 := HO.out.cellAt m (by omega)
      rw [List.getElem?_map] at c1
      cases hbm : bs[m]? with
      | none => rw [List.getElem?_eq_none_iff] at hbm; omega
      | some v =>
        rw [hbm] at c1
        simp only [Option.map_some] at c1
        cases v with
        | false =>
          have HMS := Lib.hid (HM.out.skip hbm)
          clear hbm
          go_wp2_with fail
          refine ⟨⟨m, bs, rfl, by omega, hbl, HMS.out, HO.out, HB.out⟩, ?_⟩
          show ((m : Int) - 1 + 1).toNat < ((m : Int) + 1).toNat
          omega
        | true =>
          have hmc : m < cs.length := by omega
          have e := HCA.out (by intro e; subst e; simp at hmc)
          subst e
          obtain ⟨hcb, sa, sb, so, sc, c2, c3, c4, c5, c6, c7⟩ := HCS.out m hmc
          have HBM := Lib.hid hbm
          have HST := Lib.hid c5
          have HSA := Lib.hid c4
          have HSU := Lib.hid (show supOf cs m = cs[m].sups.map (idxOfC cs) by unfold supOf; rw [clsAt_eq hmc])
          have HKN := Lib.hid (fun (q : Nat) (hq : q < cs[m].sups.length) => (idx_take ((cls_ok (open_cls hO m hmc)).2.2.2 _ (by rw [clsAt_eq hmc]; exact List.getElem_mem hq))).2 : ∀ (q : Nat) (hq : q < cs[m].sups.length), knownB cs (cs[m].sups[q]) = true ∧ idxOfC cs (cs[m].sups[q]) < m)
          obtain ⟨c, hc⟩ : ∃ c, cs[m] = c := ⟨_, rfl⟩
          have HC := Lib.hid hc
          have d3 := (HB.out.cell (p := ⟨cb, co + m * 2 + 1, none⟩) hcb).trans c3
          have HCB := Lib.hid hcb
          have HC3 := Lib.hid c3
          rw [hc] at d3 c7 HSA HST HSU HC3
          have HKN' := Lib.hid (show ∀ (q : Nat) (hq : q < c.sups.length), knownB cs (c.sups[q]) = true ∧ idxOfC cs (c.sups[q]) < m by subst hc; exact HKN.out)
          clear hbm hc c2 c3 c4 c5 c6 hcb HKN
          unfold maxLen at c7
          have HG1 := Lib.hid HCell.out.2.1
          have g1 : wr.cell? ⟨ga, 1, none⟩ = _ := (HB.out.cell (p := ⟨ga, 1, none⟩) HGL.out).trans HG1.out
          go_wp2_with fail
          obtain ⟨wo, rfl⟩ : ∃ wo : World, wo = wr := ⟨_, rfl⟩
          clear d3 g1 c1
          go_loopw [7] (fun t wr => ∃ (q : Nat) (bq : List Bool), t = .int .i64 q ∧ q ≤ c.sups.length ∧ bq.length = cs.length ∧ bq[m]? = some true ∧ MK (supOf cs) i (m + 1) bq ∧ (∀ p, p < q → ∀ (hp : p < c.sups.length), bq[idxOfC cs (c.sups[p])]? = some true) ∧ wr.ownsRow gg 4 1 (.slice (some ⟨gg, 0, none⟩) cs.length cs.length) cs.length (bq.map Value.bool) ∧ Below w1.heap.size w1 wr) (fun t _ => c.sups.length - (intOf t).toNat)
          case atStart => exact ⟨0, bs, rfl, Nat.zero_le _, hbl, HBM.out, HM.out, fun p hp => absurd hp (Nat.not_lt_zero _), HO.out, HB.out⟩
          case round =>
            obtain ⟨q, bq, rfl, hq, hql, hqm, hqk, hqd, hqo, hqb⟩ := hrel
            have HQM := Lib.hid hqm
            have HQK := Lib.hid hqk
            have HQD := Lib.hid hqd
            have HQO := Lib.hid hqo
            have HQB := Lib.hid hqb
            have d3 := (hqb.cell (p := ⟨cb, co + m * 2 + 1, none⟩) HCB.out).trans HC3.out
            have g1 : wr.cell? ⟨ga, 1, none⟩ = _ := (hqb.cell (p := ⟨ga, 1, none⟩) HGL.out).trans HG1.out
            clear hqm hqk hqd hqo hqb
            by_cases hlt : q < c.sups.length
            · have e := HSA.out (by intro e; rw [e] at hlt; simp at hlt)
              subst e
              have HTR := Lib.hid ((ThyAt.mk (Thy.mk (by rw [← HGA.out]; exact HC0.out) HCS.out) (fun _ => rfl) (by unfold maxLen; omega) : ThyAt nm (some ⟨cb, co, none⟩) ta ra oa ya qa cc tn tc rn rc on oc yn yc qn qc cb co cs ga w1).later HQB.out)
              have hxs := HST.out.later HQB.out
              have hcx := hxs.cell q hlt
              have hlb : sb < wr.heap.size := hxs.lt (by intro e; rw [e] at hlt; simp at hlt)
              have HLB := Lib.hid hlb
              have HZ := Lib.hid (hxs.size q hlt)
              obtain ⟨hkn, hjm⟩ := HKN'.out q hlt
              have hmem : idxOfC cs (c.sups[q]) ∈ supOf cs m := by rw [HSU.out]; exact List.mem_map.2 ⟨_, List.getElem_mem hlt, rfl⟩
              have hri : refIdx cs (c.sups[q]) = ((idxOfC cs (c.sups[q]) : Nat) : Int) := by unfold refIdx; rw [if_pos hkn]
              obtain ⟨j, hj⟩ : ∃ j, idxOfC cs (c.sups[q]) = j := ⟨_, rfl⟩
              have HJ := Lib.hid hj
              rw [hj] at hjm hmem hri
              obtain ⟨s, hs⟩ : ∃ s, c.sups[q] = s := ⟨_, rfl⟩
              rw [hs] at hcx HZ hri
              have HMEM := Lib.hid hmem
              have HF := Lib.hid (fun W hb => refClass_uni HTR.out W HZ hb)
              rw [hri] at HF
              have HCX := Lib.hid hcx
              have HBR := Lib.hid ((Below.refl wr.heap.size wr).drew)
              have HCB' := Lib.hid (Nat.lt_of_lt_of_le HCB.out HQB.out.size)
              have HD3 := Lib.hid d3
              obtain ⟨g0, _, g2, g3, g4, g5, g6⟩ := HTR.out.cells
              have k0 : wr.drew.cell? ⟨ga, 0, none⟩ = _ := g0
              have k1 : wr.drew.cell? ⟨ga, 1, none⟩ = _ := g1
              have k2 : wr.drew.cell? ⟨ga, 2, none⟩ = _ := g2
              have k3 : wr.drew.cell? ⟨ga, 3, none⟩ = _ := g3
              have k4 : wr.drew.cell? ⟨ga, 4, none⟩ = _ := g4
              have k5 : wr.drew.cell? ⟨ga, 5, none⟩ = _ := g5
              have k6 : wr.drew.cell? ⟨ga, 6, none⟩ = _ := g6
              have k7 : wr.drew.cell? ⟨sb, so + q, none⟩ = _ := hcx
              have k8 : wr.drew.cell? ⟨cb, co + m * 2 + 1, none⟩ = _ := d3
              clear hxs hlb hkn hmem hri hj hs
              go_wp2_with fail
              go_region_held3 (fun W => W.cell? ⟨sb, so + q, none⟩ = some (.string s) ∧ W.cell? ⟨cb, co + m * 2 + 1, none⟩ = some (.slice (some ⟨sb, so, none⟩) c.sups.length sc) ∧ W.cell? ⟨ga, 0, none⟩ = some (.string nm) ∧ W.cell? ⟨ga, 1, none⟩ = some (.slice (some ⟨cb, co, none⟩) cs.length cc) ∧ W.cell? ⟨ga, 2, none⟩ = some (.slice ta tn tc) ∧ W.cell? ⟨ga, 3, none⟩ = some (.slice ra rn rc) ∧ W.cell? ⟨ga, 4, none⟩ = some (.slice oa on oc) ∧ W.cell? ⟨ga, 5, none⟩ = some (.slice ya yn yc) ∧ W.cell? ⟨ga, 6, none⟩ = some (.slice qa qn qc))
                (refine ⟨?_, ?_, ?_, ?_, ?_, ?_, ?_, ?_, ?_⟩ <;> assumption)
                ((go_at_call 43; refine (HF.out _ (by assumption)).mono ?_; rintro e w' ⟨rfl, hb', k0, k1, k2, k3, k4, k5, k6⟩; have k7 := (hb'.out.cell (p := ⟨sb, so + q, none⟩) HLB.out).trans HCX.out; have k8 := (hb'.out.cell (p := ⟨cb, co + m * 2 + 1, none⟩) HCB'.out).trans HD3.out))
              have HO' := Lib.hid (own_later HQO.out hb'.out)
              have HB' := Lib.hid (HQB.out.trans (hb'.out.mono HQB.out.size))
              have hj300 : j < cs.length := by omega
              have l1 := HO'.out.cellAt j (by omega)
              have l2 := HO'.out.frozenAt j
              rw [List.getElem?_map] at l1
              obtain ⟨bj, hbj⟩ : ∃ b, bq[j]? = some b := ⟨bq[j]'(by omega), List.getElem?_eq_getElem _⟩
              rw [hbj] at l1
              simp only [Option.map_some] at l1
              clear hbj
              go_wp2_with fail
              refine ⟨⟨q + 1, bq.set j true, by simp only [Int.natCast_add, Int.natCast_one], by omega, by simpa using hql, set_true HQM.out, HQK.out.mark HQM.out HMEM.out (by omega), fun p hp hp' => ?_, ?_, HB'.out.setCell (p := ⟨gg, j, none⟩) (Nat.le_of_eq HS0.out) _⟩, ?_⟩
              · by_cases e : p = q
                · subst e
                  rw [HJ.out, List.getElem?_set_self (by omega)]
                · exact set_true (HQD.out p (by omega) hp')
              · have h := (HO'.out.stored j (.bool true)).1
                rw [← List.map_set] at h
                exact h
              · show c.sups.length - ((q : Int) + 1).toNat < c.sups.length - ((q : Nat) : Int).toNat
                omega
            · have hall : ∀ j, j ∈ supOf cs m → bq[j]? = some true := fun j hj => by
                rw [HSU.out] at hj
                obtain ⟨s, hs, rfl⟩ := List.mem_map.1 hj
                obtain ⟨p, hp, rfl⟩ := List.getElem_of_mem hs
                exact HQD.out p (by omega) hp
              have HCL := Lib.hid (HQK.out.close hall)
              clear hall
              go_wp2_with fail
              refine ⟨⟨m, bq, rfl, by omega, hql, HCL.out, HQO.out, HQB.out⟩, ?_⟩
              show ((m : Int) - 1 + 1).toNat < ((m : Int) + 1).toNat
              omega
end Go.Proofs.Ytlaibimdkamcfaa
