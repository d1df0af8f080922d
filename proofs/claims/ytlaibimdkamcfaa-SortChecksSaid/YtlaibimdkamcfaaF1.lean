/-
  The reference's Class, known.
-/
import Derived.Test.YtlaibimdkamcfaaE12
import Derived.Test.YtlaibimdkamcfaaM5
import Derived.Outline
namespace Go.Proofs.Ytlaibimdkamcfaa
open Go.RowKit Go.Maps

/-- The reference's number of a class. -/
noncomputable def refIdx (cs : List Cls) (s : ByteArray) : Int := if knownB cs s = true then (idxOfC cs s : Nat) else -1

theorem refIdx_at {cs : List Cls} {s : ByteArray} {i : Nat} (hi : i < cs.length) (hb : (cs.take i).all (fun c => !decide (c.name = s)) = true) (he : cs[i].name = s) : refIdx cs s = i := by
  have hm : s ∈ namesOf cs := by rw [← he]; exact List.mem_map.2 ⟨_, List.getElem_mem hi, rfl⟩
  have hk : knownB cs s = true := by unfold knownB; simpa using hm
  unfold refIdx
  rw [if_pos hk]
  congr 1
  unfold idxOfC
  rw [List.findIdx_eq (by rw [namesOf_length]; exact hi)]
  refine ⟨by rw [namesOf_get hi]; exact decide_eq_true he, fun j hj => ?_⟩
  have hj' : j < cs.length := by omega
  rw [namesOf_get hj']
  have := List.all_eq_true.1 hb cs[j] (List.mem_take_iff_getElem.2 ⟨j, by omega, rfl⟩)
  simpa using this

theorem refIdx_none {cs : List Cls} {s : ByteArray} (hb : cs.all (fun c => !decide (c.name = s)) = true) : refIdx cs s = -1 := by
  unfold refIdx
  rw [if_neg]
  intro h
  obtain ⟨c, hc, e⟩ := List.mem_map.1 (show s ∈ namesOf cs by unfold knownB at h; simpa using h)
  have := List.all_eq_true.1 hb c hc
  simp [e] at this

theorem refIdx_neg {cs : List Cls} {s : ByteArray} : refIdx cs s < 0 ↔ knownB cs s = false := by
  unfold refIdx
  cases knownB cs s <;> simp

set_option maxRecDepth 100000 in
set_option maxHeartbeats 2000000 in
theorem refClass_any {nm : ByteArray} {ca ta ra oa ya qa : Option Addr} {cc tn tc rn rc on oc yn yc qn qc cb co : Nat} {cs : List Cls} (s : ByteArray) (w : World)
    (hca : cs ≠ [] → ca = some ⟨cb, co, none⟩) (hcs : ClassesAt w cb co cs) (hcl : cs.length ≤ maxLen) (hs : s.size ≤ maxLen) :
    Calls Try.prog 43 #[.agg #[.string nm, .slice ca cs.length cc, .slice ta tn tc, .slice ra rn rc, .slice oa on oc, .slice ya yn yc, .slice qa qn qc], .string s] w fun e w' => e = .returned (.int .i64 (refIdx cs s)) ∧ Below w.heap.size w w' := by
  have HCA := Lib.hid hca
  have hb0 : Below w.heap.size w (w.alloc (.cells #[.string nm, .slice ca cs.length cc, .slice ta tn tc, .slice ra rn rc, .slice oa on oc, .slice ya yn yc, .slice qa qn qc] 29)) := (Below.refl _ w).alloc (Nat.le_refl _) _
  have hc0 := heap_alloc_new w (.cells #[.string nm, .slice ca cs.length cc, .slice ta tn tc, .slice ra rn rc, .slice oa on oc, .slice ya yn yc, .slice qa qn qc] 29)
  have HB0 := Lib.hid hb0
  have HC0 := Lib.hid hc0
  have HCS := Lib.hid (hcs.later hb0)
  clear hb0 hc0 hca hcs
  obtain ⟨R, hR⟩ : ∃ R, refIdx cs s = R := ⟨_, rfl⟩
  rw [hR]
  have HR := Lib.hid hR
  clear hR
  unfold maxLen at hcl hs
  go_enter Try.func43, Try.ntmps43
  go_wp2_with fail
  generalize (w.alloc (.cells #[.string nm, .slice ca cs.length cc, .slice ta tn tc, .slice ra rn rc, .slice oa on oc, .slice ya yn yc, .slice qa qn qc] 29)) = w1 at *
  obtain ⟨ga, hga⟩ : ∃ q, w.heap.size = q := ⟨_, rfl⟩
  have HCell := Lib.hid (thy_cells HC0.out)
  rw [hga] at HCell ⊢
  have HGA := Lib.hid hga
  clear hga
  obtain ⟨g0, g1, g2, g3, g4, g5, g6⟩ := HCell.out
  clear HCell
  go_loop [5] (fun t => ∃ i : Nat, t = .int .i64 i ∧ i ≤ cs.length ∧ (cs.take i).all (fun c => !decide (c.name = s)) = true) (fun t => cs.length - (intOf t).toNat)
  case atStart => exact ⟨0, rfl, Nat.zero_le _, by simp⟩
  case round =>
    obtain ⟨i, rfl, hi, hp⟩ := hrel
    by_cases hlt : i < cs.length
    · have e := HCA.out (by intro e; subst e; simp at hlt)
      subst e
      obtain ⟨hcb, sa, sb, so, sc, c0, c1, c2, c3, c4, c5⟩ := HCS.out i hlt
      have HP := Lib.hid hp
      have hts : (cs.take (i + 1)).all (fun c => !decide (c.name = s)) = !decide (cs[i].name = s) := by
        rw [← List.take_append_getElem hlt, List.all_append, hp]; simp
      have HTS := Lib.hid hts
      have HAT := Lib.hid (fun he => refIdx_at hlt hp he)
      obtain ⟨c, hc⟩ : ∃ c, cs[i] = c := ⟨_, rfl⟩
      rw [hc] at c0 c4 HTS HAT
      clear hp hts hc c1 c2 c3 c5
      have hq := toList_beq c.name s
      by_cases hd : c.name = s
      · rw [decide_eq_true hd] at hq
        have HD := Lib.hid hd
        clear hd
        go_wp2_with fail
        go_ret
        refine ⟨?_, ?_⟩
        · rw [← HR.out, HAT.out HD.out]; rfl
        · exact HB0.out
      · rw [decide_eq_false hd] at hq HTS
        clear hd
        go_wp2_with fail
        go_round
        case rel => exact ⟨i + 1, by go_num, by omega, HTS.out⟩
        case measure => simp [intOf]; omega
    · have ht : cs.take i = cs := List.take_of_length_le (by omega)
      rw [ht] at hp
      have HP := Lib.hid hp
      clear hp ht
      go_wp2_with fail
      go_ret
      refine ⟨?_, ?_⟩
      · rw [← HR.out, refIdx_none HP.out]; rfl
      · exact HB0.out

theorem refClass_uni {nm : ByteArray} {ca ta ra oa ya qa : Option Addr} {cc tn tc rn rc on oc yn yc qn qc cb co : Nat} {cs : List Cls} {g : Nat} {W0 : World} (h : ThyAt nm ca ta ra oa ya qa cc tn tc rn rc on oc yn yc qn qc cb co cs g W0) (W : World) {s : ByteArray} (hs : Hid (s.size ≤ maxLen)) (hb : Hid (Below W0.heap.size W0 W)) :
    Calls Try.prog 43 #[.agg #[.string nm, .slice ca cs.length cc, .slice ta tn tc, .slice ra rn rc, .slice oa on oc, .slice ya yn yc, .slice qa qn qc], .string s] W fun e W' =>
      e = .returned (.int .i64 (refIdx cs s)) ∧ Hid (Below W0.heap.size W0 W') ∧ W'.cell? ⟨g, 0, none⟩ = some (.string nm) ∧ W'.cell? ⟨g, 1, none⟩ = some (.slice ca cs.length cc) ∧ W'.cell? ⟨g, 2, none⟩ = some (.slice ta tn tc) ∧ W'.cell? ⟨g, 3, none⟩ = some (.slice ra rn rc) ∧ W'.cell? ⟨g, 4, none⟩ = some (.slice oa on oc) ∧ W'.cell? ⟨g, 5, none⟩ = some (.slice ya yn yc) ∧ W'.cell? ⟨g, 6, none⟩ = some (.slice qa qn qc) := by
  have hT := h.later hb.out
  refine (refClass_any s W hT.cla hT.thy.cls hT.len hs.out).mono ?_
  rintro e W' ⟨rfl, hb'⟩
  exact ⟨rfl, Lib.hid (hb.out.trans (hb'.mono hb.out.size)), (hT.later hb').cells⟩

set_option maxRecDepth 100000 in
set_option maxHeartbeats 2000000 in
theorem refKnown_any {nm : ByteArray} {ca ta ra oa ya qa : Option Addr} {cc tn tc rn rc on oc yn yc qn qc cb co : Nat} {cs : List Cls} {xa : Option Addr} {x : List ByteArray} {xc : Nat} (w : World)
    (hca : cs ≠ [] → ca = some ⟨cb, co, none⟩) (hcs : ClassesAt w cb co cs) (hcl : cs.length ≤ maxLen) (hx : SortAt w xa x) :
    Calls Try.prog 46 #[.agg #[.string nm, .slice ca cs.length cc, .slice ta tn tc, .slice ra rn rc, .slice oa on oc, .slice ya yn yc, .slice qa qn qc], .slice xa x.length xc] w fun e w' => e = .returned (.bool (x.all (knownB cs))) ∧ Below w.heap.size w w' := by
  have hb0 : Below w.heap.size w (w.alloc (.cells #[.string nm, .slice ca cs.length cc, .slice ta tn tc, .slice ra rn rc, .slice oa on oc, .slice ya yn yc, .slice qa qn qc] 29)) := (Below.refl _ w).alloc (Nat.le_refl _) _
  have HTH := Lib.hid (ThyAt.mk (Thy.mk (heap_alloc_new w (.cells #[.string nm, .slice ca cs.length cc, .slice ta tn tc, .slice ra rn rc, .slice oa on oc, .slice ya yn yc, .slice qa qn qc] 29)) (hcs.later hb0)) hca hcl : ThyAt nm ca ta ra oa ya qa cc tn tc rn rc on oc yn yc qn qc cb co cs w.heap.size _)
  have HX := Lib.hid (hx.later hb0)
  have hlx : x.length ≤ 9223372036854775807 := hx.choose_spec.choose_spec.2.2
  have HSZ := Lib.hid hx.size
  have HB0 := Lib.hid hb0
  clear hb0 hca hcs hcl hx
  obtain ⟨R, hR⟩ : ∃ R, x.all (knownB cs) = R := ⟨_, rfl⟩
  rw [hR]
  have HR := Lib.hid hR
  clear hR
  go_enter Try.func46, Try.ntmps46
  go_wp2_with fail
  generalize (w.alloc (.cells #[.string nm, .slice ca cs.length cc, .slice ta tn tc, .slice ra rn rc, .slice oa on oc, .slice ya yn yc, .slice qa qn qc] 29)) = w1 at *
  obtain ⟨ga, hga⟩ : ∃ q, w.heap.size = q := ⟨_, rfl⟩
  rw [hga] at HTH ⊢
  have HGA := Lib.hid hga
  clear hga
  go_loopw [5] (fun t wr => ∃ i : Nat, t = .int .i64 i ∧ i ≤ x.length ∧ (x.take i).all (knownB cs) = true ∧ Below w1.heap.size w1 wr) (fun t _ => x.length - (intOf t).toNat)
  case atStart => exact ⟨0, rfl, Nat.zero_le _, by simp, Below.refl _ _⟩
  case round =>
    obtain ⟨i, rfl, hi, hp, hb⟩ := hrel
    have HB := Lib.hid hb
    have HBW := Lib.hid (HB0.out.trans (hb.mono HB0.out.size))
    have HP := Lib.hid hp
    have HTR := Lib.hid (HTH.out.later hb)
    by_cases hlt : i < x.length
    · have hts : (x.take (i + 1)).all (knownB cs) = knownB cs x[i] := by
        rw [← List.take_append_getElem hlt, List.all_append, hp]; simp
      have HTS := Lib.hid hts
      have HZ := Lib.hid (HSZ.out _ (List.getElem_mem hlt))
      have HM := Lib.hid (List.getElem_mem hlt)
      obtain ⟨b, o, hxa, hxs, _⟩ := HX.out.later hb
      have e := hxa (by intro e; subst e; simp at hlt)
      subst e
      have hcx := hxs.cell i hlt
      obtain ⟨s, hs⟩ : ∃ s, x[i] = s := ⟨_, rfl⟩
      rw [hs] at HTS HZ HM hcx
      obtain ⟨g0, g1, g2, g3, g4, g5, g6⟩ := HTR.out.cells
      obtain ⟨I, hI⟩ : ∃ I, refIdx cs s = I := ⟨_, rfl⟩
      have HF := Lib.hid (fun W hb => refClass_uni HTR.out W HZ hb)
      rw [hI] at HF
      have HI := Lib.hid hI
      have hlb : b < wr.heap.size := hxs.lt (by intro e; subst e; simp at hlt)
      have HLB := Lib.hid hlb
      have HCX := Lib.hid hcx
      have HBR := Lib.hid ((Below.refl wr.heap.size wr).drew)
      have k0 : wr.drew.cell? ⟨ga, 0, none⟩ = _ := g0
      have k1 : wr.drew.cell? ⟨ga, 1, none⟩ = _ := g1
      have k2 : wr.drew.cell? ⟨ga, 2, none⟩ = _ := g2
      have k3 : wr.drew.cell? ⟨ga, 3, none⟩ = _ := g3
      have k4 : wr.drew.cell? ⟨ga, 4, none⟩ = _ := g4
      have k5 : wr.drew.cell? ⟨ga, 5, none⟩ = _ := g5
      have k6 : wr.drew.cell? ⟨ga, 6, none⟩ = _ := g6
      have k7 : wr.drew.cell? ⟨b, o + i, none⟩ = _ := hcx
      clear hp hts hs hxa hxs hI hb hlb
      by_cases hn : I < 0
      · have HN := Lib.hid (refIdx_neg.1 (by rw [HI.out]; exact hn))
        go_wp2_with fail
        go_region_held3 (fun W => W.cell? ⟨b, o + i, none⟩ = some (.string s) ∧ W.cell? ⟨ga, 0, none⟩ = some (.string nm) ∧ W.cell? ⟨ga, 1, none⟩ = some (.slice ca cs.length cc) ∧ W.cell? ⟨ga, 2, none⟩ = some (.slice ta tn tc) ∧ W.cell? ⟨ga, 3, none⟩ = some (.slice ra rn rc) ∧ W.cell? ⟨ga, 4, none⟩ = some (.slice oa on oc) ∧ W.cell? ⟨ga, 5, none⟩ = some (.slice ya yn yc) ∧ W.cell? ⟨ga, 6, none⟩ = some (.slice qa qn qc))
          (refine ⟨?_, ?_, ?_, ?_, ?_, ?_, ?_, ?_⟩ <;> assumption)
          ((go_at_call 43; refine (HF.out _ (by assumption)).mono ?_; rintro e w' ⟨rfl, hb', k0, k1, k2, k3, k4, k5, k6⟩; have k7 := (hb'.out.cell (p := ⟨b, o + i, none⟩) HLB.out).trans HCX.out))
        go_wp2_with fail
        go_ret
        refine ⟨?_, HBW.out.trans (hb'.out.mono HBW.out.size)⟩
        rw [← HR.out, show x.all (knownB cs) = false from List.all_eq_false.2 ⟨s, HM.out, by rw [HN.out]; simp⟩]
        rfl
      · have hk : knownB cs s = true := by
          cases hk : knownB cs s
          · exact absurd (by rw [← HI.out]; exact refIdx_neg.2 hk) hn
          · rfl
        have HN := Lib.hid (HTS.out.trans hk)
        clear hk
        go_wp2_with fail
        go_region_held3 (fun W => W.cell? ⟨b, o + i, none⟩ = some (.string s) ∧ W.cell? ⟨ga, 0, none⟩ = some (.string nm) ∧ W.cell? ⟨ga, 1, none⟩ = some (.slice ca cs.length cc) ∧ W.cell? ⟨ga, 2, none⟩ = some (.slice ta tn tc) ∧ W.cell? ⟨ga, 3, none⟩ = some (.slice ra rn rc) ∧ W.cell? ⟨ga, 4, none⟩ = some (.slice oa on oc) ∧ W.cell? ⟨ga, 5, none⟩ = some (.slice ya yn yc) ∧ W.cell? ⟨ga, 6, none⟩ = some (.slice qa qn qc))
          (refine ⟨?_, ?_, ?_, ?_, ?_, ?_, ?_, ?_⟩ <;> assumption)
          ((go_at_call 43; refine (HF.out _ (by assumption)).mono ?_; rintro e w' ⟨rfl, hb', k0, k1, k2, k3, k4, k5, k6⟩; have k7 := (hb'.out.cell (p := ⟨b, o + i, none⟩) HLB.out).trans HCX.out))
        go_wp2_with fail
        refine ⟨⟨i + 1, by simp only [Int.natCast_add, Int.natCast_one], by omega, HN.out, HB.out.trans (hb'.out.mono HB.out.size)⟩, ?_⟩
        show x.length - ((i : Int) + 1).toNat < x.length - ((i : Nat) : Int).toNat
        omega
    · have ht : x.take i = x := List.take_of_length_le (by omega)
      rw [ht] at HP
      clear hp ht hb
      go_wp2_with fail
      go_ret
      refine ⟨?_, HBW.out⟩
      rw [← HR.out, HP.out]; rfl
end Go.Proofs.Ytlaibimdkamcfaa
