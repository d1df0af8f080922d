import Derived.Test.YtlaibimdkamcfaaB3
import Derived.Outline
import Derived.Test.YtlaibimdkamcfaaF1
import Derived.Deep.RegionHeld3
import Derived.BigQuiet
/-
  The reference's IsName.
-/
namespace Go.Proofs.Ytlaibimdkamcfaa
open Go.RowKit

/-- What the reference asks of a byte. -/
theorem refByte (b : Int) (h0 : 0 ≤ b) (h1 : b ≤ 255) :
    (startsB b = true ∧ ((97 ≤ b ∧ b ≤ 122 ∧ 48 ≤ b ∧ ¬ b ≤ 57 ∧ (b == 39) = false ∧ (b == 46) = false) ∨ (¬ 97 ≤ b ∧ 65 ≤ b ∧ b ≤ 90 ∧ 48 ≤ b ∧ ¬ b ≤ 57 ∧ (b == 39) = false ∧ (b == 46) = false) ∨ b = 95)) ∨
    (startsB b = false ∧ contB b = true ∧ ((¬ 97 ≤ b ∧ ¬ 65 ≤ b ∧ (b == 95) = false ∧ 48 ≤ b ∧ b ≤ 57) ∨ b = 39 ∨ b = 46)) ∨
    (startsB b = false ∧ contB b = false ∧ ((97 ≤ b ∧ ¬ b ≤ 122 ∧ 65 ≤ b ∧ ¬ b ≤ 90 ∧ (b == 95) = false ∧ 48 ≤ b ∧ ¬ b ≤ 57 ∧ (b == 39) = false ∧ (b == 46) = false) ∨ (¬ 97 ≤ b ∧ 65 ≤ b ∧ ¬ b ≤ 90 ∧ (b == 95) = false ∧ 48 ≤ b ∧ ¬ b ≤ 57 ∧ (b == 39) = false ∧ (b == 46) = false) ∨ (¬ 97 ≤ b ∧ ¬ 65 ≤ b ∧ (b == 95) = false ∧ 48 ≤ b ∧ ¬ b ≤ 57 ∧ (b == 39) = false ∧ (b == 46) = false) ∨ (¬ 97 ≤ b ∧ ¬ 65 ≤ b ∧ (b == 95) = false ∧ ¬ 48 ≤ b ∧ (b == 39) = false ∧ (b == 46) = false))) := by
  have e1 : startsB b = true ↔ (97 ≤ b ∧ b ≤ 122) ∨ (65 ≤ b ∧ b ≤ 90) ∨ b = 95 := by unfold startsB; simp [or_assoc]
  have e2 : contB b = true ↔ (48 ≤ b ∧ b ≤ 57) ∨ b = 39 ∨ b = 46 := by unfold contB; simp [or_assoc]
  have f1 : startsB b = false ↔ ¬ ((97 ≤ b ∧ b ≤ 122) ∨ (65 ≤ b ∧ b ≤ 90) ∨ b = 95) := by rw [← e1]; simp
  have f2 : contB b = false ↔ ¬ ((48 ≤ b ∧ b ≤ 57) ∨ b = 39 ∨ b = 46) := by rw [← e2]; simp
  rw [e1, f1, e2, f2]
  simp only [beq_eq_false_iff_ne]
  omega

set_option maxRecDepth 100000 in
set_option maxHeartbeats 4000000 in
theorem refName_any (s : ByteArray) (w : World) (hs : s.size ≤ 9223372036854775807) : Calls Try.prog 19 #[.string s] w fun e w' => e = .returned (.bool (nameB s)) ∧ w = w' := by
  by_cases h0 : s.size < 1
  · have hv := Lib.hid (show nameB s = false by unfold nameB; rw [decide_eq_false (by omega)]; rfl)
    go_enter Try.func19, Try.ntmps19
    go_wp2_with fail
    go_ret
    exact ⟨ret_bool hv.out.symm, rfl⟩
  · by_cases h1 : 40 < s.size
    · have hv := Lib.hid (show nameB s = false by unfold nameB; rw [decide_eq_false (show ¬ s.size ≤ 40 by omega)]; simp)
      go_enter Try.func19, Try.ntmps19
      go_wp2_with fail
      go_ret
      exact ⟨ret_bool hv.out.symm, rfl⟩
    · have hv := Lib.hid (show nameB s = nameFrom true s.data.toList by unfold nameB; rw [decide_eq_true (show 1 ≤ s.size by omega), decide_eq_true (show s.size ≤ 40 by omega)]; simp)
      go_enter Try.func19, Try.ntmps19
      go_wp2_with fail
      go_loop [3] (fun t => ∃ k : Nat, t = .int .i64 k ∧ k ≤ s.size ∧ nameFrom (k == 0) (s.data.toList.drop k) = nameFrom true s.data.toList) (fun t => s.size - (intOf t).toNat)
      case atStart => exact ⟨0, rfl, Nat.zero_le _, rfl⟩
      case round =>
        obtain ⟨k, rfl, hk, hf⟩ := hrel
        have HF := Lib.hid hf
        clear hf
        by_cases hlt : k < s.size
        · have hd := Lib.hid (nameFrom_drop s k hlt)
          have b0 : (0 : Int) ≤ (s[k].toNat : Int) := by omega
          have b1 : (s[k].toNat : Int) ≤ 255 := by have := s[k].toNat_lt; omega
          have hy : ∃ b : Int, (s[k].toNat : Int) = b := ⟨_, rfl⟩
          have hc := refByte _ b0 b1
          rcases hc with ⟨hp, hc⟩ | ⟨hp, hq, hc⟩ | ⟨hp, hq, hc⟩
          · have HP := Lib.hid hp
            clear hp
            rcases hc with ⟨q1, q2, q3, q4, q5, q6⟩ | ⟨q1, q2, q3, q4, q5, q6, q7⟩ | q1
            all_goals
              go_wp2_with fail
              go_round
              case rel => exact ⟨k + 1, by go_num, by omega, by rw [← HF.out, hd.out, HP.out]; simp⟩
              case measure => simp [intOf]; omega
          · have HP := Lib.hid hp
            have HQ := Lib.hid hq
            clear hp hq
            by_cases hk0 : k = 0
            · subst hk0
              rcases hc with ⟨q1, q2, q3, q4, q5⟩ | q1 | q1
              all_goals
                go_wp2_with fail
                go_ret
                exact ⟨ret_bool (by rw [hv.out, ← HF.out, hd.out, HP.out]; simp), rfl⟩
            · have hkk : ((k : Int) == 0) = false := by simpa using hk0
              have HK := Lib.hid hk0
              clear hk0
              rcases hc with ⟨q1, q2, q3, q4, q5⟩ | q1 | q1
              all_goals
                go_wp2_with fail
                go_round
                case rel => exact ⟨k + 1, by go_num, by omega, by rw [← HF.out, hd.out, HP.out, HQ.out]; simp [HK.out]⟩
                case measure => simp [intOf]; omega
          · have HP := Lib.hid hp
            have HQ := Lib.hid hq
            clear hp hq
            by_cases hk0 : k = 0
            · subst hk0
              rcases hc with ⟨q1, q2, q3, q4, q5, q6, q7, q8, q9⟩ | ⟨q1, q2, q3, q4, q5, q6, q7, q8⟩ | ⟨q1, q2, q3, q4, q5, q6, q7⟩ | ⟨q1, q2, q3, q4, q5, q6⟩
              all_goals
                go_wp2_with fail
                go_ret
                exact ⟨ret_bool (by rw [hv.out, ← HF.out, hd.out, HP.out]; simp), rfl⟩
            · have hkk : ((k : Int) == 0) = false := by simpa using hk0
              have HK := Lib.hid hk0
              clear hk0
              rcases hc with ⟨q1, q2, q3, q4, q5, q6, q7, q8, q9⟩ | ⟨q1, q2, q3, q4, q5, q6, q7, q8⟩ | ⟨q1, q2, q3, q4, q5, q6, q7⟩ | ⟨q1, q2, q3, q4, q5, q6⟩
              all_goals
                go_wp2_with fail
                go_ret
                exact ⟨ret_bool (by rw [hv.out, ← HF.out, hd.out, HP.out, HQ.out]; simp), rfl⟩
        · go_wp2_with fail
          go_ret
          refine ⟨ret_bool ?_, rfl⟩
          rw [hv.out, ← HF.out, List.drop_of_length_le (by simp; omega)]
          rfl
end Go.Proofs.Ytlaibimdkamcfaa

/-
  The reference's classes: the error of the classes of a theory.
-/
namespace Go.Proofs.Ytlaibimdkamcfaa
open Go.RowKit Go.Maps

/-- A name stands among the first classes just if its number is one of theirs. -/
theorem refIdx_pre {cs : List Cls} {s : ByteArray} {i : Nat} (hi : i ≤ cs.length) : (refIdx cs s < 0 ∨ (i : Int) ≤ refIdx cs s) ↔ s ∉ namesOf (cs.take i) := by
  constructor
  · rintro h hm
    obtain ⟨_, h1, h2⟩ := idx_take hm
    unfold refIdx at h
    rw [if_pos h1] at h
    omega
  · intro hm
    by_cases hk : knownB cs s = true
    · right
      unfold refIdx
      rw [if_pos hk]
      refine Classical.byContradiction fun hn => hm ?_
      have hlt : idxOfC cs s < i := by omega
      have hg := idx_get hk
      rw [names_take]
      refine List.mem_take_iff_getElem.2 ⟨idxOfC cs s, by rw [namesOf_length]; omega, ?_⟩
      rw [namesOf_get (by omega)]
      exact hg
    · left
      unfold refIdx
      rw [if_neg hk]; decide

theorem refIdx_self {cs : List Cls} {i : Nat} (hi : i < cs.length) : refIdx cs cs[i].name = i ↔ cs[i].name ∉ namesOf (cs.take i) := by
  rw [← refIdx_pre (by omega)]
  have hk : knownB cs cs[i].name = true := by
    have hm : cs[i].name ∈ namesOf cs := List.mem_map.2 ⟨_, List.getElem_mem hi, rfl⟩
    unfold knownB
    simpa using hm
  have hle : idxOfC cs cs[i].name ≤ i := by
    refine Nat.le_of_not_lt fun hn => ?_
    unfold idxOfC at hn
    have := List.not_of_lt_findIdx hn
    rw [namesOf_get hi] at this
    simp at this
  unfold refIdx
  rw [if_pos hk]
  omega

theorem refIdx_int {cs : List Cls} {s : ByteArray} : -1 ≤ refIdx cs s ∧ refIdx cs s ≤ cs.length := by
  unfold refIdx
  by_cases hk : knownB cs s = true
  · rw [if_pos hk]; have := idx_lt hk; omega
  · rw [if_neg hk]; omega

theorem clsErr_name {pre : List ByteArray} {c : Cls} (h : nameB c.name = false) : clsErr pre c = 30 := by unfold clsErr; rw [if_neg (by rw [h]; decide)]
theorem clsErr_dup {pre : List ByteArray} {c : Cls} (h : nameB c.name = true) (h2 : c.name ∈ pre) : clsErr pre c = 10 := by unfold clsErr; rw [if_pos h, if_pos h2]
theorem clsErr_many {pre : List ByteArray} {c : Cls} (h : nameB c.name = true) (h2 : c.name ∉ pre) (h3 : 20 < c.sups.length) : clsErr pre c = 5 := by unfold clsErr; rw [if_pos h, if_neg h2, if_pos h3]
theorem clsErr_sups {pre : List ByteArray} {c : Cls} (h : nameB c.name = true) (h2 : c.name ∉ pre) (h3 : ¬ 20 < c.sups.length) : clsErr pre c = firstErr c.sups.length (supErr pre c.sups) := by unfold clsErr; rw [if_pos h, if_neg h2, if_neg h3]

theorem openErr_at {cs : List Cls} {i : Nat} (h300 : ¬ 300 < cs.length) (hi : i < cs.length) (hz : ∀ j, j < i → clsErr (namesOf (cs.take j)) (clsAt cs j) = 0) {E : Int} (he : clsErr (namesOf (cs.take i)) cs[i] = E) (h0 : E ≠ 0) : openErr cs = E := by
  unfold openErr
  rw [if_neg h300, firstErr_at hi hz (by rw [clsAt_eq hi, he]; exact h0), clsAt_eq hi, he]

theorem openErr_none {cs : List Cls} (h300 : ¬ 300 < cs.length) (hz : ∀ j, j < cs.length → clsErr (namesOf (cs.take j)) (clsAt cs j) = 0) : openErr cs = 0 := by
  unfold openErr
  rw [if_neg h300, firstErr_zero.2 hz]

set_option maxRecDepth 100000 in
set_option maxHeartbeats 8000000 in
theorem refClasses_any {nm : ByteArray} {ca ta ra oa ya qa : Option Addr} {cc tn tc rn rc on oc yn yc qn qc cb co : Nat} {cs : List Cls} (w : World)
    (hca : cs ≠ [] → ca = some ⟨cb, co, none⟩) (hcs : ClassesAt w cb co cs) (hcl : cs.length ≤ maxLen) :
    Calls Try.prog 37 #[.agg #[.string nm, .slice ca cs.length cc, .slice ta tn tc, .slice ra rn rc, .slice oa on oc, .slice ya yn yc, .slice qa qn qc]] w fun e w' => e = .returned (.int .i64 (openErr cs)) ∧ Below w.heap.size w w' := by
  have hb0 : Below w.heap.size w (w.alloc (.cells #[.string nm, .slice ca cs.length cc, .slice ta tn tc, .slice ra rn rc, .slice oa on oc, .slice ya yn yc, .slice qa qn qc] 29)) := (Below.refl _ w).alloc (Nat.le_refl _) _
  have HTH := Lib.hid (ThyAt.mk (Thy.mk (heap_alloc_new w (.cells #[.string nm, .slice ca cs.length cc, .slice ta tn tc, .slice ra rn rc, .slice oa on oc, .slice ya yn yc, .slice qa qn qc] 29)) (hcs.later hb0)) hca hcl : ThyAt nm ca ta ra oa ya qa cc tn tc rn rc on oc yn yc qn qc cb co cs w.heap.size _)
  have HB0 := Lib.hid hb0
  clear hb0 hca hcs
  obtain ⟨R, hR⟩ : ∃ R, openErr cs = R := ⟨_, rfl⟩
  rw [hR]
  have HR := Lib.hid hR
  clear hR
  unfold maxLen at hcl
  obtain ⟨g0, g1, g2, g3, g4, g5, g6⟩ := HTH.out.cells
  by_cases h300 : 300 < cs.length
  · have he : openErr cs = 5 := by unfold openErr; rw [if_pos h300]
    have HE := Lib.hid he
    clear he
    go_enter Try.func37, Try.ntmps37
    go_wp2_with fail
    go_ret
    refine ⟨?_, ?_⟩
    · rw [← HR.out, HE.out]; rfl
    · exact HB0.out
  have H300 := Lib.hid h300
  go_enter Try.func37, Try.ntmps37
  go_wp2_with fail
  clear g0 g1 g2 g3 g4 g5 g6
  generalize (w.alloc (.cells #[.string nm, .slice ca cs.length cc, .slice ta tn tc, .slice ra rn rc, .slice oa on oc, .slice ya yn yc, .slice qa qn qc] 29)) = w1 at *
  obtain ⟨ga, hga⟩ : ∃ q, w.heap.size = q := ⟨_, rfl⟩
  rw [hga] at HTH ⊢
  have HGA := Lib.hid hga
  clear hga
  go_loopw [3] (fun t wr => ∃ i : Nat, t = .int .i64 i ∧ i ≤ cs.length ∧ (∀ j, j < i → clsErr (namesOf (cs.take j)) (clsAt cs j) = 0) ∧ Below w1.heap.size w1 wr) (fun t _ => cs.length - (intOf t).toNat)
  case atStart => exact ⟨0, rfl, Nat.zero_le _, fun j hj => by omega, Below.refl _ _⟩
  case round =>
    obtain ⟨i, rfl, hi, hp, hb⟩ := hrel
    have HB := Lib.hid hb
    have HBW := Lib.hid (HB0.out.trans (hb.mono HB0.out.size))
    have HP := Lib.hid hp
    have HTR := Lib.hid (HTH.out.later hb)
    clear hp hb
    obtain ⟨g0, g1, g2, g3, g4, g5, g6⟩ := HTR.out.cells
    by_cases hlt : i < cs.length
    · have e := HTR.out.cla (by intro e; subst e; simp at hlt)
      subst e
      obtain ⟨hcb, sa, sb, so, sc, c0, c1, c2, c3, c4, c5⟩ := HTR.out.thy.cls i hlt
      have HSELF := Lib.hid (refIdx_self hlt)
      have HAT := Lib.hid (fun E he h0 => openErr_at H300.out hlt HP.out (E := E) he h0)
      have HCE := Lib.hid (clsAt_eq hlt)
      obtain ⟨c, hc⟩ : ∃ c, cs[i] = c := ⟨_, rfl⟩
      rw [hc] at c0 c1 c2 c3 c4 c5 HSELF HAT HCE
      clear hc
      obtain ⟨nam, hnam⟩ : ∃ q, c.name = q := ⟨_, rfl⟩
      obtain ⟨l, hl⟩ : ∃ q, c.sups = q := ⟨_, rfl⟩
      have HNA := Lib.hid hnam
      have HLL := Lib.hid hl
      rw [hnam] at c0 c4 HSELF
      rw [hl] at c1 c2 c3 c5
      have HC2 := Lib.hid c2
      clear hnam hl c2
      unfold maxLen at c5
      have b2 : Below wr.heap.size wr (wr.alloc (.cells #[.string nam, .slice sa l.length sc] 60)) := (Below.refl _ wr).alloc (Nat.le_refl _) _
      have n2 := heap_alloc_new wr (.cells #[.string nam, .slice sa l.length sc] 60)
      have z2 : (wr.alloc (.cells #[.string nam, .slice sa l.length sc] 60)).heap.size = wr.heap.size + 1 := by simp
      have HT2 := Lib.hid (HTR.out.later b2)
      have HB2 := Lib.hid b2
      have HN2 := Lib.hid n2
      have HST := Lib.hid (c3.later b2)
      have HNW := Lib.hid (refName_any nam (wr.alloc (.cells #[.string nam, .slice sa l.length sc] 60)) (size_nat c4))
      have HC4 := Lib.hid c4
      have HZ2 := Lib.hid z2
      clear b2 n2 z2 c3 c4
      have e0 : (wr.alloc (.cells #[.string nam, .slice sa l.length sc] 60)).cell? ⟨wr.heap.size, 0, none⟩ = some (.string nam) := by rw [Lib.cell_of_heap HN2.out]; rfl
      have e1 : (wr.alloc (.cells #[.string nam, .slice sa l.length sc] 60)).cell? ⟨wr.heap.size, 1, none⟩ = some (.slice sa l.length sc) := by rw [Lib.cell_of_heap HN2.out]; rfl
      go_wp2_with fail
      generalize (wr.alloc (.cells #[.string nam, .slice sa l.length sc] 60)) = w2 at *
      obtain ⟨gc, hgc⟩ : ∃ q, wr.heap.size = q := ⟨_, rfl⟩
      rw [hgc] at HN2 HZ2 e0 e1 ⊢
      have HGC := Lib.hid hgc
      clear hgc
      have HB2W := Lib.hid (HBW.out.trans (HB2.out.mono HBW.out.size))
      have HBi2 := Lib.hid (HB.out.trans (HB2.out.mono HB.out.size))
      clear g0 g1 g2 g3 g4 g5 g6 c0 c1
      refine HNW.out.mono ?_
      rintro e w' ⟨rfl, rfl⟩
      cases hnb : nameB nam with
      | false =>
        have HE := Lib.hid (HAT.out 30 (clsErr_name (by rw [HNA.out]; exact hnb)) (by decide))
        clear hnb
        go_wp2_with fail
        go_ret
        refine ⟨?_, ?_⟩
        · rw [← HR.out, HE.out]; rfl
        · exact HB2W.out
      | true =>
        have HNB := Lib.hid hnb
        clear hnb
        obtain ⟨g0, g1, g2, g3, g4, g5, g6⟩ := HT2.out.cells
        go_wp2_with fail
        refine (refClass_uni HT2.out _ HC4 (Lib.hid (Below.refl _ _))).mono ?_
        rintro e w3 ⟨rfl, hb3, j0, j1, j2, j3, j4, j5, j6⟩
        have HB3 := Lib.hid hb3.out
        have HB3W := Lib.hid (HB2W.out.trans (hb3.out.mono HB2W.out.size))
        have HBi3 := Lib.hid (HBi2.out.trans (hb3.out.mono HBi2.out.size))
        have HG3 := Lib.hid (show gc < w2.heap.size by have := HZ2.out; omega)
        have f1 := (hb3.out.cell (p := ⟨gc, 1, none⟩) HG3.out).trans e1
        have HT3 := Lib.hid (HT2.out.later hb3.out)
        have HST3 := Lib.hid (HST.out.later hb3.out)
        obtain ⟨I, hI⟩ : ∃ I, refIdx cs nam = I := ⟨_, rfl⟩
        rw [hI] at HSELF ⊢
        clear hb3 g0 g1 g2 g3 g4 g5 g6 e0 e1 hI j0 j1 j2 j3 j4 j5 j6
        by_cases hIi : I = i
        · have hnp := HSELF.out.1 hIi
          rw [← HNA.out] at hnp HNB
          have HNP := Lib.hid hnp
          subst hIi
          clear hnp
          by_cases h20 : 20 < l.length
          · have HE := Lib.hid (HAT.out 5 (clsErr_many HNB.out HNP.out (by rw [HLL.out]; exact h20)) (by decide))
            go_wp2_with fail
            go_ret
            refine ⟨?_, ?_⟩
            · rw [← HR.out, HE.out]; rfl
            · exact HB3W.out
          · have HCL := Lib.hid (clsErr_sups HNB.out HNP.out (by rw [HLL.out]; exact h20))
            rw [HLL.out] at HCL
            go_wp2_with fail
            have HF1 := Lib.hid f1
            have HGC3 := Lib.hid (Nat.lt_of_lt_of_le HG3.out HB3.out.size)
            obtain ⟨pre, hpre⟩ : ∃ p, namesOf (cs.take i) = p := ⟨_, rfl⟩
            have HPRE := Lib.hid (fun s => hpre ▸ (refIdx_pre (cs := cs) (s := s) (i := i) (by omega)))
            rw [hpre] at HCL HNP HAT
            have HPR := Lib.hid hpre
            clear f1 hpre
            go_loopw [5] (fun t wr => ∃ k : Nat, t = .int .i64 k ∧ k ≤ l.length ∧ (∀ j, j < k → supErr pre l j = 0) ∧ Below w3.heap.size w3 wr) (fun t _ => l.length - (intOf t).toNat)
            case atStart => exact ⟨0, rfl, Nat.zero_le _, fun j hj => by omega, Below.refl _ _⟩
            case round =>
              obtain ⟨k, rfl, hk, hp, hb⟩ := hrel
              have HPk := Lib.hid hp
              have HBr := Lib.hid hb
              have HBrW := Lib.hid (HB3W.out.trans (hb.mono HB3W.out.size))
              have HBri := Lib.hid (HBi3.out.trans (hb.mono HBi3.out.size))
              have HTk := Lib.hid (HT3.out.later hb)
              have f1 := (hb.cell (p := ⟨gc, 1, none⟩) HGC3.out).trans HF1.out
              have HGK := Lib.hid (Nat.lt_of_lt_of_le HGC3.out hb.size)
              clear hp hb
              by_cases hlk : k < l.length
              · have e := HC2.out (by intro e; subst e; simp at hlk)
                subst e
                have hsk := HST3.out.later HBr.out
                have hck := hsk.cell k hlk
                have HZs := Lib.hid (hsk.size k hlk)
                have HLB := Lib.hid (hsk.lt (by intro e; subst e; simp at hlk))
                have HSK := Lib.hid hsk
                have HSA := Lib.hid (strAt_eq hlk)
                have HM := Lib.hid (HPRE.out l[k])
                have HFE := Lib.hid (fun E he h0 => supErr_first pre l k hlk HPk.out E he h0)
                obtain ⟨s, hs⟩ : ∃ s, l[k] = s := ⟨_, rfl⟩
                rw [hs] at hck HZs HSA HM
                have HLK := Lib.hid hs
                obtain ⟨g0, g1, g2, g3, g4, g5, g6⟩ := HTk.out.cells
                obtain ⟨J, hJ⟩ : ∃ J, refIdx cs s = J := ⟨_, rfl⟩
                have HF := Lib.hid (fun W hb => refClass_uni HTk.out W HZs hb)
                rw [hJ] at HF HM
                have HCK := Lib.hid hck
                have HFK := Lib.hid f1
                have HBR := Lib.hid ((Below.refl wr.heap.size wr).drew)
                have k0 : wr.drew.cell? ⟨ga, 0, none⟩ = _ := g0
                have k1 : wr.drew.cell? ⟨ga, 1, none⟩ = _ := g1
                have k2 : wr.drew.cell? ⟨ga, 2, none⟩ = _ := g2
                have k3 : wr.drew.cell? ⟨ga, 3, none⟩ = _ := g3
                have k4 : wr.drew.cell? ⟨ga, 4, none⟩ = _ := g4
                have k5 : wr.drew.cell? ⟨ga, 5, none⟩ = _ := g5
                have k6 : wr.drew.cell? ⟨ga, 6, none⟩ = _ := g6
                have k7 : wr.drew.cell? ⟨sb, so + k, none⟩ = _ := hck
                have k8 : wr.drew.cell? ⟨gc, 1, none⟩ = _ := f1
                clear hs hJ hsk
                go_wp2_with fail
                go_region_held3 (fun W => W.cell? ⟨sb, so + k, none⟩ = some (.string s) ∧ W.cell? ⟨gc, 1, none⟩ = some (.slice (some ⟨sb, so, none⟩) l.length sc) ∧ W.cell? ⟨ga, 0, none⟩ = some (.string nm) ∧ W.cell? ⟨ga, 1, none⟩ = some (.slice (some ⟨cb, co, none⟩) cs.length cc) ∧ W.cell? ⟨ga, 2, none⟩ = some (.slice ta tn tc) ∧ W.cell? ⟨ga, 3, none⟩ = some (.slice ra rn rc) ∧ W.cell? ⟨ga, 4, none⟩ = some (.slice oa on oc) ∧ W.cell? ⟨ga, 5, none⟩ = some (.slice ya yn yc) ∧ W.cell? ⟨ga, 6, none⟩ = some (.slice qa qn qc))
                  (refine ⟨?_, ?_, ?_, ?_, ?_, ?_, ?_, ?_, ?_⟩ <;> assumption)
                  ((go_at_call 43; refine (HF.out _ (by assumption)).mono ?_; rintro e w' ⟨rfl, hb', k0, k1, k2, k3, k4, k5, k6⟩; have k7 := (hb'.out.cell (p := ⟨sb, so + k, none⟩) HLB.out).trans HCK.out; have k8 := (hb'.out.cell (p := ⟨gc, 1, none⟩) HGK.out).trans HFK.out))
                have HB4 := Lib.hid (HBr.out.trans (hb'.out.mono HBr.out.size))
                have HB4W := Lib.hid (HBrW.out.trans (hb'.out.mono HBrW.out.size))
                have HB4i := Lib.hid (HBri.out.trans (hb'.out.mono HBri.out.size))
                by_cases hJ0 : J < 0
                · have he : supErr pre l k = 9 := by unfold supErr; rw [HSA.out, if_neg (HM.out.1 (.inl hJ0))]
                  have HE := Lib.hid (HAT.out 9 (HCL.out.trans (HFE.out 9 he (by decide))) (by decide))
                  clear he
                  go_wp2_with fail
                  go_ret
                  refine ⟨?_, ?_⟩
                  · rw [← HR.out, HE.out]; rfl
                  · exact HB4W.out
                · by_cases hJi : (i : Int) ≤ J
                  · have he : supErr pre l k = 9 := by unfold supErr; rw [HSA.out, if_neg (HM.out.1 (.inr hJi))]
                    have HE := Lib.hid (HAT.out 9 (HCL.out.trans (HFE.out 9 he (by decide))) (by decide))
                    clear he
                    go_wp2_with fail
                    go_ret
                    refine ⟨?_, ?_⟩
                    · rw [← HR.out, HE.out]; rfl
                    · exact HB4W.out
                  · have HIN := Lib.hid (show s ∈ pre from Classical.byContradiction fun hn => by have := HM.out.2 hn; omega)
                    cases k with
                    | zero =>
                      have he : supErr pre l 0 = 0 := by unfold supErr; rw [if_pos (by rw [HSA.out]; exact HIN.out), if_neg (by omega)]
                      have HE0 := Lib.hid he
                      clear he
                      go_wp2_with fail
                      go_quiet (fail)
                      go_wp2_with fail
                      refine ⟨⟨0 + 1, by rfl, by omega, fun j hj => ?_, below_draws _ HB4.out⟩, ?_⟩
                      · by_cases e : j = 0
                        · subst e; exact HE0.out
                        · exact HPk.out j (by omega)
                      · show l.length - (((0 : Nat) : Int) + 1).toNat < l.length - ((0 : Nat) : Int).toNat
                        omega
                    | succ q =>
                      have hq : q < l.length := by omega
                      have HAq := Lib.hid (strAt_eq hq)
                      have hcq : w'.cell? ⟨sb, so + q, none⟩ = some (.string l[q]) := (HSK.out.later hb'.out).cell q hq
                      have hbl := bytesLess_ltS l[q] s
                      cases hbb : Op.bytesLess l[q].toList s.toList with
                      | true =>
                        have he : supErr pre l (q + 1) = 0 := by
                          unfold supErr
                          rw [if_pos (by rw [HSA.out]; exact HIN.out), Nat.add_sub_cancel, HSA.out, HAq.out, if_neg]
                          rintro ⟨_, hn⟩
                          exact hn (hbl.1 hbb)
                        have HE0 := Lib.hid he
                        clear he hbl
                        go_wp2_with fail
                        go_quiet (fail)
                        go_wp2_with fail
                        refine ⟨⟨(q + 1) + 1, by simp only [Int.natCast_add, Int.natCast_one], by omega, fun j hj => ?_, below_draws _ HB4.out⟩, ?_⟩
                        · by_cases e : j = (q + 1)
                          · subst e; exact HE0.out
                          · exact HPk.out j (by omega)
                        · show l.length - ((((q + 1) : Nat) : Int) + 1).toNat < l.length - (((q + 1) : Nat) : Int).toNat
                          omega
                      | false =>
                        have he : supErr pre l (q + 1) = 17 := by
                          unfold supErr
                          rw [if_pos (by rw [HSA.out]; exact HIN.out), Nat.add_sub_cancel, HSA.out, HAq.out, if_pos]
                          exact ⟨by omega, fun h => by have := hbl.2 h; rw [hbb] at this; cases this⟩
                        have HE := Lib.hid (HAT.out 17 (HCL.out.trans (HFE.out 17 he (by decide))) (by decide))
                        clear he hbl
                        go_wp2_with fail
                        go_quiet (fail)
                        go_wp2_with fail
                        go_ret
                        refine ⟨?_, ?_⟩
                        · rw [← HR.out, HE.out]; rfl
                        · exact below_draws _ HB4W.out
              · have ht : k = l.length := by omega
                subst ht
                have HE0 := Lib.hid (HCL.out.trans (firstErr_zero.2 HPk.out))
                go_wp2_with fail
                refine ⟨⟨i + 1, by simp only [Int.natCast_add, Int.natCast_one], by omega, fun j hj => ?_, HBri.out⟩, ?_⟩
                · by_cases e : j = i
                  · subst e
                    rw [HCE.out, HPR.out]; exact HE0.out
                  · exact HP.out j (by omega)
                · show cs.length - ((i : Int) + 1).toNat < cs.length - ((i : Nat) : Int).toNat
                  omega
        · have hin : c.name ∈ namesOf (cs.take i) := Classical.byContradiction fun hn => hIi (HSELF.out.2 (by rw [← HNA.out]; exact hn))
          have HE := Lib.hid (HAT.out 10 (clsErr_dup (by rw [HNA.out]; exact HNB.out) hin) (by decide))
          have q1 : (I == (i : Int)) = false := by simpa using hIi
          have q2 : (I != (i : Int)) = true := by simpa using hIi
          clear hin hIi
          go_wp2_with fail
          go_ret
          refine ⟨?_, ?_⟩
          · rw [← HR.out, HE.out]; rfl
          · exact HB3W.out
    · have ht : i = cs.length := by omega
      subst ht
      have HE := Lib.hid (openErr_none H300.out HP.out)
      go_wp2_with fail
      go_ret
      refine ⟨?_, ?_⟩
      · rw [← HR.out, HE.out]; rfl
      · exact HBW.out
end Go.Proofs.Ytlaibimdkamcfaa
