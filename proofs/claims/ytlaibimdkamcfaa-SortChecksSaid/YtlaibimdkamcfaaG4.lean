/-
  The reference's IsNormal.
-/
import Derived.Test.YtlaibimdkamcfaaF5
import Derived.Test.YtlaibimdkamcfaaG1
import Derived.BigQuiet
namespace Go.Proofs.Ytlaibimdkamcfaa
open Go.RowKit Go.Maps

theorem normB_iff {cs : List Cls} {x L : List ByteArray} (hL : leastFrom (belowB cs) x [] x = L) : normB cs x = true ↔ L = x := by
  have hn := leastFrom_normal (belowB cs) x
  rw [hL] at hn
  unfold normB
  simp only [decide_eq_true_eq]
  constructor
  · rintro ⟨h1, h2⟩
    exact hn.unique (s' := x) (r' := x) ltS_irr ltS_trans ⟨h1, fun c => ⟨h2 c, fun h => h.1⟩, Nat.le_refl _⟩ fun _ => Iff.rfl
  · intro e
    rw [e] at hn
    exact ⟨hn.asc, fun c hc => (hn.mem c).1 hc⟩

theorem normB_false {cs : List Cls} {x L : List ByteArray} (hL : leastFrom (belowB cs) x [] x = L) (h : L ≠ x) : normB cs x = false := by
  cases hb : normB cs x with
  | false => rfl
  | true => exact absurd ((normB_iff hL).1 hb) h

set_option maxRecDepth 100000 in
set_option maxHeartbeats 4000000 in
theorem refIsNormal_any {nm : ByteArray} {ca ta ra oa ya qa : Option Addr} {cc tn tc rn rc on oc yn yc qn qc cb co : Nat} {cs : List Cls} {xa : Option Addr} {x : List ByteArray} {xc : Nat} (w : World)
    (hca : cs ≠ [] → ca = some ⟨cb, co, none⟩) (hcs : ClassesAt w cb co cs) (hcl : cs.length ≤ 300) (hO : openErr cs = 0) (hx : SortAt w xa x) (hl : x.length ≤ 20) (hk : x.all (knownB cs) = true) :
    Calls Try.prog 66 #[.agg #[.string nm, .slice ca cs.length cc, .slice ta tn tc, .slice ra rn rc, .slice oa on oc, .slice ya yn yc, .slice qa qn qc], .slice xa x.length xc] w fun e w' => e = .returned (.bool (normB cs x)) ∧ Below w.heap.size w w' := by
  have hclm : cs.length ≤ maxLen := by unfold maxLen; omega
  have hb0 : Below w.heap.size w (w.alloc (.cells #[.string nm, .slice ca cs.length cc, .slice ta tn tc, .slice ra rn rc, .slice oa on oc, .slice ya yn yc, .slice qa qn qc] 29)) := (Below.refl _ w).alloc (Nat.le_refl _) _
  have HTH := Lib.hid (ThyAt.mk (Thy.mk (heap_alloc_new w (.cells #[.string nm, .slice ca cs.length cc, .slice ta tn tc, .slice ra rn rc, .slice oa on oc, .slice ya yn yc, .slice qa qn qc] 29)) (hcs.later hb0)) hca hclm : ThyAt nm ca ta ra oa ya qa cc tn tc rn rc on oc yn yc qn qc cb co cs w.heap.size _)
  have HX := Lib.hid (hx.later hb0)
  have HSX := Lib.hid hx.size
  have HB0 := Lib.hid hb0
  have HK := Lib.hid hk
  have HO := Lib.hid hO
  clear hb0 hca hcs hclm hx hk hO
  obtain ⟨L, hL⟩ : ∃ L, leastFrom (belowB cs) x [] x = L := ⟨_, rfl⟩
  have HL := Lib.hid hL
  have HF := Lib.hid (normB_false hL)
  have HT := Lib.hid (normB_iff hL).2
  have HSUB := Lib.hid (show ∀ c, c ∈ L → c ∈ x from fun c hc => ((leastFrom_normal (belowB cs) x).mem c |>.1 (by rw [hL]; exact hc)).1)
  have hll : L.length ≤ x.length := by rw [← hL]; exact (leastFrom_normal (belowB cs) x).len
  obtain ⟨R, hR⟩ : ∃ R, normB cs x = R := ⟨_, rfl⟩
  rw [hR] at HF HT ⊢
  clear hR hL
  go_enter Try.func66, Try.ntmps66
  go_wp2_with fail
  generalize (w.alloc (.cells #[.string nm, .slice ca cs.length cc, .slice ta tn tc, .slice ra rn rc, .slice oa on oc, .slice ya yn yc, .slice qa qn qc] 29)) = w1 at *
  obtain ⟨ga, hga⟩ : ∃ q, w.heap.size = q := ⟨_, rfl⟩
  rw [hga] at HTH ⊢
  clear hga
  obtain ⟨g0, g1, g2, g3, g4, g5, g6⟩ := HTH.out.cells
  go_wp2_with fail
  refine (refKnown_any (xc := xc) w1 HTH.out.cla HTH.out.thy.cls HTH.out.len HX.out).mono ?_
  rw [HK.out]
  rintro e w2 ⟨rfl, hb2⟩
  have HT2 := Lib.hid (HTH.out.later hb2)
  have HX2 := Lib.hid (HX.out.later hb2)
  have HB2 := Lib.hid (HB0.out.trans (hb2.mono HB0.out.size))
  clear hb2 g0 g1 g2 g3 g4 g5 g6
  obtain ⟨g0, g1, g2, g3, g4, g5, g6⟩ := HT2.out.cells
  go_wp2_with fail
  refine (refLeast_any w2 HT2.out.cla HT2.out.thy.cls hcl HO.out HX2.out (by omega) (fun c hc => List.all_eq_true.1 HK.out c hc)).mono ?_
  rw [HL.out]
  rintro e w3 ⟨v, rfl, ho, hb3⟩
  have HX3 := Lib.hid (HX2.out.later hb3)
  have HB3 := Lib.hid (HB2.out.trans (hb3.mono HB2.out.size))
  obtain ⟨a3, c3, rfl, hs3⟩ := sortAt_own ho (fun c hc => HSX.out c (HSUB.out c hc)) (by omega)
  have HS3 := Lib.hid hs3
  clear ho hb3 hs3 g0 g1 g2 g3 g4 g5 g6
  by_cases hlen : L.length = x.length
  · have q1 : ((L.length : Int) == (x.length : Int)) = true := by simp [hlen]
    go_wp2_with fail
    go_loopw [6] (fun t wr => ∃ (i : Nat), t = .int .i64 i ∧ i ≤ L.length ∧ L.take i = x.take i ∧ Below w3.heap.size w3 wr) (fun t _ => L.length - (intOf t).toNat)
    case atStart => exact ⟨0, rfl, Nat.zero_le _, by simp, Below.refl _ _⟩
    case round =>
      obtain ⟨i, rfl, hi, hp, hb⟩ := hrel
      have HP := Lib.hid hp
      have HB := Lib.hid hb
      have HBW := Lib.hid (HB3.out.trans (hb.mono HB3.out.size))
      clear hp hb
      by_cases hlt : i < L.length
      · have hlt2 : i < x.length := by omega
        obtain ⟨xb, xo, hxa, hxs, _⟩ := HX3.out.later HB.out
        have e := hxa (by intro e; subst e; simp at hlt2)
        subst e
        obtain ⟨lb, lo, hla, hls, _⟩ := HS3.out.later HB.out
        have e := hla (by intro e; subst e; simp at hlt)
        subst e
        have cx := hxs.cell i hlt2
        have cl := hls.cell i hlt
        have hq := toList_beq L[i] x[i]
        by_cases he : L[i] = x[i]
        · rw [decide_eq_true he] at hq
          have HS := Lib.hid (show L.take (i + 1) = x.take (i + 1) by rw [← List.take_append_getElem hlt, ← List.take_append_getElem hlt2, HP.out, he])
          clear he
          obtain ⟨s1, hs1⟩ : ∃ s, L[i] = s := ⟨_, rfl⟩
          obtain ⟨s2, hs2⟩ : ∃ s, x[i] = s := ⟨_, rfl⟩
          rw [hs1] at cl hq
          rw [hs2] at cx hq
          clear hs1 hs2 hxa hxs hla hls
          go_wp2_with fail
          go_quiet (fail)
          go_wp2_with fail
          refine ⟨⟨i + 1, by simp only [Int.natCast_add, Int.natCast_one], by omega, HS.out, below_draws _ HB.out⟩, ?_⟩
          show L.length - ((i : Int) + 1).toNat < L.length - ((i : Nat) : Int).toNat
          omega
        · rw [decide_eq_false he] at hq
          have hne : L ≠ x := fun e => he (by simp only [e])
          have hR := HF.out hne
          subst hR
          clear he hne
          obtain ⟨s1, hs1⟩ : ∃ s, L[i] = s := ⟨_, rfl⟩
          obtain ⟨s2, hs2⟩ : ∃ s, x[i] = s := ⟨_, rfl⟩
          rw [hs1] at cl hq
          rw [hs2] at cx hq
          clear hs1 hs2 hxa hxs hla hls
          go_wp2_with fail
          go_quiet (fail)
          go_wp2_with fail
          go_ret
          exact ⟨rfl, below_draws _ HBW.out⟩
      · have he : L = x := by
          have h := HP.out
          rw [List.take_of_length_le (by omega), List.take_of_length_le (by omega)] at h
          exact h
        have hR := HT.out he
        subst hR
        clear he
        go_wp2_with fail
        go_ret
        exact ⟨rfl, HBW.out⟩
  · have q1 : ((L.length : Int) == (x.length : Int)) = false := by simp; omega
    have q2 : ((L.length : Int) != (x.length : Int)) = true := by simp; omega
    have hR := HF.out (fun e => hlen (by rw [e]))
    subst hR
    go_wp2_with fail
    go_ret
    exact ⟨rfl, HB3.out⟩
end Go.Proofs.Ytlaibimdkamcfaa
