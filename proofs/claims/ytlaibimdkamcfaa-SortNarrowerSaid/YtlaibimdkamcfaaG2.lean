import Derived.Test.YtlaibimdkamcfaaG1
/-
  The reference's constructors: the error of the type constructors of a theory.
-/
namespace Go.Proofs.Ytlaibimdkamcfaa
open Go.RowKit Go.Maps

section
variable {nm : ByteArray} {ca ta ra oa ya qa : Option Addr} {cc tc rc on oc yn yc qn qc cb co tb to rb ro : Nat} {cs : List Cls} {ts : List TD} {l : List Ari} {g : Nat} {W0 : World}

theorem refType_uni (h : ThyF nm ca ta ra oa ya qa cc tc rc on oc yn yc qn qc cb co tb to rb ro cs ts l g W0) (W : World) {s : ByteArray} (hs : Hid (s.size ≤ maxLen)) (hb : Hid (Below W0.heap.size W0 W)) :
    Calls Try.prog 55 #[.agg #[.string nm, .slice ca cs.length cc, .slice ta ts.length tc, .slice ra l.length rc, .slice oa on oc, .slice ya yn yc, .slice qa qn qc], .string s] W fun e W' =>
      e = .returned (.int .i64 (refT ts s)) ∧ Hid (Below W0.heap.size W0 W') ∧ W'.cell? ⟨g, 0, none⟩ = some (.string nm) ∧ W'.cell? ⟨g, 1, none⟩ = some (.slice ca cs.length cc) ∧ W'.cell? ⟨g, 2, none⟩ = some (.slice ta ts.length tc) ∧ W'.cell? ⟨g, 3, none⟩ = some (.slice ra l.length rc) ∧ W'.cell? ⟨g, 4, none⟩ = some (.slice oa on oc) ∧ W'.cell? ⟨g, 5, none⟩ = some (.slice ya yn yc) ∧ W'.cell? ⟨g, 6, none⟩ = some (.slice qa qn qc) := by
  refine (refType_any h s W hs.out hb.out).mono ?_
  rintro e W' ⟨rfl, hb'⟩
  exact ⟨rfl, Lib.hid hb', (h.later hb').at_.cells⟩

theorem refArity_uni (h : ThyF nm ca ta ra oa ya qa cc tc rc on oc yn yc qn qc cb co tb to rb ro cs ts l g W0) (W : World) {s z : ByteArray} (hs : Hid (s.size ≤ maxLen)) (hz : Hid (z.size ≤ maxLen)) (hb : Hid (Below W0.heap.size W0 W)) :
    Calls Try.prog 65 #[.agg #[.string nm, .slice ca cs.length cc, .slice ta ts.length tc, .slice ra l.length rc, .slice oa on oc, .slice ya yn yc, .slice qa qn qc], .string s, .string z] W fun e W' =>
      e = .returned (.int .i64 (refA l (s, z))) ∧ Hid (Below W0.heap.size W0 W') ∧ W'.cell? ⟨g, 0, none⟩ = some (.string nm) ∧ W'.cell? ⟨g, 1, none⟩ = some (.slice ca cs.length cc) ∧ W'.cell? ⟨g, 2, none⟩ = some (.slice ta ts.length tc) ∧ W'.cell? ⟨g, 3, none⟩ = some (.slice ra l.length rc) ∧ W'.cell? ⟨g, 4, none⟩ = some (.slice oa on oc) ∧ W'.cell? ⟨g, 5, none⟩ = some (.slice ya yn yc) ∧ W'.cell? ⟨g, 6, none⟩ = some (.slice qa qn qc) := by
  refine (refArity_any h s z W hs.out hz.out hb.out).mono ?_
  rintro e W' ⟨rfl, hb'⟩
  exact ⟨rfl, Lib.hid hb', (h.later hb').at_.cells⟩
end

theorem tdErr_name {pre : List ByteArray} {d : TD} (h : nameB d.name = false) : tdErr pre d = 30 := by unfold tdErr; rw [if_neg (by rw [h]; decide)]
theorem tdErr_dup {pre : List ByteArray} {d : TD} (h : nameB d.name = true) (h2 : d.name ∈ pre) : tdErr pre d = 10 := by unfold tdErr; rw [if_pos h, if_pos h2]
theorem tdErr_range {pre : List ByteArray} {d : TD} (h : nameB d.name = true) (h2 : d.name ∉ pre) (h3 : d.arity < 0 ∨ 10 < d.arity) : tdErr pre d = 4 := by unfold tdErr; rw [if_pos h, if_neg h2, if_pos h3]
theorem tdErr_ok {pre : List ByteArray} {d : TD} (h : nameB d.name = true) (h2 : d.name ∉ pre) (h3 : ¬ (d.arity < 0 ∨ 10 < d.arity)) : tdErr pre d = 0 := by unfold tdErr; rw [if_pos h, if_neg h2, if_neg h3]

theorem typesErr_many {ts : List TD} (h : 300 < ts.length) : typesErr ts = 5 := by unfold typesErr; rw [if_pos h]
theorem typesErr_at {ts : List TD} {i : Nat} (h300 : ¬ 300 < ts.length) (hi : i < ts.length) (hz : ∀ j, j < i → tdErr (tnames (ts.take j)) (tdAt ts j) = 0) {E : Int} (he : tdErr (tnames (ts.take i)) ts[i] = E) (h0 : E ≠ 0) : typesErr ts = E := by
  unfold typesErr
  rw [if_neg h300, firstErr_at hi hz (by rw [tdAt_eq hi, he]; exact h0), tdAt_eq hi, he]
theorem typesErr_none {ts : List TD} (h300 : ¬ 300 < ts.length) (hz : ∀ j, j < ts.length → tdErr (tnames (ts.take j)) (tdAt ts j) = 0) : typesErr ts = 0 := by
  unfold typesErr
  rw [if_neg h300, firstErr_zero.2 hz]

set_option maxRecDepth 100000 in
set_option maxHeartbeats 4000000 in
theorem refCons_any {nm : ByteArray} {ca ta ra oa ya qa : Option Addr} {cc tc rc on oc yn yc qn qc cb co tb to rb ro : Nat} {cs : List Cls} {ts : List TD} {l : List Ari} {g : Nat} {W0 : World} (h : ThyF nm ca ta ra oa ya qa cc tc rc on oc yn yc qn qc cb co tb to rb ro cs ts l g W0) (w : World) (hb : Below W0.heap.size W0 w) :
    Calls Try.prog 38 #[.agg #[.string nm, .slice ca cs.length cc, .slice ta ts.length tc, .slice ra l.length rc, .slice oa on oc, .slice ya yn yc, .slice qa qn qc]] w fun e w' => e = .returned (.int .i64 (typesErr ts)) ∧ Below W0.heap.size W0 w' := by
  have hb0 : Below w.heap.size w (w.alloc (.cells #[.string nm, .slice ca cs.length cc, .slice ta ts.length tc, .slice ra l.length rc, .slice oa on oc, .slice ya yn yc, .slice qa qn qc] 29)) := (Below.refl _ w).alloc (Nat.le_refl _) _
  have HTH := Lib.hid ((h.later hb).boxed hb0 (heap_alloc_new w _))
  have HB0 := Lib.hid (hb.trans (hb0.mono hb.size))
  have htl := h.tyl
  clear hb0 h hb
  obtain ⟨R, hR⟩ : ∃ R, typesErr ts = R := ⟨_, rfl⟩
  rw [hR]
  have HR := Lib.hid hR
  clear hR
  obtain ⟨g0, g1, g2, g3, g4, g5, g6⟩ := HTH.out.at_.cells
  by_cases h300 : 300 < ts.length
  · have HE := Lib.hid (typesErr_many h300)
    go_enter Try.func38, Try.ntmps38
    go_wp2_with fail
    go_ret
    refine ⟨?_, HB0.out⟩
    rw [← HR.out, HE.out]; rfl
  have H300 := Lib.hid h300
  go_enter Try.func38, Try.ntmps38
  go_wp2_with fail
  clear g0 g1 g2 g3 g4 g5 g6
  generalize (w.alloc (.cells #[.string nm, .slice ca cs.length cc, .slice ta ts.length tc, .slice ra l.length rc, .slice oa on oc, .slice ya yn yc, .slice qa qn qc] 29)) = w1 at *
  obtain ⟨ga, hga⟩ : ∃ q, w.heap.size = q := ⟨_, rfl⟩
  rw [hga] at HTH ⊢
  clear hga
  go_loopw [3] (fun t wr => ∃ i : Nat, t = .int .i64 i ∧ i ≤ ts.length ∧ (∀ j, j < i → tdErr (tnames (ts.take j)) (tdAt ts j) = 0) ∧ Below w1.heap.size w1 wr) (fun t _ => ts.length - (intOf t).toNat)
  case atStart => exact ⟨0, rfl, Nat.zero_le _, fun j hj => by omega, Below.refl _ _⟩
  case round =>
    obtain ⟨i, rfl, hi, hp, hb⟩ := hrel
    have HB := Lib.hid hb
    have HBW := Lib.hid (HB0.out.trans (hb.mono HB0.out.size))
    have HP := Lib.hid hp
    have HTR := Lib.hid (HTH.out.later hb)
    clear hp hb
    obtain ⟨g0, g1, g2, g3, g4, g5, g6⟩ := HTR.out.at_.cells
    by_cases hlt : i < ts.length
    · have e := HTR.out.tya (by intro e; subst e; simp at hlt)
      subst e
      obtain ⟨hlb, c0, c1, c2, c3, c4⟩ := HTR.out.tys i hlt
      have HSELF := Lib.hid (refT_self hlt)
      have HAT := Lib.hid (fun E he h0 => typesErr_at H300.out hlt HP.out (E := E) he h0)
      have HCE := Lib.hid (tdAt_eq hlt)
      obtain ⟨d, hd⟩ : ∃ d, ts[i] = d := ⟨_, rfl⟩
      rw [hd] at c0 c1 c2 c3 c4 HSELF HAT HCE
      clear hd
      obtain ⟨nam, hnam⟩ : ∃ q, d.name = q := ⟨_, rfl⟩
      obtain ⟨ar, har⟩ : ∃ q, d.arity = q := ⟨_, rfl⟩
      have HNA := Lib.hid hnam
      have HAR := Lib.hid har
      rw [hnam] at c0 c2 HSELF
      rw [har] at c1 c3 c4
      have HLB := Lib.hid hlb
      have HC2 := Lib.hid c2
      have HCN := Lib.hid c0
      have HCA := Lib.hid c1
      clear hnam har hlb
      have HNW := Lib.hid (refName_any nam wr (size_nat c2))
      clear c2
      go_wp2_with fail
      refine HNW.out.mono ?_
      rintro e w' ⟨rfl, rfl⟩
      cases hnb : nameB nam with
      | false =>
        have HE := Lib.hid (HAT.out 30 (tdErr_name (by rw [HNA.out]; exact hnb)) (by decide))
        clear hnb
        go_wp2_with fail
        go_ret
        refine ⟨?_, HBW.out⟩
        rw [← HR.out, HE.out]; rfl
      | true =>
        have HNB := Lib.hid hnb
        clear hnb
        have HF := Lib.hid (fun W hb => refType_uni HTR.out W (s := nam) HC2 hb)
        obtain ⟨I, hI⟩ : ∃ I, refT ts nam = I := ⟨_, rfl⟩
        rw [hI] at HSELF HF
        have HBR := Lib.hid ((Below.refl wr.heap.size wr).drew)
        have k0 : wr.drew.cell? ⟨ga, 0, none⟩ = _ := g0
        have k1 : wr.drew.cell? ⟨ga, 1, none⟩ = _ := g1
        have k2 : wr.drew.cell? ⟨ga, 2, none⟩ = _ := g2
        have k3 : wr.drew.cell? ⟨ga, 3, none⟩ = _ := g3
        have k4 : wr.drew.cell? ⟨ga, 4, none⟩ = _ := g4
        have k5 : wr.drew.cell? ⟨ga, 5, none⟩ = _ := g5
        have k6 : wr.drew.cell? ⟨ga, 6, none⟩ = _ := g6
        have k7 : wr.drew.cell? ⟨tb, to + i * 2, none⟩ = _ := c0
        clear hI
        go_wp2_with fail
        go_region_held3 (fun W => W.cell? ⟨tb, to + i * 2, none⟩ = some (.string nam) ∧ W.cell? ⟨ga, 0, none⟩ = some (.string nm) ∧ W.cell? ⟨ga, 1, none⟩ = some (.slice ca cs.length cc) ∧ W.cell? ⟨ga, 2, none⟩ = some (.slice (some ⟨tb, to, none⟩) ts.length tc) ∧ W.cell? ⟨ga, 3, none⟩ = some (.slice ra l.length rc) ∧ W.cell? ⟨ga, 4, none⟩ = some (.slice oa on oc) ∧ W.cell? ⟨ga, 5, none⟩ = some (.slice ya yn yc) ∧ W.cell? ⟨ga, 6, none⟩ = some (.slice qa qn qc))
          (refine ⟨?_, ?_, ?_, ?_, ?_, ?_, ?_, ?_⟩ <;> assumption)
          ((go_at_call 55; refine (HF.out _ (by assumption)).mono ?_; rintro e w' ⟨rfl, hb', k0, k1, k2, k3, k4, k5, k6⟩; have k7 := (hb'.out.cell (p := ⟨tb, to + i * 2, none⟩) HLB.out).trans HCN.out))
        have HB3 := Lib.hid hb'.out
        have HB3W := Lib.hid (HBW.out.trans (hb'.out.mono HBW.out.size))
        have c1' := (hb'.out.cell (p := ⟨tb, to + i * 2 + 1, none⟩) HLB.out).trans HCA.out
        clear hb' g0 g1 g2 g3 g4 g5 g6 c0 c1
        by_cases hIi : I = i
        · have hnp := HSELF.out.1 hIi
          rw [← HNA.out] at hnp HNB
          have HNP := Lib.hid hnp
          subst hIi
          clear hnp
          by_cases hr1 : ar < 0
          · have HE := Lib.hid (HAT.out 4 (tdErr_range HNB.out HNP.out (.inl (by rw [HAR.out]; exact hr1))) (by decide))
            go_wp2_with fail
            go_ret
            refine ⟨?_, HB3W.out⟩
            rw [← HR.out, HE.out]; rfl
          · by_cases hr2 : 10 < ar
            · have HE := Lib.hid (HAT.out 4 (tdErr_range HNB.out HNP.out (.inr (by rw [HAR.out]; exact hr2))) (by decide))
              go_wp2_with fail
              go_ret
              refine ⟨?_, HB3W.out⟩
              rw [← HR.out, HE.out]; rfl
            · have HZ := Lib.hid (tdErr_ok HNB.out HNP.out (by rw [HAR.out]; omega))
              go_wp2_with fail
              refine ⟨⟨i + 1, by simp only [Int.natCast_add, Int.natCast_one], by omega, fun j hj => ?_, HB.out.trans (HB3.out.mono HB.out.size)⟩, ?_⟩
              · by_cases e : j = i
                · subst e
                  rw [HCE.out]; exact HZ.out
                · exact HP.out j (by omega)
              · show ts.length - ((i : Int) + 1).toNat < ts.length - ((i : Nat) : Int).toNat
                omega
        · have hin : d.name ∈ tnames (ts.take i) := Classical.byContradiction fun hn => hIi (HSELF.out.2 (by rw [← HNA.out]; exact hn))
          have HE := Lib.hid (HAT.out 10 (tdErr_dup (by rw [HNA.out]; exact HNB.out) hin) (by decide))
          have q1 : (I == (i : Int)) = false := by simpa using hIi
          have q2 : (I != (i : Int)) = true := by simpa using hIi
          clear hin hIi
          go_wp2_with fail
          go_ret
          refine ⟨?_, HB3W.out⟩
          rw [← HR.out, HE.out]; rfl
    · have HE := Lib.hid (typesErr_none H300.out fun j hj => HP.out j (by omega))
      go_wp2_with fail
      go_ret
      refine ⟨?_, HBW.out⟩
      rw [← HR.out, HE.out]; rfl
end Go.Proofs.Ytlaibimdkamcfaa
