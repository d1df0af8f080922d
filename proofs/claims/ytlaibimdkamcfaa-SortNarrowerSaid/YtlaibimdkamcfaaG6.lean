import Derived.Test.YtlaibimdkamcfaaG2
import Derived.Test.YtlaibimdkamcfaaG4
/-
  The reference's one: the error of an arity by itself.
-/
namespace Go.Proofs.Ytlaibimdkamcfaa
open Go.RowKit Go.Maps

theorem cells3 {W : World} {g : Nat} {a0 a1 a2 : Value} {t : TypeId} (h : W.heap[g]? = some (.cells #[a0, a1, a2] t (0, 0))) : W.cell? ⟨g, 0, none⟩ = some a0 ∧ W.cell? ⟨g, 1, none⟩ = some a1 ∧ W.cell? ⟨g, 2, none⟩ = some a2 := by
  refine ⟨?_, ?_, ?_⟩ <;> (rw [Lib.cell_of_heap h]; rfl)

section
variable {nm : ByteArray} {ca ta ra oa ya qa : Option Addr} {cc tn tc rn rc on oc yn yc qn qc cb co : Nat} {cs : List Cls} {g : Nat} {W0 : World}
theorem refIsNormal_uni (h : ThyAt nm ca ta ra oa ya qa cc tn tc rn rc on oc yn yc qn qc cb co cs g W0) (hO : openErr cs = 0) (W : World) {xa : Option Addr} {x : List ByteArray} {xc : Nat} (hx : Hid (SortAt W0 xa x)) (hl : x.length ≤ 20) (hk : x.all (knownB cs) = true) (hb : Hid (Below W0.heap.size W0 W)) :
    Calls Try.prog 66 #[.agg #[.string nm, .slice ca cs.length cc, .slice ta tn tc, .slice ra rn rc, .slice oa on oc, .slice ya yn yc, .slice qa qn qc], .slice xa x.length xc] W fun e W' =>
      e = .returned (.bool (normB cs x)) ∧ Hid (Below W0.heap.size W0 W') ∧ W'.cell? ⟨g, 0, none⟩ = some (.string nm) ∧ W'.cell? ⟨g, 1, none⟩ = some (.slice ca cs.length cc) ∧ W'.cell? ⟨g, 2, none⟩ = some (.slice ta tn tc) ∧ W'.cell? ⟨g, 3, none⟩ = some (.slice ra rn rc) ∧ W'.cell? ⟨g, 4, none⟩ = some (.slice oa on oc) ∧ W'.cell? ⟨g, 5, none⟩ = some (.slice ya yn yc) ∧ W'.cell? ⟨g, 6, none⟩ = some (.slice qa qn qc) := by
  have hT := h.later hb.out
  refine (refIsNormal_any (xc := xc) W hT.cla hT.thy.cls (open_le hO) hO (hx.out.later hb.out) hl hk).mono ?_
  rintro e W' ⟨rfl, hb'⟩
  exact ⟨rfl, Lib.hid (hb.out.trans (hb'.mono hb.out.size)), (hT.later hb').cells⟩
end

theorem sErr_many {cs : List Cls} {s : List ByteArray} (h : 20 < s.length) : sErr cs s = 5 := by unfold sErr; rw [if_pos h]
theorem sErr_unknown {cs : List Cls} {s : List ByteArray} (h : ¬ 20 < s.length) (hk : s.all (knownB cs) = false) : sErr cs s = 9 := by unfold sErr; rw [if_neg h, if_neg (by rw [hk]; decide)]
theorem sErr_norm {cs : List Cls} {s : List ByteArray} (h : ¬ 20 < s.length) (hk : s.all (knownB cs) = true) (hn : normB cs s = false) : sErr cs s = 14 := by unfold sErr; rw [if_neg h, if_pos hk, if_neg (by rw [hn]; decide)]
theorem sErr_ok {cs : List Cls} {s : List ByteArray} (h : ¬ 20 < s.length) (hk : s.all (knownB cs) = true) (hn : normB cs s = true) : sErr cs s = 0 := by unfold sErr; rw [if_neg h, if_pos hk, if_pos hn]

theorem sErr_at {cs : List Cls} {L : List (List ByteArray)} {n : Nat} (hn : n < L.length) (hz : ∀ j, j < n → sErr cs (sortOf L j) = 0) {E : Int} (he : sErr cs L[n] = E) (h0 : E ≠ 0) : firstErr L.length (fun n => sErr cs (sortOf L n)) = E := by
  rw [firstErr_at hn hz (by rw [sortOf_eq hn, he]; exact h0), sortOf_eq hn, he]

section
variable {cs : List Cls} {ts : List TD} {pre : List (ByteArray × ByteArray)} {a : Ari}
theorem ariErr_missing (h : ¬ (a.typ ∈ tnames ts ∧ knownB cs a.cls = true)) : ariErr cs ts pre a = 9 := by unfold ariErr; rw [if_neg h]
theorem ariErr_dup (h : a.typ ∈ tnames ts ∧ knownB cs a.cls = true) (h2 : pairOf a ∈ pre) : ariErr cs ts pre a = 10 := by unfold ariErr; rw [if_pos h, if_pos h2]
theorem ariErr_count (h : a.typ ∈ tnames ts ∧ knownB cs a.cls = true) (h2 : pairOf a ∉ pre) (h3 : (a.sorts.length : Int) ≠ (tdAt ts (tIdx ts a.typ)).arity) : ariErr cs ts pre a = 5 := by unfold ariErr; rw [if_pos h, if_neg h2, if_pos h3]
theorem ariErr_sorts (h : a.typ ∈ tnames ts ∧ knownB cs a.cls = true) (h2 : pairOf a ∉ pre) (h3 : (a.sorts.length : Int) = (tdAt ts (tIdx ts a.typ)).arity) : ariErr cs ts pre a = firstErr a.sorts.length fun n => sErr cs (sortOf a.sorts n) := by unfold ariErr; rw [if_pos h, if_neg h2, if_neg (by simpa using h3)]
theorem refT_pos {s : ByteArray} (h : s ∈ tnames ts) : refT ts s = ((tIdx ts s : Nat) : Int) := by unfold refT; rw [if_pos h]
theorem tIdx_lt {s : ByteArray} (h : s ∈ tnames ts) : tIdx ts s < ts.length := by have := find_lt h; rw [tnames_length] at this; exact this
end

set_option maxRecDepth 100000 in
set_option maxHeartbeats 8000000 in
theorem refOne_any {nm : ByteArray} {ca ta ra oa ya qa : Option Addr} {cc tc rc on oc yn yc qn qc cb co tb to rb ro : Nat} {cs : List Cls} {ts : List TD} {l : List Ari} {g : Nat} {W0 : World} (h : ThyF nm ca ta ra oa ya qa cc tc rc on oc yn yc qn qc cb co tb to rb ro cs ts l g W0) (hO : openErr cs = 0) (htl : ts.length ≤ 300) (i : Nat) (hi : i < l.length) (w : World) (hb : Below W0.heap.size W0 w) :
    Calls Try.prog 39 #[.agg #[.string nm, .slice ca cs.length cc, .slice ta ts.length tc, .slice ra l.length rc, .slice oa on oc, .slice ya yn yc, .slice qa qn qc], .int .i64 i] w fun e w' => e = .returned (.int .i64 (ariErr cs ts ((l.take i).map pairOf) (ariAt l i))) ∧ Below W0.heap.size W0 w' := by
  have hb0 : Below w.heap.size w (w.alloc (.cells #[.string nm, .slice ca cs.length cc, .slice ta ts.length tc, .slice ra l.length rc, .slice oa on oc, .slice ya yn yc, .slice qa qn qc] 29)) := (Below.refl _ w).alloc (Nat.le_refl _) _
  have HTH := Lib.hid ((h.later hb).boxed hb0 (heap_alloc_new w _))
  have HB0 := Lib.hid (hb.trans (hb0.mono hb.size))
  have HS1 := Lib.hid (show (w.alloc (.cells #[.string nm, .slice ca cs.length cc, .slice ta ts.length tc, .slice ra l.length rc, .slice oa on oc, .slice ya yn yc, .slice qa qn qc] 29)).heap.size = w.heap.size + 1 by simp)
  have har := h.arl
  have e := h.ara (by intro e; subst e; simp at hi)
  subst e
  clear hb0 h hb
  have HO := Lib.hid hO
  have HSELF := Lib.hid (refA_self hi)
  have HAE := Lib.hid (ariAt_eq hi)
  clear hO
  obtain ⟨R, hR⟩ : ∃ R, ariErr cs ts ((l.take i).map pairOf) (ariAt l i) = R := ⟨_, rfl⟩
  rw [hR]
  have HR := Lib.hid (show ariErr cs ts ((l.take i).map pairOf) l[i] = R by rw [← hR, ariAt_eq hi])
  clear hR
  obtain ⟨g0, g1, g2, g3, g4, g5, g6⟩ := HTH.out.at_.cells
  obtain ⟨hlb, sa, sb, so, sc, c0, c1, c2, c3, c4, c5, c6, c7⟩ := HTH.out.ars i hi
  obtain ⟨a, ha⟩ : ∃ a, l[i] = a := ⟨_, rfl⟩
  rw [ha] at c0 c1 c2 c3 c4 c5 c6 c7 HSELF HR
  obtain ⟨pre, hpre⟩ : ∃ p, (l.take i).map pairOf = p := ⟨_, rfl⟩
  rw [hpre] at HSELF HR
  have HC3 := Lib.hid c3
  have HC4 := Lib.hid c4
  have HC5 := Lib.hid c5
  have HC6 := Lib.hid c6
  clear ha hpre HAE c3 c4 c5 c6 hlb
  go_enter Try.func39, Try.ntmps39
  go_wp2_with fail
  generalize (w.alloc (.cells #[.string nm, .slice ca cs.length cc, .slice ta ts.length tc, .slice (some ⟨rb, ro, none⟩) l.length rc, .slice oa on oc, .slice ya yn yc, .slice qa qn qc] 29)) = w1 at *
  obtain ⟨ga, hga⟩ : ∃ q, w.heap.size = q := ⟨_, rfl⟩
  rw [hga] at HTH HS1 ⊢
  clear hga g0 g1 g2 g3 g4 g5 g6 c0 c1 c2
  have b2 : Below w1.heap.size w1 (w1.alloc (.cells #[.string a.typ, .string a.cls, .slice sa a.sorts.length sc] 62)) := (Below.refl _ _).alloc (Nat.le_refl _) _
  have n2 := heap_alloc_new w1 (.cells #[.string a.typ, .string a.cls, .slice sa a.sorts.length sc] 62)
  have z2 : (w1.alloc (.cells #[.string a.typ, .string a.cls, .slice sa a.sorts.length sc] 62)).heap.size = w1.heap.size + 1 := by simp
  rw [HS1.out] at n2 z2
  have HT2 := Lib.hid (HTH.out.later b2)
  have HC42 := Lib.hid (HC4.out.later b2)
  have HB2 := Lib.hid (HB0.out.trans (b2.mono HB0.out.size))
  have HN2 := Lib.hid (cells3 n2)
  have HZ2 := Lib.hid z2
  clear b2 n2 z2 HC4
  generalize (w1.alloc (.cells #[.string a.typ, .string a.cls, .slice sa a.sorts.length sc] 62)) = w2 at *
  refine (refType_uni HT2.out w2 HC5 (Lib.hid (Below.refl _ _))).mono ?_
  rintro e w3 ⟨rfl, hb3, g0, g1, g2, g3, g4, g5, g6⟩
  have HL2 := Lib.hid (show ga + 1 < w2.heap.size by have := HZ2.out; omega)
  have f0 := (hb3.out.cell (p := ⟨ga + 1, 0, none⟩) HL2.out).trans HN2.out.1
  have f1 := (hb3.out.cell (p := ⟨ga + 1, 1, none⟩) HL2.out).trans HN2.out.2.1
  have HB3 := hb3
  have HB3W := Lib.hid (HB2.out.trans (hb3.out.mono HB2.out.size))
  clear hb3
  by_cases hty : ¬ (a.typ ∈ tnames ts)
  · have hk := refT_neg.2 hty
    have hR := HR.out
    rw [ariErr_missing (fun h => hty h.1)] at hR
    subst hR
    obtain ⟨K, hK⟩ : ∃ K, refT ts a.typ = K := ⟨_, rfl⟩
    rw [hK] at hk ⊢
    clear hK hty
    go_wp2_with fail
    go_ret
    exact ⟨rfl, HB3W.out⟩
  replace hty := Classical.not_not.1 hty
  have hkl := tIdx_lt hty
  have e := HT2.out.tya (by intro e; subst e; simp at hkl)
  subst e
  rw [refT_pos hty]
  have HTD := Lib.hid (tdAt_eq hkl)
  obtain ⟨kk, hkk⟩ : ∃ k, tIdx ts a.typ = k := ⟨_, rfl⟩
  have HKK := Lib.hid hkk
  simp only [hkk] at HTD hkl ⊢
  obtain ⟨ar, har'⟩ : ∃ q, ts[kk].arity = q := ⟨_, rfl⟩
  have HAR := Lib.hid (show (tdAt ts kk).arity = ar by rw [HTD.out, har'])
  have HTY := Lib.hid hty
  clear hkk har' hty HTD
  go_wp2_with fail
  refine (refClass_uni HT2.out.at_ _ HC6 HB3).mono ?_
  rintro e w4 ⟨rfl, hb4, i0, i1, i2, i3, i4, i5, i6⟩
  have HB4W := Lib.hid (HB2.out.trans (hb4.out.mono HB2.out.size))
  have f0' := (hb4.out.cell (p := ⟨ga + 1, 0, none⟩) HL2.out).trans HN2.out.1
  have f1' := (hb4.out.cell (p := ⟨ga + 1, 1, none⟩) HL2.out).trans HN2.out.2.1
  have HB4 := hb4
  clear g0 g1 g2 g3 g4 g5 g6 f0 f1 hb4
  obtain ⟨I, hI⟩ : ∃ I, refIdx cs a.cls = I := ⟨_, rfl⟩
  by_cases hI0 : I < 0
  · have hu := refIdx_neg.1 (by rw [hI]; exact hI0)
    have hR := HR.out
    rw [ariErr_missing (fun h => by rw [hu] at h; cases h.2)] at hR
    subst hR
    rw [hI]
    clear hI hu
    go_wp2_with fail
    go_ret
    exact ⟨rfl, HB4W.out⟩
  have hkn : knownB cs a.cls = true := by
    cases hk : knownB cs a.cls
    · exact absurd (by rw [← hI]; exact refIdx_neg.2 hk) hI0
    · rfl
  have HTK := Lib.hid (And.intro HTY.out hkn)
  rw [hI]
  clear hI hkn
  go_wp2_with fail
  refine (refArity_uni HT2.out _ HC5 HC6 HB4).mono ?_
  rintro e w5 ⟨rfl, hb5, g0, g1, g2, g3, g4, g5, g6⟩
  have HB5W := Lib.hid (HB2.out.trans (hb5.out.mono HB2.out.size))
  have f2 := (hb5.out.cell (p := ⟨ga + 1, 2, none⟩) HL2.out).trans HN2.out.2.2
  have HB5 := hb5
  clear i0 i1 i2 i3 i4 i5 i6 f0' f1' hb5
  obtain ⟨J, hJ⟩ : ∃ J, refA l (a.typ, a.cls) = J := ⟨_, rfl⟩
  have hself : J = i ↔ pairOf a ∉ pre := by rw [← hJ]; exact HSELF.out
  rw [hJ]
  clear hJ
  by_cases hJi : ¬ (J = i)
  · have hin : pairOf a ∈ pre := Classical.byContradiction fun hn => hJi (hself.2 hn)
    have hR := HR.out
    rw [ariErr_dup HTK.out hin] at hR
    subst hR
    have q1 : (J == (i : Int)) = false := by simpa using hJi
    have q2 : (J != (i : Int)) = true := by simpa using hJi
    clear hin hJi hself
    go_wp2_with fail
    go_ret
    exact ⟨rfl, HB5W.out⟩
  replace hJi := Classical.not_not.1 hJi
  have HNP := Lib.hid (hself.1 hJi)
  subst hJi
  clear hself
  have hca : w5.cell? ⟨tb, to + kk * 2 + 1, none⟩ = some (.int .i64 ar) := by rw [((HT2.out.later HB5.out).tys kk hkl).2.2.1, ← HAR.out, tdAt_eq hkl]
  by_cases hcount : ¬ ((a.sorts.length : Int) = ar)
  · have hR := HR.out
    rw [ariErr_count HTK.out HNP.out (by rw [HKK.out, HAR.out]; exact hcount)] at hR
    subst hR
    have q1 : ((a.sorts.length : Int) == ar) = false := by simpa using hcount
    have q2 : ((a.sorts.length : Int) != ar) = true := by simpa using hcount
    clear hcount
    go_wp2_with fail
    go_quiet (fail)
    go_wp2_with fail
    go_ret
    exact ⟨rfl, below_draws _ HB5W.out⟩
  replace hcount := Classical.not_not.1 hcount
  have HSE := Lib.hid (ariErr_sorts HTK.out HNP.out (by rw [HKK.out, HAR.out]; exact hcount) : ariErr cs ts pre a = _)
  have q1 : ((a.sorts.length : Int) == ar) = true := by simpa using hcount
  have q2 : ((a.sorts.length : Int) != ar) = false := by simpa using hcount
  go_wp2_with fail
  go_quiet (fail)
  go_wp2_with fail
  clear g0 g1 g2 g3 g4 g5 g6 hca q1 q2
  have HF2 := Lib.hid f2
  obtain ⟨wo, hwo⟩ : ∃ q, w5.drewN nq = q := ⟨_, rfl⟩
  have HB5D : Hid (Below w2.heap.size w2 wo) := Lib.hid (by rw [← hwo]; exact below_draws nq HB5.out)
  have HF2D : Hid (wo.cell? ⟨ga + 1, 2, none⟩ = some (.slice sa a.sorts.length sc)) := Lib.hid (by rw [← hwo]; exact f2)
  rw [hwo]
  clear hwo f2
  go_loopw [7] (fun t wr => ∃ n : Nat, t = .int .i64 n ∧ n ≤ a.sorts.length ∧ (∀ j, j < n → sErr cs (sortOf a.sorts j) = 0) ∧ Below w2.heap.size w2 wr) (fun t _ => a.sorts.length - (intOf t).toNat)
  case atStart => exact ⟨0, rfl, Nat.zero_le _, fun j hj => by omega, HB5D.out⟩
  case round =>
    obtain ⟨n, rfl, hn, hp, hb⟩ := hrel
    have HP := Lib.hid hp
    have HB := Lib.hid hb
    have HBW := Lib.hid (HB2.out.trans (hb.mono HB2.out.size))
    have HTR := Lib.hid (HT2.out.later hb)
    have HSR := Lib.hid (HC42.out.later hb)
    have f2 := (hb.cell (p := ⟨ga + 1, 2, none⟩) HL2.out).trans HN2.out.2.2
    clear hp hb
    by_cases hlt : n < a.sorts.length
    · have e := HC3.out (by intro e; rw [e] at hlt; simp at hlt)
      subst e
      obtain ⟨hlb, xa, xc, hcell, hxs⟩ := HSR.out n hlt
      have HAT := Lib.hid (fun E he h0 => sErr_at (cs := cs) hlt HP.out (E := E) he h0)
      have HSO := Lib.hid (sortOf_eq hlt)
      obtain ⟨x, hx⟩ : ∃ x, a.sorts[n] = x := ⟨_, rfl⟩
      rw [hx] at hcell hxs HAT HSO
      have hlx : x.length ≤ 9223372036854775807 := hxs.choose_spec.choose_spec.2.2
      have HX := Lib.hid hxs
      have HLB := Lib.hid hlb
      have HC := Lib.hid hcell
      have HF2R := Lib.hid f2
      have HL2R := Lib.hid (Nat.lt_of_lt_of_le HL2.out HB.out.size)
      clear hx hxs hlb
      by_cases h20 : 20 < x.length
      · have hR := HR.out
        rw [HSE.out, HAT.out 5 (sErr_many h20) (by decide)] at hR
        subst hR
        go_wp2_with fail
        go_ret
        exact ⟨rfl, HBW.out⟩
      · obtain ⟨g0, g1, g2, g3, g4, g5, g6⟩ := HTR.out.at_.cells
        have HF := Lib.hid (fun W hb => refKnown_uni (xc := xc) HTR.out.at_ W HX hb)
        have HBR := Lib.hid ((Below.refl wr.heap.size wr).drew)
        have k0 : wr.drew.cell? ⟨ga, 0, none⟩ = _ := g0
        have k1 : wr.drew.cell? ⟨ga, 1, none⟩ = _ := g1
        have k2 : wr.drew.cell? ⟨ga, 2, none⟩ = _ := g2
        have k3 : wr.drew.cell? ⟨ga, 3, none⟩ = _ := g3
        have k4 : wr.drew.cell? ⟨ga, 4, none⟩ = _ := g4
        have k5 : wr.drew.cell? ⟨ga, 5, none⟩ = _ := g5
        have k6 : wr.drew.cell? ⟨ga, 6, none⟩ = _ := g6
        have k7 : wr.drew.cell? ⟨sb, so + n, none⟩ = _ := hcell
        have k8 : wr.drew.cell? ⟨ga + 1, 2, none⟩ = _ := f2
        obtain ⟨B, hB⟩ : ∃ B, x.all (knownB cs) = B := ⟨_, rfl⟩
        rw [hB] at HF
        have HBB := Lib.hid hB
        clear hB
        go_wp2_with fail
        go_region_held3 (fun W => W.cell? ⟨ga + 1, 2, none⟩ = some (.slice (some ⟨sb, so, none⟩) a.sorts.length sc) ∧ W.cell? ⟨sb, so + n, none⟩ = some (.slice xa x.length xc) ∧ W.cell? ⟨ga, 0, none⟩ = some (.string nm) ∧ W.cell? ⟨ga, 1, none⟩ = some (.slice ca cs.length cc) ∧ W.cell? ⟨ga, 2, none⟩ = some (.slice (some ⟨tb, to, none⟩) ts.length tc) ∧ W.cell? ⟨ga, 3, none⟩ = some (.slice (some ⟨rb, ro, none⟩) l.length rc) ∧ W.cell? ⟨ga, 4, none⟩ = some (.slice oa on oc) ∧ W.cell? ⟨ga, 5, none⟩ = some (.slice ya yn yc) ∧ W.cell? ⟨ga, 6, none⟩ = some (.slice qa qn qc))
          (refine ⟨?_, ?_, ?_, ?_, ?_, ?_, ?_, ?_, ?_⟩ <;> assumption)
          ((go_at_call 46; refine (HF.out _ (by assumption)).mono ?_; rintro e w' ⟨rfl, hb', k0, k1, k2, k3, k4, k5, k6⟩; have k7 := (hb'.out.cell (p := ⟨sb, so + n, none⟩) HLB.out).trans HC.out; have k8 := (hb'.out.cell (p := ⟨ga + 1, 2, none⟩) HL2R.out).trans HF2R.out))
        have HB1 := hb'
        have HB1W := Lib.hid (HBW.out.trans (hb'.out.mono HBW.out.size))
        clear hb' g0 g1 g2 g3 g4 g5 g6
        cases B with
        | false =>
          have hR := HR.out
          rw [HSE.out, HAT.out 9 (sErr_unknown h20 HBB.out) (by decide)] at hR
          subst hR
          go_wp2_with fail
          go_ret
          exact ⟨rfl, HB1W.out⟩
        | true =>
          have HN := Lib.hid (fun W hb => refIsNormal_uni (xc := xc) HTR.out.at_ HO.out W HX (by omega) HBB.out hb)
          obtain ⟨N, hN⟩ : ∃ N, normB cs x = N := ⟨_, rfl⟩
          rw [hN] at HN
          have HNN := Lib.hid hN
          clear hN
          have HBR1 : Hid (Below wr.heap.size wr w'.drew) := Lib.hid HB1.out.drew
          have i0 : w'.drew.cell? ⟨ga, 0, none⟩ = _ := k0
          have i1 : w'.drew.cell? ⟨ga, 1, none⟩ = _ := k1
          have i2 : w'.drew.cell? ⟨ga, 2, none⟩ = _ := k2
          have i3 : w'.drew.cell? ⟨ga, 3, none⟩ = _ := k3
          have i4 : w'.drew.cell? ⟨ga, 4, none⟩ = _ := k4
          have i5 : w'.drew.cell? ⟨ga, 5, none⟩ = _ := k5
          have i6 : w'.drew.cell? ⟨ga, 6, none⟩ = _ := k6
          have i7 : w'.drew.cell? ⟨sb, so + n, none⟩ = _ := k7
          have i8 : w'.drew.cell? ⟨ga + 1, 2, none⟩ = _ := k8
          go_wp2_with fail
          go_region_held3 (fun W => W.cell? ⟨ga + 1, 2, none⟩ = some (.slice (some ⟨sb, so, none⟩) a.sorts.length sc) ∧ W.cell? ⟨sb, so + n, none⟩ = some (.slice xa x.length xc) ∧ W.cell? ⟨ga, 0, none⟩ = some (.string nm) ∧ W.cell? ⟨ga, 1, none⟩ = some (.slice ca cs.length cc) ∧ W.cell? ⟨ga, 2, none⟩ = some (.slice (some ⟨tb, to, none⟩) ts.length tc) ∧ W.cell? ⟨ga, 3, none⟩ = some (.slice (some ⟨rb, ro, none⟩) l.length rc) ∧ W.cell? ⟨ga, 4, none⟩ = some (.slice oa on oc) ∧ W.cell? ⟨ga, 5, none⟩ = some (.slice ya yn yc) ∧ W.cell? ⟨ga, 6, none⟩ = some (.slice qa qn qc))
            (refine ⟨?_, ?_, ?_, ?_, ?_, ?_, ?_, ?_, ?_⟩ <;> assumption)
            ((go_at_call 66; refine (HN.out _ (by assumption)).mono ?_; rintro e w'' ⟨rfl, hb', m0, m1, m2, m3, m4, m5, m6⟩; have m7 := (hb'.out.cell (p := ⟨sb, so + n, none⟩) HLB.out).trans HC.out; have m8 := (hb'.out.cell (p := ⟨ga + 1, 2, none⟩) HL2R.out).trans HF2R.out))
          have HB2' := Lib.hid (HB.out.trans (hb'.out.mono HB.out.size))
          have HB2W := Lib.hid (HBW.out.trans (hb'.out.mono HBW.out.size))
          clear hb'
          cases N with
          | false =>
            have hR := HR.out
            rw [HSE.out, HAT.out 14 (sErr_norm h20 HBB.out HNN.out) (by decide)] at hR
            subst hR
            go_wp2_with fail
            go_ret
            exact ⟨rfl, HB2W.out⟩
          | true =>
            have HZ := Lib.hid (sErr_ok h20 HBB.out HNN.out)
            go_wp2_with fail
            refine ⟨⟨n + 1, by simp only [Int.natCast_add, Int.natCast_one], by omega, fun j hj => ?_, HB2'.out⟩, ?_⟩
            · by_cases e : j = n
              · subst e
                rw [HSO.out]; exact HZ.out
              · exact HP.out j (by omega)
            · show a.sorts.length - ((n : Int) + 1).toNat < a.sorts.length - ((n : Nat) : Int).toNat
              omega
    · have hR := HR.out
      rw [HSE.out, firstErr_zero.2 (fun j hj => HP.out j (by omega))] at hR
      subst hR
      go_wp2_with fail
      go_ret
      exact ⟨rfl, HBW.out⟩
end Go.Proofs.Ytlaibimdkamcfaa

/-
  The reference's regular: an arity has those of all superclasses beside it.
-/
namespace Go.Proofs.Ytlaibimdkamcfaa
open Go.RowKit Go.Maps

theorem sErr_zero {cs : List Cls} {s : List ByteArray} (h : sErr cs s = 0) : s.length ≤ 20 ∧ s.all (knownB cs) = true ∧ normB cs s = true := by
  unfold sErr at h
  split at h
  · cases h
  · split at h
    · rename_i h1 h2
      split at h
      · rename_i h3; exact ⟨by omega, h2, h3⟩
      · cases h
    · cases h

theorem ariErr_zero {cs : List Cls} {ts : List TD} {pre : List (ByteArray × ByteArray)} {a : Ari} (h : ariErr cs ts pre a = 0) :
    a.typ ∈ tnames ts ∧ knownB cs a.cls = true ∧ pairOf a ∉ pre ∧ (a.sorts.length : Int) = (tdAt ts (tIdx ts a.typ)).arity ∧ ∀ n, n < a.sorts.length → sErr cs (sortOf a.sorts n) = 0 := by
  unfold ariErr at h
  split at h
  · rename_i h1
    split at h
    · cases h
    · rename_i h2
      split at h
      · cases h
      · rename_i h3
        exact ⟨h1.1, h1.2, h2, Classical.not_not.1 h3, firstErr_zero.1 h⟩
  · cases h

theorem aris_le {cs : List Cls} {ts : List TD} {l : List Ari} (h : arisErr cs ts l = 0) : l.length ≤ 300 := by
  unfold arisErr at h
  split at h
  · cases h
  · omega

theorem aris_at {cs : List Cls} {ts : List TD} {l : List Ari} (h : arisErr cs ts l = 0) {i : Nat} (hi : i < l.length) : ariErr cs ts ((l.take i).map pairOf) l[i] = 0 := by
  unfold arisErr at h
  split at h
  · cases h
  · rw [← ariAt_eq hi]; exact firstErr_zero.1 h i hi

theorem aris_mem {cs : List Cls} {ts : List TD} {l : List Ari} (h : arisErr cs ts l = 0) {a : Ari} (ha : a ∈ l) :
    a.typ ∈ tnames ts ∧ knownB cs a.cls = true ∧ (a.sorts.length : Int) = (tdAt ts (tIdx ts a.typ)).arity ∧ ∀ n, n < a.sorts.length → sErr cs (sortOf a.sorts n) = 0 := by
  obtain ⟨i, hi, rfl⟩ := List.getElem_of_mem ha
  obtain ⟨h1, h2, _, h3, h4⟩ := ariErr_zero (aris_at h hi)
  exact ⟨h1, h2, h3, h4⟩

theorem aris_unique {cs : List Cls} {ts : List TD} {l : List Ari} (h : arisErr cs ts l = 0) {i j : Nat} (hi : i < l.length) (hj : j < l.length) (e : pairOf l[i] = pairOf l[j]) : i = j := by
  have key : ∀ {i j : Nat} (hi : i < l.length) (hj : j < l.length), pairOf l[i] = pairOf l[j] → ¬ i < j := by
    intro i j hi hj e hlt
    refine (ariErr_zero (aris_at h hj)).2.2.1 ?_
    rw [← e]
    exact List.mem_map.2 ⟨l[i], List.mem_take_iff_getElem.2 ⟨i, by omega, rfl⟩, rfl⟩
  have h1 := key hi hj e
  have h2 := key hj hi e.symm
  omega

theorem aris_len {cs : List Cls} {ts : List TD} {l : List Ari} (h : arisErr cs ts l = 0) {a b : Ari} (ha : a ∈ l) (hb : b ∈ l) (e : b.typ = a.typ) : b.sorts.length = a.sorts.length := by
  have h1 := (aris_mem h ha).2.2.1
  have h2 := (aris_mem h hb).2.2.1
  rw [e] at h2
  omega

/-- Of the sorts of right arities Less is just that each class has one below it. -/
theorem less_covers {cs : List Cls} {x y : List ByteArray} (hx : x.all (knownB cs) = true) : lessB (knownB cs) (belowB cs) x y = coversB cs x y := by
  unfold lessB coversB
  rw [hx]; rfl

/-- The one arity that may stand beside. -/
theorem hasAbove_iff {cs : List Cls} {ts : List TD} {l : List Ari} (h : arisErr cs ts l = 0) {a : Ari} {k j : Nat} (hj : j < l.length) (ht : l[j].typ = a.typ) (hc : l[j].cls = (clsAt cs k).name) :
    HasAbove cs l a k ↔ ∀ n, n < a.sorts.length → lessB (knownB cs) (belowB cs) (sortOf a.sorts n) (sortOf l[j].sorts n) = true := by
  constructor
  · rintro ⟨b, hb, h1, h2, h3⟩
    obtain ⟨q, hq, rfl⟩ := List.getElem_of_mem hb
    have := aris_unique h hq hj (by unfold pairOf; rw [h1, h2, ht, hc])
    subst this
    exact h3
  · intro h3
    exact ⟨_, List.getElem_mem hj, ht, hc, h3⟩

theorem hasAbove_none {cs : List Cls} {l : List Ari} {a : Ari} {k : Nat} (h : (a.typ, (clsAt cs k).name) ∉ l.map pairOf) : ¬ HasAbove cs l a k := by
  rintro ⟨b, hb, h1, h2, _⟩
  exact h (List.mem_map.2 ⟨b, hb, by unfold pairOf; rw [h1, h2]⟩)

theorem refA_pos {l : List Ari} {p : ByteArray × ByteArray} (h : p ∈ l.map pairOf) : refA l p = ((aIdx l p : Nat) : Int) := by unfold refA; rw [if_pos h]
theorem aIdx_lt {l : List Ari} {p : ByteArray × ByteArray} (h : p ∈ l.map pairOf) : aIdx l p < l.length := by have := find_lt h; simpa [aIdx] using this
theorem aIdx_get {l : List Ari} {p : ByteArray × ByteArray} (h : p ∈ l.map pairOf) : pairOf (l[aIdx l p]'(aIdx_lt h)) = p := by
  have := find_get h
  rw [List.getElem_map] at this
  exact this
end Go.Proofs.Ytlaibimdkamcfaa
