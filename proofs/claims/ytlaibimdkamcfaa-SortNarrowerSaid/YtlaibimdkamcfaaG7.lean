import Derived.Test.YtlaibimdkamcfaaG6
/-
  The reference's regular: its walk.
-/
namespace Go.Proofs.Ytlaibimdkamcfaa
open Go.RowKit Go.Maps

section
variable {nm : ByteArray} {ca ta ra oa ya qa : Option Addr} {cc tn tc rn rc on oc yn yc qn qc cb co : Nat} {cs : List Cls} {g : Nat} {W0 : World}
theorem refWithin_uni (h : ThyAt nm ca ta ra oa ya qa cc tn tc rn rc on oc yn yc qn qc cb co cs g W0) (hO : openErr cs = 0) (W : World) {xa za : Option Addr} {x y : List ByteArray} {xc zc : Nat} (hx : Hid (SortAt W0 xa x)) (hy : Hid (SortAt W0 za y)) (hkx : x.all (knownB cs) = true) (hky : y.all (knownB cs) = true) (hb : Hid (Below W0.heap.size W0 W)) :
    Calls Try.prog 47 #[.agg #[.string nm, .slice ca cs.length cc, .slice ta tn tc, .slice ra rn rc, .slice oa on oc, .slice ya yn yc, .slice qa qn qc], .slice xa x.length xc, .slice za y.length zc] W fun e W' =>
      e = .returned (.bool (coversB cs x y)) ∧ Hid (Below W0.heap.size W0 W') ∧ W'.cell? ⟨g, 0, none⟩ = some (.string nm) ∧ W'.cell? ⟨g, 1, none⟩ = some (.slice ca cs.length cc) ∧ W'.cell? ⟨g, 2, none⟩ = some (.slice ta tn tc) ∧ W'.cell? ⟨g, 3, none⟩ = some (.slice ra rn rc) ∧ W'.cell? ⟨g, 4, none⟩ = some (.slice oa on oc) ∧ W'.cell? ⟨g, 5, none⟩ = some (.slice ya yn yc) ∧ W'.cell? ⟨g, 6, none⟩ = some (.slice qa qn qc) := by
  have hT := h.later hb.out
  refine (refWithin_any (xc := xc) (zc := zc) W hT.cla hT.thy.cls (open_le hO) hO (hx.out.later hb.out) (hy.out.later hb.out) (fun c hc => List.all_eq_true.1 hkx c hc) (fun c hc => List.all_eq_true.1 hky c hc)).mono ?_
  rintro e W' ⟨rfl, hb'⟩
  exact ⟨rfl, Lib.hid (hb.out.trans (hb'.mono hb.out.size)), (hT.later hb').cells⟩
end

set_option maxRecDepth 100000 in
set_option maxHeartbeats 8000000 in
theorem refRegular_any {nm : ByteArray} {ca ta ra oa ya qa : Option Addr} {cc tc rc on oc yn yc qn qc cb co tb to rb ro : Nat} {cs : List Cls} {ts : List TD} {l : List Ari} {g : Nat} {W0 : World} (h : ThyF nm ca ta ra oa ya qa cc tc rc on oc yn yc qn qc cb co tb to rb ro cs ts l g W0) (hO : openErr cs = 0) (hA : arisErr cs ts l = 0) (i : Nat) (hi : i < l.length) (w : World) (hb : Below W0.heap.size W0 w) :
    Calls Try.prog 40 #[.agg #[.string nm, .slice ca cs.length cc, .slice ta ts.length tc, .slice ra l.length rc, .slice oa on oc, .slice ya yn yc, .slice qa qn qc], .int .i64 i] w fun e w' => (∃ B, e = .returned (.bool B) ∧ (B = true ↔ RegularAt cs l (ariAt l i))) ∧ Below W0.heap.size W0 w' := by
  have hb0 : Below w.heap.size w (w.alloc (.cells #[.string nm, .slice ca cs.length cc, .slice ta ts.length tc, .slice ra l.length rc, .slice oa on oc, .slice ya yn yc, .slice qa qn qc] 29)) := (Below.refl _ w).alloc (Nat.le_refl _) _
  have HTH := Lib.hid ((h.later hb).boxed hb0 (heap_alloc_new w _))
  have HB0 := Lib.hid (hb.trans (hb0.mono hb.size))
  have HS1 := Lib.hid (show (w.alloc (.cells #[.string nm, .slice ca cs.length cc, .slice ta ts.length tc, .slice ra l.length rc, .slice oa on oc, .slice ya yn yc, .slice qa qn qc] 29)).heap.size = w.heap.size + 1 by simp)
  have har := h.arl
  have e := h.ara (by intro e; subst e; simp at hi)
  subst e
  clear hb0 h hb
  rw [ariAt_eq hi]
  have HO := Lib.hid hO
  have HA := Lib.hid hA
  have hcl300 := open_le hO
  obtain ⟨hty, hkc, hal, hsr⟩ := aris_mem hA (List.getElem_mem hi)
  have HMEM := Lib.hid (List.getElem_mem hi)
  obtain ⟨g0, g1, g2, g3, g4, g5, g6⟩ := HTH.out.at_.cells
  obtain ⟨hlb, sa, sb, so, sc, c0, c1, c2, c3, c4, c5, c6, c7⟩ := HTH.out.ars i hi
  obtain ⟨a, ha⟩ : ∃ a, l[i] = a := ⟨_, rfl⟩
  rw [ha] at c0 c1 c2 c3 c4 c5 c6 c7 hty hkc hal hsr HMEM ⊢
  have hrix : refIdx cs a.cls = ((idxOfC cs a.cls : Nat) : Int) := by unfold refIdx; rw [if_pos hkc]
  have hil := idx_lt hkc
  obtain ⟨ii, hii⟩ : ∃ q, idxOfC cs a.cls = q := ⟨_, rfl⟩
  have HII := Lib.hid hii
  rw [hii] at hrix hil
  have HSR := Lib.hid hsr
  have HC3 := Lib.hid c3
  have HC4 := Lib.hid c4
  have HC5 := Lib.hid c5
  have HC6 := Lib.hid c6
  clear ha c3 c4 c5 c6 hlb hO hA hty hkc hal hsr hii
  go_enter Try.func40, Try.ntmps40
  go_wp2_with fail
  generalize (w.alloc (.cells #[.string nm, .slice ca cs.length cc, .slice ta ts.length tc, .slice (some ⟨rb, ro, none⟩) l.length rc, .slice oa on oc, .slice ya yn yc, .slice qa qn qc] 29)) = w1 at *
  obtain ⟨ga, hga⟩ : ∃ q, w.heap.size = q := ⟨_, rfl⟩
  rw [hga] at HTH HS1 ⊢
  clear hga g0 g1 g2 g3 g4 g5 g6 c0 c1 c2
  have b2 : Below w1.heap.size w1 (w1.alloc (.cells #[.string a.typ, .string a.cls, .slice sa a.sorts.length sc] 62)) := (Below.refl _ _).alloc (Nat.le_refl _) _
  have n2 := heap_alloc_new w1 (.cells #[.string a.typ, .string a.cls, .slice sa a.sorts.length sc] 62)
  have z2 : (w1.alloc (.cells #[.string a.typ, .string a.cls, .slice sa a.sorts.length sc] 62)).heap.size = w1.heap.size + 1 := by simp
  rw [HS1.out] at n2 z2
  have HT2 := Lib.hid (HTH.out.later b2)
  have HC42 := Lib.hid (HC4.out.later b2)
  have HB2 := Lib.hid (HB0.out.trans (b2.mono HB0.out.size))
  have HN2 := Lib.hid (cells3 n2)
  have HZ2 := Lib.hid z2
  clear b2 n2 z2 HC4
  generalize (w1.alloc (.cells #[.string a.typ, .string a.cls, .slice sa a.sorts.length sc] 62)) = w2 at *
  have HL2 := Lib.hid (show ga + 1 < w2.heap.size by have := HZ2.out; omega)
  obtain ⟨g0, g1, g2, g3, g4, g5, g6⟩ := HT2.out.at_.cells
  have k0 : w2.drew.cell? ⟨ga, 0, none⟩ = _ := g0
  have k1 : w2.drew.cell? ⟨ga, 1, none⟩ = _ := g1
  have k2 : w2.drew.cell? ⟨ga, 2, none⟩ = _ := g2
  have k3 : w2.drew.cell? ⟨ga, 3, none⟩ = _ := g3
  have k4 : w2.drew.cell? ⟨ga, 4, none⟩ = _ := g4
  have k5 : w2.drew.cell? ⟨ga, 5, none⟩ = _ := g5
  have k6 : w2.drew.cell? ⟨ga, 6, none⟩ = _ := g6
  have k7 : w2.drew.cell? ⟨ga + 1, 1, none⟩ = _ := HN2.out.2.1
  have HBD : Hid (Below w2.heap.size w2 w2.drew) := Lib.hid (Below.refl _ _).drew
  have HF := Lib.hid (fun W hb => refClass_uni HT2.out.at_ W HC6 hb)
  rw [hrix] at HF
  have HT2A := Lib.hid HT2.out.at_
  go_wp2_with fail
  go_region_held3 (fun W => W.cell? ⟨ga + 1, 1, none⟩ = some (.string a.cls) ∧ W.cell? ⟨ga, 0, none⟩ = some (.string nm) ∧ W.cell? ⟨ga, 1, none⟩ = some (.slice ca cs.length cc) ∧ W.cell? ⟨ga, 2, none⟩ = some (.slice ta ts.length tc) ∧ W.cell? ⟨ga, 3, none⟩ = some (.slice (some ⟨rb, ro, none⟩) l.length rc) ∧ W.cell? ⟨ga, 4, none⟩ = some (.slice oa on oc) ∧ W.cell? ⟨ga, 5, none⟩ = some (.slice ya yn yc) ∧ W.cell? ⟨ga, 6, none⟩ = some (.slice qa qn qc))
    (refine ⟨?_, ?_, ?_, ?_, ?_, ?_, ?_, ?_⟩ <;> assumption)
    ((first
      | (go_at_call 43
         refine (HF.out _ HBD).mono ?_
         rintro e w3 ⟨rfl, hb3, k0, k1, k2, k3, k4, k5, k6⟩
         have k7 := (hb3.out.cell (p := ⟨ga + 1, 1, none⟩) HL2.out).trans HN2.out.2.1)
      | (go_at_call 44
         refine (refAbove_any ii w3 HT2A.out.cla (HT2A.out.later hb3.out).thy.cls hcl300 hil HO.out).mono ?_
         rintro e w4 ⟨gg, bs, rfl, hbl, hre, ho4, hb4⟩
         have HB4 := Lib.hid (hb3.out.trans (hb4.mono hb3.out.size))
         have HO4 := Lib.hid ho4
         have HRE := Lib.hid hre
         obtain ⟨m0, m1, m2, m3, m4, m5, m6⟩ := (HT2A.out.later HB4.out).cells
         have m7 := (HB4.out.cell (p := ⟨ga + 1, 1, none⟩) HL2.out).trans HN2.out.2.1
         clear hb4 ho4 hre)))
  clear m0 m1 m2 m3 m4 m5 m6 m7 k0 k1 k2 k3 k4 k5 k6 k7 g0 g1 g2 g3 g4 g5 g6
  have HB4W := Lib.hid (HB2.out.trans (HB4.out.mono HB2.out.size))
  go_wp2_with fail
  go_loopw [7] (fun t wr => ∃ k : Nat, t = .int .i64 k ∧ k ≤ cs.length ∧ (∀ j, j < k → Reach (supOf cs) ii j → HasAbove cs l a j) ∧ Below w4.heap.size w4 wr) (fun t _ => cs.length - (intOf t).toNat)
  case atStart => exact ⟨0, rfl, Nat.zero_le _, fun j hj => by omega, Below.refl _ _⟩
  case round =>
    obtain ⟨k, rfl, hk, hp, hb⟩ := hrel
    have HP := Lib.hid hp
    have HBR := Lib.hid hb
    have HB := Lib.hid (HB4.out.trans (hb.mono HB4.out.size))
    have HBW := Lib.hid (HB4W.out.trans (hb.mono HB4W.out.size))
    have HTR := Lib.hid (HT2.out.later HB.out)
    have hor := own_later HO4.out hb
    have HSR2 := Lib.hid (HC42.out.later HB.out)
    have HLR := Lib.hid (Nat.lt_of_lt_of_le HL2.out HB.out.size)
    clear hp hb
    by_cases hkl : k < cs.length
    · have cu := hor.cellAt k (by omega)
      rw [List.getElem?_map] at cu
      have hbk : k < bs.length := by omega
      have hreach := HRE.out k
      rw [List.getElem?_eq_getElem hbk] at cu hreach
      simp only [Option.map_some] at cu
      obtain ⟨bk, hbke⟩ : ∃ v, bs[k] = v := ⟨_, rfl⟩
      rw [hbke] at cu hreach
      have HRK := Lib.hid hreach
      clear hor hreach hbke
      cases bk with
      | false =>
        go_wp2_with fail
        refine ⟨⟨k + 1, by simp only [Int.natCast_add, Int.natCast_one], by omega, fun j hj hr => ?_, HBR.out⟩, ?_⟩
        · by_cases e : j = k
          · subst e
            have := HRK.out.2 hr
            cases this
          · exact HP.out j (by omega) hr
        · show cs.length - ((k : Int) + 1).toNat < cs.length - ((k : Nat) : Int).toNat
          omega
      | true =>
        have HRC := Lib.hid (HRK.out.1 rfl)
        have e := HTR.out.at_.cla (by intro e; subst e; simp at hkl)
        subst e
        obtain ⟨hcb, _, _, _, _, d0, _, _, _, d4, _⟩ := HTR.out.at_.thy.cls k hkl
        have hce := clsAt_eq hkl
        obtain ⟨ck, hck⟩ : ∃ c, (clsAt cs k).name = c := ⟨_, rfl⟩
        have hckn : cs[k].name = ck := by rw [← clsAt_eq hkl, hck]
        rw [hckn] at d0 d4
        have HCK := Lib.hid hck
        have HD0 := Lib.hid d0
        have HD4 := Lib.hid d4
        have HCB := Lib.hid hcb
        have f0 := (HB.out.cell (p := ⟨ga + 1, 0, none⟩) HL2.out).trans HN2.out.1
        have HF0 := Lib.hid f0
        obtain ⟨g0, g1, g2, g3, g4, g5, g6⟩ := HTR.out.at_.cells
        have HFA := Lib.hid (fun W hb => refArity_uni HTR.out W HC5 HD4 hb)
        obtain ⟨J, hJ⟩ : ∃ J, refA l (a.typ, ck) = J := ⟨_, rfl⟩
        rw [hJ] at HFA
        have HJ := Lib.hid hJ
        have k0 : wr.drew.cell? ⟨ga, 0, none⟩ = _ := g0
        have k1 : wr.drew.cell? ⟨ga, 1, none⟩ = _ := g1
        have k2 : wr.drew.cell? ⟨ga, 2, none⟩ = _ := g2
        have k3 : wr.drew.cell? ⟨ga, 3, none⟩ = _ := g3
        have k4 : wr.drew.cell? ⟨ga, 4, none⟩ = _ := g4
        have k5 : wr.drew.cell? ⟨ga, 5, none⟩ = _ := g5
        have k6 : wr.drew.cell? ⟨ga, 6, none⟩ = _ := g6
        have k7 : wr.drew.cell? ⟨ga + 1, 0, none⟩ = _ := f0
        have k8 : wr.drew.cell? ⟨cb, co + k * 2, none⟩ = _ := d0
        have HRD := Lib.hid ((Below.refl wr.heap.size wr).drew)
        clear hce hck hckn d0 d4 hcb hJ
        go_wp2_with fail
        go_region_held3 (fun W => W.cell? ⟨cb, co + k * 2, none⟩ = some (.string ck) ∧ W.cell? ⟨ga + 1, 0, none⟩ = some (.string a.typ) ∧ W.cell? ⟨ga, 0, none⟩ = some (.string nm) ∧ W.cell? ⟨ga, 1, none⟩ = some (.slice (some ⟨cb, co, none⟩) cs.length cc) ∧ W.cell? ⟨ga, 2, none⟩ = some (.slice ta ts.length tc) ∧ W.cell? ⟨ga, 3, none⟩ = some (.slice (some ⟨rb, ro, none⟩) l.length rc) ∧ W.cell? ⟨ga, 4, none⟩ = some (.slice oa on oc) ∧ W.cell? ⟨ga, 5, none⟩ = some (.slice ya yn yc) ∧ W.cell? ⟨ga, 6, none⟩ = some (.slice qa qn qc))
          (refine ⟨?_, ?_, ?_, ?_, ?_, ?_, ?_, ?_, ?_⟩ <;> assumption)
          ((go_at_call 65; refine (HFA.out _ (by assumption)).mono ?_; rintro e w' ⟨rfl, hb', k0, k1, k2, k3, k4, k5, k6⟩; have k7 := (hb'.out.cell (p := ⟨ga + 1, 0, none⟩) HLR.out).trans HF0.out; have k8 := (hb'.out.cell (p := ⟨cb, co + k * 2, none⟩) HCB.out).trans HD0.out))
        have HB5O := hb'
        have HB5R := Lib.hid (HBR.out.trans (hb'.out.mono HBR.out.size))
        have HB5W := Lib.hid (HBW.out.trans (hb'.out.mono HBW.out.size))
        clear hb' k0 k1 k2 k3 k4 k5 k6 k7 k8 g0 g1 g2 g3 g4 g5 g6 f0 cu
        by_cases hJ0 : J < 0
        · have hnone := hasAbove_none (cs := cs) (k := k) (a := a) (l := l) (by rw [HCK.out]; exact refA_neg.1 (by rw [HJ.out]; exact hJ0))
          have hno : ¬ RegularAt cs l a := fun hr => hnone (hr k hkl (by rw [HII.out]; exact HRC.out))
          have HNO := Lib.hid hno
          clear hnone hno
          go_wp2_with fail
          go_ret
          exact ⟨⟨false, rfl, ⟨fun h => (by cases h), fun h => absurd h HNO.out⟩⟩, HB5W.out⟩
        · have hin : (a.typ, ck) ∈ l.map pairOf := Classical.byContradiction fun hn => hJ0 (by rw [← HJ.out]; exact refA_neg.2 hn)
          have hjl := aIdx_lt hin
          have hjg := aIdx_get hin
          have hjp := refA_pos hin
          rw [HJ.out] at hjp
          obtain ⟨jj, hjj⟩ : ∃ q, aIdx l (a.typ, ck) = q := ⟨_, rfl⟩
          simp only [hjj] at hjl hjg hjp
          subst hjp
          have hbt : l[jj].typ = a.typ := congrArg Prod.fst hjg
          have hbc : l[jj].cls = ck := congrArg Prod.snd hjg
          have HIFF := Lib.hid (hasAbove_iff (k := k) (a := a) HA.out hjl hbt (by rw [HCK.out]; exact hbc))
          have HLEN := Lib.hid (aris_len HA.out HMEM.out (List.getElem_mem hjl) hbt)
          have HSJ := Lib.hid (aris_mem HA.out (List.getElem_mem hjl)).2.2.2
          obtain ⟨hrb, s2a, s2b, s2o, s2c, _, _, p2, p3, p4, _, _, p7⟩ := HTR.out.ars jj hjl
          obtain ⟨b, hbe⟩ : ∃ b, l[jj] = b := ⟨_, rfl⟩
          rw [hbe] at p2 p3 p4 p7 HIFF HLEN HSJ
          have HP2 := Lib.hid p2
          have HP3 := Lib.hid p3
          have HP4 := Lib.hid p4
          have HRB := Lib.hid hrb
          clear hjj hjg hbt hbc hbe hin p2 p3 p4 hrb hJ0
          go_wp2_with fail
          obtain ⟨wo, rfl⟩ : ∃ wo : World, wo = wr := ⟨_, rfl⟩
          go_loopw [9] (fun t wr => ∃ n : Nat, t = .int .i64 n ∧ n ≤ a.sorts.length ∧ (∀ q, q < n → lessB (knownB cs) (belowB cs) (sortOf a.sorts q) (sortOf b.sorts q) = true) ∧ Below wo.heap.size wo wr) (fun t _ => a.sorts.length - (intOf t).toNat)
          case atStart => exact ⟨0, rfl, Nat.zero_le _, fun q hq => by omega, HB5O.out⟩
          case round =>
            obtain ⟨n, rfl, hn, hp, hb⟩ := hrel
            have HPN := Lib.hid hp
            have HBO := Lib.hid hb
            have HBN := Lib.hid (HBR.out.trans (hb.mono HBR.out.size))
            have HBN2 := Lib.hid (HB4.out.trans (HBN.out.mono HB4.out.size))
            have HBNW := Lib.hid (HB4W.out.trans (HBN.out.mono HB4W.out.size))
            clear hp hb
            have f2 := (HBN2.out.cell (p := ⟨ga + 1, 2, none⟩) HL2.out).trans HN2.out.2.2
            by_cases hlt : n < a.sorts.length
            · have hlt2 : n < b.sorts.length := by rw [HLEN.out]; exact hlt
              have HTN := Lib.hid (HT2.out.later HBN2.out)
              have e := HC3.out (by intro e; rw [e] at hlt; simp at hlt)
              subst e
              obtain ⟨hlb, xa, xc, hcell, hxs⟩ := (HC42.out.later HBN2.out) n hlt
              have e := HP3.out (by intro e; rw [e] at hlt2; simp at hlt2)
              subst e
              obtain ⟨hlb2, ya2, yc2, hcell2, hys⟩ := (HP4.out.later HBO.out) n hlt2
              have p2 := (HBO.out.cell (p := ⟨rb, ro + jj * 3 + 2, none⟩) HRB.out).trans HP2.out
              obtain ⟨hx20, hxk, _⟩ := sErr_zero (HSR.out n hlt)
              obtain ⟨hy20, hyk, _⟩ := sErr_zero (HSJ.out n hlt2)
              have HSX := Lib.hid (sortOf_eq hlt)
              have HSY := Lib.hid (sortOf_eq hlt2)
              rw [HSX.out] at hxk hx20
              rw [HSY.out] at hyk hy20
              have HLS := Lib.hid (show lessB (knownB cs) (belowB cs) (sortOf a.sorts n) (sortOf b.sorts n) = coversB cs a.sorts[n] b.sorts[n] by rw [HSX.out, HSY.out, less_covers hxk])
              obtain ⟨x, hx⟩ : ∃ x, a.sorts[n] = x := ⟨_, rfl⟩
              obtain ⟨y, hy⟩ : ∃ y, b.sorts[n] = y := ⟨_, rfl⟩
              rw [hx] at hcell hxs hxk hx20 HLS
              rw [hy] at hcell2 hys hyk hy20 HLS
              have hlx : x.length ≤ 9223372036854775807 := hxs.choose_spec.choose_spec.2.2
              have hly : y.length ≤ 9223372036854775807 := hys.choose_spec.choose_spec.2.2
              have HX := Lib.hid hxs
              have HY := Lib.hid hys
              have HFW := Lib.hid (fun W hb => refWithin_uni (xc := xc) (zc := yc2) HTN.out.at_ HO.out W HX HY hxk hyk hb)
              obtain ⟨B, hB⟩ : ∃ B, coversB cs x y = B := ⟨_, rfl⟩
              rw [hB] at HFW HLS
              have HF2 := Lib.hid f2
              have HP2N := Lib.hid p2
              have HCX := Lib.hid hcell
              have HCY := Lib.hid hcell2
              have HLB := Lib.hid hlb
              have HLB2 := Lib.hid hlb2
              have HLG := Lib.hid (Nat.lt_of_lt_of_le HL2.out HBN2.out.size)
              have HLR2 := Lib.hid (Nat.lt_of_lt_of_le HRB.out HBO.out.size)
              have HRN := Lib.hid ((Below.refl wr.heap.size wr).drew)
              obtain ⟨g0, g1, g2, g3, g4, g5, g6⟩ := HTN.out.at_.cells
              have k0 : wr.drew.cell? ⟨ga, 0, none⟩ = _ := g0
              have k1 : wr.drew.cell? ⟨ga, 1, none⟩ = _ := g1
              have k2 : wr.drew.cell? ⟨ga, 2, none⟩ = _ := g2
              have k3 : wr.drew.cell? ⟨ga, 3, none⟩ = _ := g3
              have k4 : wr.drew.cell? ⟨ga, 4, none⟩ = _ := g4
              have k5 : wr.drew.cell? ⟨ga, 5, none⟩ = _ := g5
              have k6 : wr.drew.cell? ⟨ga, 6, none⟩ = _ := g6
              have k7 : wr.drew.cell? ⟨ga + 1, 2, none⟩ = _ := f2
              have k8 : wr.drew.cell? ⟨sb, so + n, none⟩ = _ := hcell
              have k9 : wr.drew.cell? ⟨rb, ro + jj * 3 + 2, none⟩ = _ := p2
              have k10 : wr.drew.cell? ⟨s2b, s2o + n, none⟩ = _ := hcell2
              clear hB hx hy hxs hys hlb hlb2 hxk hyk hx20 hy20
              go_wp2_with fail
              go_region_held3 (fun W => W.cell? ⟨sb, so + n, none⟩ = some (.slice xa x.length xc) ∧ W.cell? ⟨s2b, s2o + n, none⟩ = some (.slice ya2 y.length yc2) ∧ W.cell? ⟨ga + 1, 2, none⟩ = some (.slice (some ⟨sb, so, none⟩) a.sorts.length sc) ∧ W.cell? ⟨rb, ro + jj * 3 + 2, none⟩ = some (.slice (some ⟨s2b, s2o, none⟩) b.sorts.length s2c) ∧ W.cell? ⟨ga, 0, none⟩ = some (.string nm) ∧ W.cell? ⟨ga, 1, none⟩ = some (.slice (some ⟨cb, co, none⟩) cs.length cc) ∧ W.cell? ⟨ga, 2, none⟩ = some (.slice ta ts.length tc) ∧ W.cell? ⟨ga, 3, none⟩ = some (.slice (some ⟨rb, ro, none⟩) l.length rc) ∧ W.cell? ⟨ga, 4, none⟩ = some (.slice oa on oc) ∧ W.cell? ⟨ga, 5, none⟩ = some (.slice ya yn yc) ∧ W.cell? ⟨ga, 6, none⟩ = some (.slice qa qn qc))
                (refine ⟨?_, ?_, ?_, ?_, ?_, ?_, ?_, ?_, ?_, ?_, ?_⟩ <;> assumption)
                ((go_at_call 47; refine (HFW.out _ (by assumption)).mono ?_; rintro e w'' ⟨rfl, hb', m0, m1, m2, m3, m4, m5, m6⟩; have m7 := (hb'.out.cell (p := ⟨ga + 1, 2, none⟩) HLG.out).trans HF2.out; have m8 := (hb'.out.cell (p := ⟨sb, so + n, none⟩) HLB.out).trans HCX.out; have m9 := (hb'.out.cell (p := ⟨rb, ro + jj * 3 + 2, none⟩) HLR2.out).trans HP2N.out; have m10 := (hb'.out.cell (p := ⟨s2b, s2o + n, none⟩) HLB2.out).trans HCY.out))
              have HB6O := Lib.hid (HBO.out.trans (hb'.out.mono HBO.out.size))
              have HB6W := Lib.hid (HBNW.out.trans (hb'.out.mono HBNW.out.size))
              clear hb'
              cases B with
              | false =>
                have hno : ¬ RegularAt cs l a := fun hr => by
                  have := HIFF.out.1 (hr k hkl (by rw [HII.out]; exact HRC.out)) n hlt
                  rw [HLS.out] at this
                  cases this
                have HNO := Lib.hid hno
                clear hno
                go_wp2_with fail
                go_ret
                exact ⟨⟨false, rfl, ⟨fun h => (by cases h), fun h => absurd h HNO.out⟩⟩, HB6W.out⟩
              | true =>
                go_wp2_with fail
                refine ⟨⟨n + 1, by simp only [Int.natCast_add, Int.natCast_one], by omega, fun q hq => ?_, HB6O.out⟩, ?_⟩
                · by_cases e : q = n
                  · subst e; exact HLS.out
                  · exact HPN.out q (by omega)
                · show a.sorts.length - ((n : Int) + 1).toNat < a.sorts.length - ((n : Nat) : Int).toNat
                  omega
            · have hab : HasAbove cs l a k := HIFF.out.2 fun q hq => HPN.out q (by omega)
              have HAB := Lib.hid hab
              clear hab
              go_wp2_with fail
              refine ⟨⟨k + 1, by simp only [Int.natCast_add, Int.natCast_one], by omega, fun j hj hr => ?_, HBN.out⟩, ?_⟩
              · by_cases e : j = k
                · subst e; exact HAB.out
                · exact HP.out j (by omega) hr
              · show cs.length - ((k : Int) + 1).toNat < cs.length - ((k : Nat) : Int).toNat
                omega
    · have hreg : RegularAt cs l a := fun j hj hr => HP.out j (by omega) (by rw [HII.out] at hr; exact hr)
      have HRG := Lib.hid hreg
      clear hreg
      go_wp2_with fail
      go_ret
      exact ⟨⟨true, rfl, ⟨fun _ => HRG.out, fun _ => rfl⟩⟩, HBW.out⟩
end Go.Proofs.Ytlaibimdkamcfaa
