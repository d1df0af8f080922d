import Derived.Test.YtlaibimdkamcfaaK0
/-
  Algebra.arityError: the error of an arity behind others.
-/
namespace Go.Proofs.Ytlaibimdkamcfaa
open Go.RowKit Go.Maps Go.WideMaps

/-- What is found of a type constructor. -/
theorem takes_look {ts : List TD} {mt n : Nat} {D : DataW Unit} {W : World} (h : TakesAt ts ts.length mt n D W) (s : ByteArray) (hs : s.size ≤ maxLen) :
    ∃ c, (Instr.lookup 65 (.map (some mt)) (.string s) true).run Try.prog W = .ok (.tuple #[.int .i64 c, .bool (Maps.has D (.string s.data.toList))]) W ∧ (s ∈ tnames ts → c = (tdAt ts (tIdx ts s)).arity) := by
  obtain ⟨v, ps, h1, h2⟩ := World.ownsMap.look_ok h.map (string_keyed Try.underlying9) Try.underlying65 (zero3 _) (plainElem_int Try.underlying3 (by decide)) (Go.WideMaps.keyOf_string_mk Try.underlying9 hs)
  obtain ⟨c, rfl, h3, _⟩ := plainElem_int_inv Try.underlying3 h2
  refine ⟨c, h1, fun hm => ?_⟩
  have h4 := (Prod.mk.inj h3).1
  rw [h.at_ s (by rw [List.take_length]; exact hm)] at h4
  simpa using h4.symm

theorem takes_has {ts : List TD} {mt n : Nat} {D : DataW Unit} {W : World} (h : TakesAt ts ts.length mt n D W) (s : ByteArray) : Maps.has D (.string s.data.toList) = true ↔ s ∈ tnames ts := by
  have := h.has s
  rwa [List.take_length] at this

/-- What is found of a place. -/
theorem places_look {l : List Ari} {ms n : Nat} {D : DataW Unit} {W : World} (h : PlacesAt l ms n D W) (s z : ByteArray) (hs : s.size ≤ maxLen) (hz : z.size ≤ maxLen) :
    ∃ (va : Option Addr) (vn vc : Nat), (Instr.lookup 68 (.map (some ms)) (.agg #[.string s, .string z]) true).run Try.prog W = .ok (.tuple #[.slice va vn vc, .bool (Maps.has D (placeLit (s, z)))]) W ∧ sliceR (.slice va vn vc) = some (D.atKey (placeLit (s, z)) zero44D, []) := by
  obtain ⟨v, ps, h1, h2⟩ := World.ownsMap.look_ok h.map Try.keyed128 Try.underlying68 (zero44 _) zero44R (place_key (p := (s, z)) hs hz)
  obtain ⟨va, vn, vc, rfl, hp⟩ := sliceR_some h2
  have hp' : ps = [] := hp
  subst hp'
  exact ⟨va, vn, vc, h1, h2⟩

set_option maxRecDepth 100000 in
set_option maxHeartbeats 8000000 in
theorem arityError_any (A : Alg) (na ua aa ta : Option Addr) (nl nc ul uc bc tl tc mb nm ab ao mt nt ms np : Nat) (D Dt Dp : DataW Unit) (cs : List Cls) (ts : List TD) (pre : List Ari) (a : Ari) (sa : Option Addr) (sb so sc : Nat) (w : World) (h : AlgAt A w mb nm ab ao D) (haa : 0 < A.n → aa = some ⟨ab, ao, none⟩) (hm : mb < w.heap.size) (ha : ab < w.heap.size)
    (hkn : A.known = knownB cs) (hbe : A.below = belowB cs) (ht : TakesAt ts ts.length mt nt Dt w) (hp : PlacesAt pre ms np Dp w) (hsa : a.sorts ≠ [] → sa = some ⟨sb, so, none⟩) (hss : SortsAt w sb so a.sorts) (h1 : a.typ.size ≤ maxLen) (h2 : a.cls.size ≤ maxLen) (hl : a.sorts.length ≤ 9223372036854775807) :
    Calls Try.prog 82 #[.agg #[.slice na nl nc, .map (some mb), .slice ua ul uc, .slice aa A.n bc, .slice ta tl tc, .map (some mt), .map (some ms)], .agg #[.string a.typ, .string a.cls, .slice sa a.sorts.length sc]] w fun e w' => e = .returned (.int .i64 (ariErr cs ts (pre.map pairOf) a)) ∧ Below w.heap.size w w' := by
  have hb0 : Below w.heap.size w (w.alloc (.cells #[.slice na nl nc, .map (some mb), .slice ua ul uc, .slice aa A.n bc, .slice ta tl tc, .map (some mt), .map (some ms)] 70)) := (Below.refl _ w).alloc (Nat.le_refl _) _
  have hc0 := heap_alloc_new w (.cells #[.slice na nl nc, .map (some mb), .slice ua ul uc, .slice aa A.n bc, .slice ta tl tc, .map (some mt), .map (some ms)] 70)
  have hs0 : (w.alloc (.cells #[.slice na nl nc, .map (some mb), .slice ua ul uc, .slice aa A.n bc, .slice ta tl tc, .map (some mt), .map (some ms)] 70)).heap.size = w.heap.size + 1 := by simp
  have hb1 : Below (w.alloc (.cells #[.slice na nl nc, .map (some mb), .slice ua ul uc, .slice aa A.n bc, .slice ta tl tc, .map (some mt), .map (some ms)] 70)).heap.size _ ((w.alloc (.cells #[.slice na nl nc, .map (some mb), .slice ua ul uc, .slice aa A.n bc, .slice ta tl tc, .map (some mt), .map (some ms)] 70)).alloc (.cells #[.string a.typ, .string a.cls, .slice sa a.sorts.length sc] 62)) := (Below.refl _ _).alloc (Nat.le_refl _) _
  have hc1 := heap_alloc_new (w.alloc (.cells #[.slice na nl nc, .map (some mb), .slice ua ul uc, .slice aa A.n bc, .slice ta tl tc, .map (some mt), .map (some ms)] 70)) (.cells #[.string a.typ, .string a.cls, .slice sa a.sorts.length sc] 62)
  have hc0' := (hb1.block w.heap.size (by rw [hs0]; omega)).trans hc0
  rw [hs0] at hc1
  have HB1 := Lib.hid (hb0.trans (hb1.mono hb0.size))
  have HC0 := Lib.hid hc0'
  have HC1 := Lib.hid hc1
  have HS1 := Lib.hid (show ((w.alloc (.cells #[.slice na nl nc, .map (some mb), .slice ua ul uc, .slice aa A.n bc, .slice ta tl tc, .map (some mt), .map (some ms)] 70)).alloc (.cells #[.string a.typ, .string a.cls, .slice sa a.sorts.length sc] 62)).heap.size = w.heap.size + 2 by simp)
  have HA := Lib.hid (h.below HB1.out hm ha)
  have HAA := Lib.hid haa
  have HT := Lib.hid (ht.below HB1.out)
  have HP := Lib.hid (hp.below HB1.out)
  have HSS := Lib.hid (hss.later HB1.out)
  have HSA := Lib.hid hsa
  have HK := Lib.hid hkn
  have HBE := Lib.hid hbe
  have HZ1 := Lib.hid h1
  have HZ2 := Lib.hid h2
  clear hb0 hc0 hs0 hb1 hc1 hc0' h haa ht hp hss hsa hkn hbe h1 h2
  obtain ⟨R, hR⟩ : ∃ R, ariErr cs ts (pre.map pairOf) a = R := ⟨_, rfl⟩
  rw [hR]
  have HR := Lib.hid hR
  clear hR
  go_enter Try.func82, Try.ntmps82
  obtain ⟨w1, hw1⟩ : ∃ q, (w.alloc (.cells #[.slice na nl nc, .map (some mb), .slice ua ul uc, .slice aa A.n bc, .slice ta tl tc, .map (some mt), .map (some ms)] 70)).alloc (.cells #[.string a.typ, .string a.cls, .slice sa a.sorts.length sc] 62) = q := ⟨_, rfl⟩
  rw [hw1] at HB1 HC0 HC1 HS1 HA HT HP HSS
  have HW1 := Lib.hid hw1
  obtain ⟨c, hlk, hcv⟩ := takes_look HT.out a.typ HZ1.out
  have hth := takes_has HT.out a.typ
  obtain ⟨H, hH⟩ : ∃ H, Maps.has Dt (.string a.typ.data.toList) = H := ⟨_, rfl⟩
  rw [hH] at hlk hth
  have HCV := Lib.hid hcv
  have HTH := Lib.hid hth
  rw [← hw1] at hlk
  obtain ⟨g0, g1, g2, g3, g4, g5, g6, _⟩ := box7 HC0.out
  obtain ⟨f0, f1, f2⟩ := cells3 HC1.out
  clear hH hcv hth
  clear hw1
  cases H with
  | false =>
    have hno : ¬ (a.typ ∈ tnames ts ∧ knownB cs a.cls = true) := fun hh => by have := HTH.out.2 hh.1; cases this
    have HE := Lib.hid (ariErr_missing (pre := pre.map pairOf) hno)
    clear hno
    go_wp2_with fail
    rw [HW1.out]
    go_ret
    exact ⟨by rw [← HR.out, HE.out]; rfl, HB1.out⟩
  | true =>
    have HTY := Lib.hid (HTH.out.1 rfl)
    have hca := HCV.out HTY.out
    subst hca
    clear HCV HTH
    go_wp2_with fail
    rw [HW1.out]
    refine (hasClass_any na ua aa ta nl nc ul uc A.n bc tl tc mb nm (some mt) (some ms) D a.cls w1 HA.out.map HZ2.out).mono ?_
    rw [HA.out.has a.cls, HK.out]
    rintro e w2 ⟨rfl, hb2⟩
    have HB2 := Lib.hid (HB1.out.trans (hb2.mono HB1.out.size))
    have HC02 := Lib.hid ((hb2.block w.heap.size (by rw [HS1.out]; omega)).trans HC0.out)
    have HC12 := Lib.hid ((hb2.block (w.heap.size + 1) (by rw [HS1.out]; omega)).trans HC1.out)
    have HA2 := Lib.hid (HA.out.below hb2 (Nat.lt_of_lt_of_le hm HB1.out.size) (Nat.lt_of_lt_of_le ha HB1.out.size))
    have HP2 := Lib.hid (HP.out.below hb2)
    have HSS2 := Lib.hid (HSS.out.later hb2)
    have HLW := Lib.hid (show w.heap.size + 1 < w2.heap.size from by have := hb2.size; rw [HS1.out] at this; omega)
    clear hb2 hlk g0 g1 g2 g3 g4 g5 g6 f0 f1 f2
    obtain ⟨K, hK⟩ : ∃ K, knownB cs a.cls = K := ⟨_, rfl⟩
    rw [hK]
    have HKK := Lib.hid hK
    clear hK
    cases K with
    | false =>
      have hno : ¬ (a.typ ∈ tnames ts ∧ knownB cs a.cls = true) := fun hh => by rw [HKK.out] at hh; cases hh.2
      have HE := Lib.hid (ariErr_missing (pre := pre.map pairOf) hno)
      clear hno
      go_wp2_with fail
      go_ret
      exact ⟨by rw [← HR.out, HE.out]; rfl, HB2.out⟩
    | true =>
      have HTK := Lib.hid (And.intro HTY.out HKK.out)
      obtain ⟨g0, g1, g2, g3, g4, g5, g6, _⟩ := box7 HC02.out
      obtain ⟨f0, f1, f2⟩ := cells3 HC12.out
      obtain ⟨va, vn, vc, hlp, _⟩ := places_look HP2.out a.typ a.cls HZ1.out HZ2.out
      have hph := HP2.out.has (a.typ, a.cls) HZ1.out HZ2.out
      obtain ⟨H, hH⟩ : ∃ H, Maps.has Dp (placeLit (a.typ, a.cls)) = H := ⟨_, rfl⟩
      rw [hH] at hlp hph
      have HPH := Lib.hid hph
      clear hH hph
      cases H with
      | true =>
        have HE := Lib.hid (ariErr_dup HTK.out (HPH.out.1 rfl))
        go_wp2_with fail
        go_ret
        exact ⟨by rw [← HR.out, HE.out]; rfl, HB2.out⟩
      | false =>
        have HNP := Lib.hid (show pairOf a ∉ pre.map pairOf from fun hh => by have := HPH.out.2 hh; cases this)
        obtain ⟨ar, har⟩ : ∃ q, (tdAt ts (tIdx ts a.typ)).arity = q := ⟨_, rfl⟩
        rw [har]
        have HAR := Lib.hid har
        clear har
        by_cases hcount : ¬ ((a.sorts.length : Int) = ar)
        · have HE := Lib.hid (ariErr_count HTK.out HNP.out (by rw [HAR.out]; exact hcount))
          have q1 : ((a.sorts.length : Int) == ar) = false := by simpa using hcount
          have q2 : ((a.sorts.length : Int) != ar) = true := by simpa using hcount
          clear hcount
          go_wp2_with fail
          go_ret
          exact ⟨by rw [← HR.out, HE.out]; rfl, HB2.out⟩
        replace hcount := Classical.not_not.1 hcount
        have HSE := Lib.hid (ariErr_sorts HTK.out HNP.out (by rw [HAR.out]; exact hcount))
        have q1 : ((a.sorts.length : Int) == ar) = true := by simpa using hcount
        have q2 : ((a.sorts.length : Int) != ar) = false := by simpa using hcount
        go_wp2_with fail
        clear g0 g1 g2 g3 g4 g5 g6 f0 f1 f2 hlp q1 q2
        go_loopw [50] (fun t wr => ∃ i : Nat, t = .int .i64 i ∧ i ≤ a.sorts.length ∧ (∀ j, j < i → sErr cs (sortOf a.sorts j) = 0) ∧ Below w2.heap.size w2 wr) (fun t _ => a.sorts.length - (intOf t).toNat)
        case atStart => exact ⟨0, rfl, Nat.zero_le _, fun j hj => by omega, Below.refl _ _⟩
        case round =>
          obtain ⟨i, rfl, hi, hpi, hb⟩ := hrel
          have HPI := Lib.hid hpi
          have HB := Lib.hid hb
          have HBW := Lib.hid (HB2.out.trans (hb.mono HB2.out.size))
          clear hpi hb
          by_cases hlt : i < a.sorts.length
          · have e := HSA.out (by intro e; rw [e] at hlt; simp at hlt)
            subst e
            obtain ⟨hlb, xa, xc, hcell, hxs⟩ := (HSS2.out.later HB.out) i hlt
            have HAT := Lib.hid (fun E he h0 => sErr_at (cs := cs) hlt HPI.out (E := E) he h0)
            have HSO := Lib.hid (sortOf_eq hlt)
            obtain ⟨x, hx⟩ : ∃ x, a.sorts[i] = x := ⟨_, rfl⟩
            rw [hx] at hcell hxs HAT HSO
            have hlx : x.length ≤ 9223372036854775807 := hxs.choose_spec.choose_spec.2.2
            have HX := Lib.hid hxs
            clear hx hxs hlb
            by_cases h20 : 20 < x.length
            · have hR := HR.out
              rw [HSE.out, HAT.out 5 (sErr_many h20) (by decide)] at hR
              subst hR
              go_wp2_with fail
              go_ret
              exact ⟨rfl, HBW.out⟩
            · go_wp2_with fail
              obtain ⟨wo, rfl⟩ : ∃ wo : World, wo = wr := ⟨_, rfl⟩
              go_loopw [59] (fun t wr => ∃ q : Nat, t = .int .i64 q ∧ q ≤ x.length ∧ (x.take q).all (knownB cs) = true ∧ Below wo.heap.size wo wr) (fun t _ => x.length - (intOf t).toNat)
              case atStart => exact ⟨0, rfl, Nat.zero_le _, by simp, Below.refl _ _⟩
              case round =>
                obtain ⟨q, rfl, hq, hpq, hqb⟩ := hrel
                have HPQ := Lib.hid hpq
                have HQB := Lib.hid hqb
                have HQB2 := Lib.hid (HB.out.trans (hqb.mono HB.out.size))
                have HQBW := Lib.hid (HB2.out.trans (HQB2.out.mono HB2.out.size))
                have HCQ := Lib.hid ((HQB2.out.block w.heap.size (by have := HLW.out; omega)).trans HC02.out)
                have HAQ := Lib.hid (HA2.out.below HQB2.out (Nat.lt_of_lt_of_le hm HB2.out.size) (Nat.lt_of_lt_of_le ha HB2.out.size))
                clear hpq hqb
                obtain ⟨g0, g1, g2, g3, g4, g5, g6, _⟩ := box7 HCQ.out
                by_cases hql : q < x.length
                · obtain ⟨xb, xo, hxa, hxs, _⟩ := HX.out.later HQB.out
                  have e := hxa (by intro e; subst e; simp at hql)
                  subst e
                  have hcx := hxs.cell q hql
                  have hzx := hxs.size q hql
                  have hts : (x.take (q + 1)).all (knownB cs) = knownB cs x[q] := by
                    rw [← List.take_append_getElem hql, List.all_append, HPQ.out]; simp
                  have HTS := Lib.hid hts
                  have HMX := Lib.hid (List.getElem_mem hql)
                  obtain ⟨s, hs⟩ : ∃ s, x[q] = s := ⟨_, rfl⟩
                  rw [hs] at hcx hzx HTS HMX
                  clear hts hs hxs hxa
                  go_wp2_with fail
                  refine (hasClass_any na ua aa ta nl nc ul uc A.n bc tl tc mb nm (some mt) (some ms) D s wr HAQ.out.map hzx).mono ?_
                  rw [HAQ.out.has s, HK.out]
                  rintro e w4 ⟨rfl, hb4⟩
                  have HB4 := Lib.hid (HQB.out.trans (hb4.mono HQB.out.size))
                  have HB4W := Lib.hid (HQBW.out.trans (hb4.mono HQBW.out.size))
                  clear hb4 g0 g1 g2 g3 g4 g5 g6
                  obtain ⟨K, hK⟩ : ∃ K, knownB cs s = K := ⟨_, rfl⟩
                  rw [hK] at HTS ⊢
                  have HKS := Lib.hid hK
                  clear hK
                  cases K with
                  | false =>
                    have hR := HR.out
                    rw [HSE.out, HAT.out 9 (sErr_unknown h20 (List.all_eq_false.2 ⟨s, HMX.out, by rw [HKS.out]; simp⟩)) (by decide)] at hR
                    subst hR
                    go_wp2_with fail
                    go_ret
                    exact ⟨rfl, HB4W.out⟩
                  | true =>
                    go_wp2_with fail
                    refine ⟨⟨q + 1, by simp only [Int.natCast_add, Int.natCast_one], by omega, HTS.out, HB4.out⟩, ?_⟩
                    show x.length - ((q : Int) + 1).toNat < x.length - ((q : Nat) : Int).toNat
                    omega
                · have hall : x.all (knownB cs) = true := by
                    have := HPQ.out
                    rwa [List.take_of_length_le (by omega)] at this
                  have HALL := Lib.hid hall
                  clear hall
                  go_wp2_with fail
                  refine (isNormal_any A na ua aa ta nl nc ul uc bc tl tc mb nm ab ao (some mt) (some ms) D xc xa x wr HAQ.out HAA.out (Nat.lt_of_lt_of_le hm HQBW.out.size) (Nat.lt_of_lt_of_le ha HQBW.out.size) (HX.out.later HQB.out) (by omega)).mono ?_
                  rintro e w4 ⟨⟨N, rfl, hN⟩, hb4⟩
                  have HB4 := Lib.hid (HQB2.out.trans (hb4.mono HQB2.out.size))
                  have HB4W := Lib.hid (HQBW.out.trans (hb4.mono HQBW.out.size))
                  have hnb : normB cs x = N := by
                    unfold normB NormA at *
                    rw [HBE.out] at hN
                    rw [Bool.eq_iff_iff, hN]
                    simp only [decide_eq_true_eq]
                  have HNB := Lib.hid hnb
                  clear hb4 g0 g1 g2 g3 g4 g5 g6 hN hnb
                  cases N with
                  | false =>
                    have hR := HR.out
                    rw [HSE.out, HAT.out 14 (sErr_norm h20 HALL.out HNB.out) (by decide)] at hR
                    subst hR
                    go_wp2_with fail
                    go_ret
                    exact ⟨rfl, HB4W.out⟩
                  | true =>
                    have HZ := Lib.hid (sErr_ok h20 HALL.out HNB.out)
                    go_wp2_with fail
                    refine ⟨⟨i + 1, by simp only [Int.natCast_add, Int.natCast_one], by omega, fun j hj => ?_, HB4.out⟩, ?_⟩
                    · by_cases e : j = i
                      · subst e
                        rw [HSO.out]; exact HZ.out
                      · exact HPI.out j (by omega)
                    · show a.sorts.length - ((i : Int) + 1).toNat < a.sorts.length - ((i : Nat) : Int).toNat
                      omega
          · have hR := HR.out
            rw [HSE.out, firstErr_zero.2 (fun j hj => HPI.out j (by omega))] at hR
            subst hR
            go_wp2_with fail
            go_ret
            exact ⟨rfl, HBW.out⟩
end Go.Proofs.Ytlaibimdkamcfaa
