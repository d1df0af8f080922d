/-
  Algebra.classError: the error of a class behind others.
-/
import Derived.Test.YtlaibimdkamcfaaD1
import Derived.Test.YtlaibimdkamcfaaB6
import Derived.Outline
namespace Go.Proofs.Ytlaibimdkamcfaa
open Go.RowKit Go.Maps

theorem size_nat {s : ByteArray} (h : s.size ≤ maxLen) : s.size ≤ 9223372036854775807 := by unfold maxLen at h; omega

/-- The cells of an algebra, as a block. -/
def algCells (na ua ba ta : Option Addr) (nl nc ul uc bl bc tl tc mb : Nat) (tm sm : Option Nat) : Array Value := #[.slice na nl nc, .map (some mb), .slice ua ul uc, .slice ba bl bc, .slice ta tl tc, .map tm, .map sm]

theorem alg_cells {W : World} {g : Nat} {na ua ba ta : Option Addr} {nl nc ul uc bl bc tl tc mb : Nat} {tm sm : Option Nat}
    (c1 : W.heap[g]? = some (.cells #[.slice na nl nc, .map (some mb), .slice ua ul uc, .slice ba bl bc, .slice ta tl tc, .map tm, .map sm] 70 (0, 0))) :
    W.cell? ⟨g, 0, none⟩ = some (.slice na nl nc) ∧ W.cell? ⟨g, 1, none⟩ = some (.map (some mb)) ∧ W.cell? ⟨g, 2, none⟩ = some (.slice ua ul uc) ∧ W.cell? ⟨g, 3, none⟩ = some (.slice ba bl bc) ∧ W.cell? ⟨g, 4, none⟩ = some (.slice ta tl tc) ∧ W.cell? ⟨g, 5, none⟩ = some (.map tm) ∧ W.cell? ⟨g, 6, none⟩ = some (.map sm) := by
  refine ⟨?_, ?_, ?_, ?_, ?_, ?_, ?_⟩ <;> simp [World.cell?, c1]

theorem map_below {W W' : World} {mb n B : Nat} {D : DataW Unit} (hm : W.ownsMap Try.prog 9 (plainElem (H := Unit) Try.prog 3) mb n D) (hb : Below B W W') (hmb : mb < B) : W'.ownsMap Try.prog 9 (plainElem (H := Unit) Try.prog 3) mb n D := by
  obtain ⟨es, clock, h1, h2⟩ := hm
  exact ⟨es, clock, (hb.block mb hmb).trans h1, h2⟩

theorem supErr_first (pre l : List ByteArray) (i : Nat) (hi : i < l.length) (hz : ∀ j, j < i → supErr pre l j = 0) (e : Int) (he : supErr pre l i = e) (h0 : e ≠ 0) : firstErr l.length (supErr pre l) = e := by
  rw [firstErr_at hi hz (by rw [he]; exact h0), he]

set_option maxRecDepth 100000 in
set_option maxHeartbeats 2000000 in
theorem classError_any (na ua ba ta sa : Option Addr) (nl nc ul uc bl bc tl tc mb n sb so sc : Nat) (tm sm : Option Nat) (D : DataW Unit) (pre : List ByteArray) (K : ByteArray → Bool) (c : Cls) (w : World) (hm : w.ownsMap Try.prog 9 (plainElem (H := Unit) Try.prog 3) mb n D) (hmb : mb < w.heap.size)
    (hh : ∀ s : ByteArray, Maps.has D (.string s.data.toList) = K s) (hK : ∀ s, K s = true ↔ s ∈ pre) (hn : c.name.size ≤ maxLen) (hsa : c.sups ≠ [] → sa = some ⟨sb, so, none⟩) (hs : StrsAt w sb so c.sups) (hl : c.sups.length ≤ maxLen) :
    Calls Try.prog 67 #[.agg #[.slice na nl nc, .map (some mb), .slice ua ul uc, .slice ba bl bc, .slice ta tl tc, .map tm, .map sm], .agg #[.string c.name, .slice sa c.sups.length sc]] w fun e w' => e = .returned (.int .i64 (clsErr pre c)) ∧ Below w.heap.size w w' := by
  have HN := Lib.hid (name_any c.name)
  have HS := Lib.hid hs
  have HSA := Lib.hid hsa
  have HM := Lib.hid hm
  have HH := Lib.hid hh
  have HK := Lib.hid hK
  obtain ⟨E, hE⟩ : ∃ E, clsErr pre c = E := ⟨_, rfl⟩
  rw [hE]
  unfold clsErr at hE
  clear hs hsa hm hh hK
  have hn' := size_nat hn
  obtain ⟨nm, hnm⟩ : ∃ nm, c.name = nm := ⟨_, rfl⟩
  rw [hnm] at hn hn' HN hE ⊢
  obtain ⟨l, hll⟩ : ∃ l, c.sups = l := ⟨_, rfl⟩
  rw [hll] at hl HS HSA hE ⊢
  clear hnm hll
  go_enter Try.func67, Try.ntmps67
  have hb0 : Below w.heap.size w ((w.alloc (.cells #[.slice na nl nc, .map (some mb), .slice ua ul uc, .slice ba bl bc, .slice ta tl tc, .map tm, .map sm] 70)).alloc (.cells #[.string nm, .slice sa l.length sc] 60)) := ((Below.refl _ w).alloc (Nat.le_refl _) _).alloc (by simp) _
  have hc0 : ((w.alloc (.cells #[.slice na nl nc, .map (some mb), .slice ua ul uc, .slice ba bl bc, .slice ta tl tc, .map tm, .map sm] 70)).alloc (.cells #[.string nm, .slice sa l.length sc] 60)).heap[w.heap.size]? = some (.cells #[.slice na nl nc, .map (some mb), .slice ua ul uc, .slice ba bl bc, .slice ta tl tc, .map tm, .map sm] 70 (0, 0)) := by rw [Below.heap_alloc _ _ _ (by simp)]; exact heap_alloc_new w _
  have hc1 : ((w.alloc (.cells #[.slice na nl nc, .map (some mb), .slice ua ul uc, .slice ba bl bc, .slice ta tl tc, .map tm, .map sm] 70)).alloc (.cells #[.string nm, .slice sa l.length sc] 60)).heap[w.heap.size + 1]? = some (.cells #[.string nm, .slice sa l.length sc] 60 (0, 0)) := Go.heap_alloc2_new w _ _
  have hs0 : w.heap.size + 1 < ((w.alloc (.cells #[.slice na nl nc, .map (some mb), .slice ua ul uc, .slice ba bl bc, .slice ta tl tc, .map tm, .map sm] 70)).alloc (.cells #[.string nm, .slice sa l.length sc] 60)).heap.size := by simp
  obtain ⟨w1, hw1⟩ : ∃ q, (w.alloc (.cells #[.slice na nl nc, .map (some mb), .slice ua ul uc, .slice ba bl bc, .slice ta tl tc, .map tm, .map sm] 70)).alloc (.cells #[.string nm, .slice sa l.length sc] 60) = q := ⟨_, rfl⟩
  rw [hw1] at hb0 hc0 hc1 hs0
  have HW1 := Lib.hid hw1
  have HB0 := Lib.hid hb0
  have HC0 := Lib.hid hc0
  have HC1 := Lib.hid hc1
  have HS0 := Lib.hid hs0
  clear hb0 hc0 hc1 hs0 hw1
  have HHas := Lib.hid (hasClass_any na ua ba ta nl nc ul uc bl bc tl tc mb n tm sm D nm w1 (map_below HM.out HB0.out hmb) hn)
  rw [HH.out nm] at HHas
  obtain ⟨d0, d1, d2, d3, d4, d5, d6⟩ := alg_cells HC0.out
  have e0 : w1.cell? ⟨w.heap.size + 1, 0, none⟩ = some (.string nm) := by simp [World.cell?, HC1.out]
  have e1 : w1.cell? ⟨w.heap.size + 1, 1, none⟩ = some (.slice sa l.length sc) := by simp [World.cell?, HC1.out]
  have HNw := Lib.hid (HN.out w1 hn')
  clear HN
  cases hnb : nameB nm with
  | false =>
    rw [hnb, if_neg (by decide)] at hE
    rw [hnb] at HNw
    subst hE
    go_wp2_with fail
    rw [HW1.out]
    refine HNw.out.mono ?_
    rintro e w' ⟨rfl, rfl⟩
    clear hnb
    go_wp2_with fail
    go_ret
    exact ⟨rfl, HB0.out⟩
  | true =>
    rw [hnb, if_pos rfl] at hE
    rw [hnb] at HNw
    clear hnb
    go_wp2_with fail
    rw [HW1.out]
    refine HNw.out.mono ?_
    rintro e w' ⟨rfl, rfl⟩
    cases hkn : K nm with
    | true =>
      rw [if_pos ((HK.out nm).1 hkn)] at hE
      subst hE
      rw [hkn] at HHas
      clear hkn
      go_wp2_with fail
      refine HHas.out.mono ?_
      rintro e w' ⟨rfl, hb'⟩
      go_wp2_with fail
      go_ret
      exact ⟨rfl, HB0.out.trans (hb'.mono HB0.out.size)⟩
    | false =>
      rw [if_neg (by rw [← HK.out nm, hkn]; decide)] at hE
      rw [hkn] at HHas
      clear hkn
      go_wp2_with fail
      refine HHas.out.mono ?_
      rintro e w2 ⟨rfl, hb'⟩
      have HB2 := Lib.hid hb'
      have g0 := (hb'.cell (p := ⟨w.heap.size, 0, none⟩) (by have := HS0.out; show w.heap.size < _; omega)).trans d0
      have g1 := (hb'.cell (p := ⟨w.heap.size, 1, none⟩) (by have := HS0.out; show w.heap.size < _; omega)).trans d1
      have g2 := (hb'.cell (p := ⟨w.heap.size, 2, none⟩) (by have := HS0.out; show w.heap.size < _; omega)).trans d2
      have g3 := (hb'.cell (p := ⟨w.heap.size, 3, none⟩) (by have := HS0.out; show w.heap.size < _; omega)).trans d3
      have g4 := (hb'.cell (p := ⟨w.heap.size, 4, none⟩) (by have := HS0.out; show w.heap.size < _; omega)).trans d4
      have g5 := (hb'.cell (p := ⟨w.heap.size, 5, none⟩) (by have := HS0.out; show w.heap.size < _; omega)).trans d5
      have g6 := (hb'.cell (p := ⟨w.heap.size, 6, none⟩) (by have := HS0.out; show w.heap.size < _; omega)).trans d6
      have f1 := (hb'.cell (p := ⟨w.heap.size + 1, 1, none⟩) HS0.out).trans e1
      clear d0 d1 d2 d3 d4 d5 d6 e0 e1 hb'
      by_cases h20 : 20 < l.length
      · rw [if_pos h20] at hE
        subst hE
        go_wp2_with fail
        go_ret
        exact ⟨rfl, HB0.out.trans (HB2.out.mono HB0.out.size)⟩
      · rw [if_neg h20] at hE
        go_wp2_with fail
        have HE := Lib.hid hE
        clear hE
        have HG := Lib.hid (And.intro g0 (And.intro g1 (And.intro g2 (And.intro g3 (And.intro g4 (And.intro g5 (And.intro g6 f1)))))))
        have HB02 := Lib.hid (HB0.out.trans (HB2.out.mono HB0.out.size))
        have HSZ := Lib.hid (Nat.lt_of_lt_of_le HS0.out HB2.out.size)
        obtain ⟨ga, hga⟩ : ∃ q, w.heap.size = q := ⟨_, rfl⟩
        rw [hga] at HG HSZ ⊢
        have HGA := Lib.hid hga
        clear hga g0 g1 g2 g3 g4 g5 g6 f1
        go_loopw [22] (fun t wr => ∃ i : Nat, t = .int .i64 i ∧ i ≤ l.length ∧ (∀ j, j < i → supErr pre l j = 0) ∧ Below w2.heap.size w2 wr) (fun t _ => l.length - (intOf t).toNat)
        case atStart => exact ⟨0, rfl, Nat.zero_le _, fun j hj => by omega, Below.refl _ _⟩
        case round =>
          obtain ⟨i, rfl, hi, hp, hb⟩ := hrel
          have HP := Lib.hid hp
          clear hp
          have HBr := Lib.hid hb
          have HBw := Lib.hid (HB02.out.trans (hb.mono HB02.out.size))
          clear hb
          by_cases hlt : i < l.length
          · have e := HSA.out (by intro e; subst e; simp at hlt)
            subst e
            have hc := (HS.out.later HBw.out).cell i hlt
            have hsz := HS.out.size i hlt
            have hz := HSZ.out
            have g0 := (HBr.out.cell (p := ⟨ga, 0, none⟩) (by show ga < _; omega)).trans HG.out.1
            have g1 := (HBr.out.cell (p := ⟨ga, 1, none⟩) (by show ga < _; omega)).trans HG.out.2.1
            have g2 := (HBr.out.cell (p := ⟨ga, 2, none⟩) (by show ga < _; omega)).trans HG.out.2.2.1
            have g3 := (HBr.out.cell (p := ⟨ga, 3, none⟩) (by show ga < _; omega)).trans HG.out.2.2.2.1
            have g4 := (HBr.out.cell (p := ⟨ga, 4, none⟩) (by show ga < _; omega)).trans HG.out.2.2.2.2.1
            have g5 := (HBr.out.cell (p := ⟨ga, 5, none⟩) (by show ga < _; omega)).trans HG.out.2.2.2.2.2.1
            have g6 := (HBr.out.cell (p := ⟨ga, 6, none⟩) (by show ga < _; omega)).trans HG.out.2.2.2.2.2.2.1
            have f1 := (HBr.out.cell (p := ⟨ga + 1, 1, none⟩) hz).trans HG.out.2.2.2.2.2.2.2
            have HHs := Lib.hid (hasClass_any na ua ba ta nl nc ul uc bl bc tl tc mb n tm sm D l[i] wr (map_below HM.out HBw.out hmb) hsz)
            rw [HH.out l[i]] at HHs
            have hwr : wrap64 ((i : Int) + 1) = ((i + 1 : Nat) : Int) := by
              simp only [maxLen] at hl
              unfold wrap64
              omega
            have HWR := Lib.hid hwr
            clear hwr
            have HAt := Lib.hid (strAt_eq hlt)
            have HKi := Lib.hid (HK.out l[i])
            cases hki : K l[i] with
            | false =>
              rw [hki] at HHs HKi
              have he : supErr pre l i = 9 := by unfold supErr; rw [HAt.out, if_neg (fun h => by have := HKi.out.2 h; cases this)]
              have hE := HE.out
              rw [supErr_first pre l i hlt HP.out 9 he (by decide)] at hE
              subst hE
              clear he hki
              go_wp2_with fail
              refine HHs.out.mono ?_
              rintro e W' ⟨rfl, hb'⟩
              go_wp2_with fail
              go_ret
              exact ⟨rfl, HBw.out.trans (hb'.mono HBw.out.size)⟩
            | true =>
              rw [hki] at HHs HKi
              have hmem := Lib.hid (HKi.out.1 rfl)
              clear hki
              go_wp2_with fail
              refine HHs.out.mono ?_
              rintro e W' ⟨rfl, hb'⟩
              have HB' := Lib.hid hb'
              have q1 := (hb'.cell (p := ⟨ga + 1, 1, none⟩) (Nat.lt_of_lt_of_le hz HBr.out.size)).trans f1
              clear g0 g1 g2 g3 g4 g5 g6 f1 hz
              cases i with
              | zero =>
                clear hb' hc
                have he : supErr pre l 0 = 0 := by unfold supErr; rw [if_pos (by rw [HAt.out]; exact hmem.out), if_neg (by omega)]
                have HE0 := Lib.hid he
                clear he
                go_wp2_with fail
                have HWR1 := HWR.out
                simp only [Nat.zero_add] at HWR1
                refine ⟨⟨1, by rfl, by omega, fun j hj => by (obtain rfl : j = 0 := by omega); exact HE0.out, HBr.out.trans (HB'.out.mono HBr.out.size)⟩, ?_⟩
                show l.length - ((1 : Int)).toNat < l.length - 0
                omega
              | succ k =>
                have hk : k < l.length := by omega
                have HAk := Lib.hid (strAt_eq hk)
                have hq : W'.cell? ⟨sb, so + k, none⟩ = some (.string l[k]) := (HS.out.later (HBw.out.trans (HB'.out.mono HBw.out.size))).cell k hk
                clear hb' hc
                have hbl := bytesLess_ltS l[k] l[k + 1]
                cases hbb : Op.bytesLess l[k].toList l[k + 1].toList with
                | true =>
                  have he : supErr pre l (k + 1) = 0 := by
                    unfold supErr
                    rw [if_pos (by rw [HAt.out]; exact hmem.out), Nat.add_sub_cancel, HAt.out, HAk.out, if_neg]
                    rintro ⟨_, hn⟩
                    exact hn (hbl.1 hbb)
                  have HE0 := Lib.hid he
                  clear he hbl
                  go_wp2_with fail
                  refine ⟨⟨k + 1 + 1, by simp only [Int.natCast_add, Int.natCast_one], by omega, fun j hj => by (by_cases e : j = k + 1; (subst e; exact HE0.out); exact HP.out j (by omega)), HBr.out.trans (HB'.out.mono HBr.out.size)⟩, ?_⟩
                  show l.length - ((k : Int) + 1 + 1).toNat < l.length - ((k + 1 : Nat) : Int).toNat
                  omega
                | false =>
                  have he : supErr pre l (k + 1) = 17 := by
                    unfold supErr
                    rw [if_pos (by rw [HAt.out]; exact hmem.out), Nat.add_sub_cancel, HAt.out, HAk.out, if_pos]
                    exact ⟨by omega, fun h => by have := hbl.2 h; rw [hbb] at this; cases this⟩
                  have hE := HE.out
                  rw [supErr_first pre l (k + 1) hlt HP.out 17 he (by decide)] at hE
                  subst hE
                  clear he hbl
                  go_wp2_with fail
                  go_ret
                  exact ⟨rfl, HBw.out.trans (HB'.out.mono HBw.out.size)⟩
          · have ht : i = l.length := by omega
            have hE := HE.out
            rw [firstErr_zero.2 (fun j hj => HP.out j (by omega))] at hE
            subst hE
            clear ht
            go_wp2_with fail
            go_ret
            exact ⟨rfl, HBw.out⟩
end Go.Proofs.Ytlaibimdkamcfaa
