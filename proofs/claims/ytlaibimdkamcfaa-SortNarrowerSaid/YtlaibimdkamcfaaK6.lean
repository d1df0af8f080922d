import Derived.Test.YtlaibimdkamcfaaK5
/-
  Ground: the first type of at most a depth that has a sort.
-/
namespace Go.Proofs.Ytlaibimdkamcfaa
open Go.RowKit Go.Maps Go.WideMaps

theorem cells2' {W : World} {g : Nat} {a0 a1 : Value} {t : TypeId} (h : W.heap[g]? = some (.cells #[a0, a1] t (0, 0))) : W.cell? ⟨g, 0, none⟩ = some a0 ∧ W.cell? ⟨g, 1, none⟩ = some a1 := by
  refine ⟨?_, ?_⟩ <;> (rw [Lib.cell_of_heap h]; rfl)

section
variable {cs : List Cls} {ts : List TD} {l : List Ari} {na ua aa t4 : Option Addr} {nl nc ul uc al bc t4c mb mt ms f m : Nat} {W0 : World}

set_option maxRecDepth 100000 in
set_option maxHeartbeats 8000000 in
theorem first_any (hAF : AF cs ts l na ua aa t4 nl nc ul uc al bc t4c mb mt ms W0) {d : Nat} (hA : AppliedOK cs ts l na ua aa t4 nl nc ul uc al bc t4c mb mt ms f m W0 d) (hf : W0.heap.size ≤ f) (hm : W0.heap.size ≤ m) (hd : d ≤ 4) :
    FirstOK cs ts l na ua aa t4 nl nc ul uc al bc t4c mb mt ms f m W0 (d + 1) := by
  intro S nf nm sa s sc w hb hM hnf hnm hs hc hl hk
  obtain ⟨D, hD⟩ : ∃ D : Int, ((d + 1 : Nat) : Int) = D := ⟨_, rfl⟩
  have hD0 : (D == 0) = false := by rw [← hD]; simp; omega
  have hb1 : Below w.heap.size w ((w.alloc (.cells #[.slice na nl nc, .map (some mb), .slice ua ul uc, .slice aa al bc, .slice t4 ts.length t4c, .map (some mt), .map (some ms), .map (some f), .map (some m)] 94)).alloc (.cells #[.int .i64 0, .string ⟨#[]⟩, .int .i64 0, .slice none 0 0, .slice none 0 0] 50)) := ((Below.refl _ w).alloc (Nat.le_refl _) _).alloc (by simp) _
  have n0 : ((w.alloc (.cells #[.slice na nl nc, .map (some mb), .slice ua ul uc, .slice aa al bc, .slice t4 ts.length t4c, .map (some mt), .map (some ms), .map (some f), .map (some m)] 94)).alloc (.cells #[.int .i64 0, .string ⟨#[]⟩, .int .i64 0, .slice none 0 0, .slice none 0 0] 50)).heap[w.heap.size]? = some (.cells #[.slice na nl nc, .map (some mb), .slice ua ul uc, .slice aa al bc, .slice t4 ts.length t4c, .map (some mt), .map (some ms), .map (some f), .map (some m)] 94 (0, 0)) := by rw [Below.heap_alloc _ _ _ (by simp)]; exact heap_alloc_new w _
  have n1 : ((w.alloc (.cells #[.slice na nl nc, .map (some mb), .slice ua ul uc, .slice aa al bc, .slice t4 ts.length t4c, .map (some mt), .map (some ms), .map (some f), .map (some m)] 94)).alloc (.cells #[.int .i64 0, .string ⟨#[]⟩, .int .i64 0, .slice none 0 0, .slice none 0 0] 50)).heap[w.heap.size + 1]? = some (.cells #[.int .i64 0, .string ⟨#[]⟩, .int .i64 0, .slice none 0 0, .slice none 0 0] 50 (0, 0)) := Go.heap_alloc2_new w _ _
  have hs1 : ((w.alloc (.cells #[.slice na nl nc, .map (some mb), .slice ua ul uc, .slice aa al bc, .slice t4 ts.length t4c, .map (some mt), .map (some ms), .map (some f), .map (some m)] 94)).alloc (.cells #[.int .i64 0, .string ⟨#[]⟩, .int .i64 0, .slice none 0 0, .slice none 0 0] 50)).heap.size = w.heap.size + 2 := by simp
  have HJ := Lib.hid (join_any _ (hs.later hb1) hc (by omega) fun z hz => known_40 hAF.open_ (hk z hz))
  have HB1 := Lib.hid hb1
  have HN0 := Lib.hid n0
  have HN1 := Lib.hid n1
  have HS1 := Lib.hid hs1
  have hM0 : Memo cs ts l (fun b => S b ∧ b < w.heap.size) f m nf nm w := hM.keep rfl rfl (SameIn.refl S _) fun b h hb => ⟨h, hb⟩
  have HM := Lib.hid hM0
  have HFM := Lib.hid hM.lt
  have HBW := Lib.hid hb
  have HK := Lib.hid hk
  have HS := Lib.hid hs
  have HDD := Lib.hid hD
  rw [hD]
  clear hb1 n0 n1 hs1 hb hM hM0 hs hk hD
  go_enter Try.func57, Try.ntmps57
  obtain ⟨w1, hw1⟩ : ∃ q, (w.alloc (.cells #[.slice na nl nc, .map (some mb), .slice ua ul uc, .slice aa al bc, .slice t4 ts.length t4c, .map (some mt), .map (some ms), .map (some f), .map (some m)] 94)).alloc (.cells #[.int .i64 0, .string ⟨#[]⟩, .int .i64 0, .slice none 0 0, .slice none 0 0] 50) = q := ⟨_, rfl⟩
  rw [hw1] at HJ HB1 HN0 HN1 HS1
  have HW1 := Lib.hid hw1
  clear hw1
  go_wp2_with fail
  rw [HW1.out]
  clear HW1
  refine HJ.out.mono ?_
  rintro e w2 ⟨rfl, hb2⟩
  obtain ⟨J, hJ⟩ : ∃ J, joinS s = J := ⟨_, rfl⟩
  rw [hJ]
  have HJJ := Lib.hid hJ
  have b3 : Below w2.heap.size w2 (w2.alloc (.cells #[.string J, .int .i64 D] 122)) := (Below.refl _ _).alloc (Nat.le_refl _) _
  have n3 := heap_alloc_new w2 (.cells #[.string J, .int .i64 D] 122)
  have hz2 := hb2.size
  rw [HS1.out] at hz2
  have hB2 : Below w.heap.size w w2 := HB1.out.trans (hb2.mono (by rw [HS1.out]; omega))
  have hB3 : Below w.heap.size w (w2.alloc (.cells #[.string J, .int .i64 D] 122)) := hB2.trans (b3.mono hB2.size)
  have hm3 := HM.out.below hB3
  obtain ⟨p, n, q, xa, ya, xn, xc, yn, yc, b, hlk, hfound⟩ := memo_found hm3 hAF.open_ HK.out hl (show d + 1 ≤ 5 by omega)
  rw [hJ, HDD.out] at hlk
  have n03 := (b3.block w.heap.size (by omega)).trans ((hb2.block w.heap.size (by rw [HS1.out]; omega)).trans HN0.out)
  have n13 := (b3.block (w.heap.size + 1) (by omega)).trans ((hb2.block (w.heap.size + 1) (by rw [HS1.out]; omega)).trans HN1.out)
  have HN03 := Lib.hid n03
  have HN13 := Lib.hid n13
  have HN3 := Lib.hid n3
  have HB3 := Lib.hid hB3
  have HM3 := Lib.hid hm3
  have HFO := Lib.hid hfound
  have HZ2 := Lib.hid hz2
  have HZ3 := Lib.hid (show (w2.alloc (.cells #[.string J, .int .i64 D] 122)).heap.size = w2.heap.size + 1 by simp)
  obtain ⟨c0, c1, c2, c3, c4, c5, c6, c7, c8⟩ := box9 n03
  obtain ⟨d0, d1⟩ := cells2' n3
  clear hJ b3 n3 hb2 hz2 hB2 hB3 hm3 n03 n13 hfound
  have b4 : Below w2.heap.size w2 ((w2.alloc (.cells #[.string J, .int .i64 D] 122)).alloc (.cells #[.int .i64 p, .string n, .int .i64 q, .slice xa xn xc, .slice ya yn yc] 50)) := ((Below.refl _ _).alloc (Nat.le_refl _) _).alloc (by simp) _
  have b4' : Below (w2.alloc (.cells #[.string J, .int .i64 D] 122)).heap.size (w2.alloc (.cells #[.string J, .int .i64 D] 122)) ((w2.alloc (.cells #[.string J, .int .i64 D] 122)).alloc (.cells #[.int .i64 p, .string n, .int .i64 q, .slice xa xn xc, .slice ya yn yc] 50)) := (Below.refl _ _).alloc (Nat.le_refl _) _
  have hB4 : Below w.heap.size w ((w2.alloc (.cells #[.string J, .int .i64 D] 122)).alloc (.cells #[.int .i64 p, .string n, .int .i64 q, .slice xa xn xc, .slice ya yn yc] 50)) := HB3.out.trans (b4'.mono HB3.out.size)
  have hz4 : ((w2.alloc (.cells #[.string J, .int .i64 D] 122)).alloc (.cells #[.int .i64 p, .string n, .int .i64 q, .slice xa xn xc, .slice ya yn yc] 50)).heap.size = w2.heap.size + 2 := by simp
  have n04 := (b4'.block w.heap.size (by rw [HZ3.out]; have := HZ2.out; omega)).trans HN03.out
  have n14 := (b4'.block (w.heap.size + 1) (by rw [HZ3.out]; have := HZ2.out; omega)).trans HN13.out
  have n24 := (b4'.block w2.heap.size (by rw [HZ3.out]; omega)).trans HN3.out
  have HB4 := Lib.hid hB4
  have HN14 := Lib.hid n14
  have HN04 := Lib.hid n04
  have HN24 := Lib.hid n24
  have HZ4 := Lib.hid hz4
  have hsub0 : ∀ b, (S b ∧ b < w.heap.size) → S b ∨ w.heap.size ≤ b := fun b h => .inl h.1
  cases b with
  | true =>
    have HREP := Lib.hid (HFO.out rfl)
    obtain ⟨e0, e1, e2, e3, e4, ef⟩ := cells5 n14
    have ef0 := ef 0
    have ef1 := ef 1
    have ef2 := ef 2
    have ef3 := ef 3
    have ef4 := ef 4
    clear ef b4 b4' hB4 hz4 n04 n14 n24
    go_wp2_with fail
    have hfin := store5_below HB4.out (w.heap.size + 1) (by omega) (.int .i64 p) (.string n) (.int .i64 q) (.slice xa xn xc) (.slice ya yn yc)
    have hfin3 := store5_below ((Below.refl w.heap.size (w2.alloc (.cells #[.string J, .int .i64 D] 122))).alloc (by rw [HZ3.out]; have := HZ2.out; omega) (.cells #[.int .i64 p, .string n, .int .i64 q, .slice xa xn xc, .slice ya yn yc] 50)) (w.heap.size + 1) (by omega) (.int .i64 p) (.string n) (.int .i64 q) (.slice xa xn xc) (.slice ya yn yc)
    have hsm : SameIn (fun b => S b ∧ b < w.heap.size) (w2.alloc (.cells #[.string J, .int .i64 D] 122)) _ := fun b hb _ _ => hfin3.block b hb.2
    exact ret_ct rfl rfl rfl (store5_block HN14.out _ _ _ _ _) ⟨ButM.below hfin, ⟨nf, nm, by omega, by omega, HM3.out.after hfin3 HFM.out.1 HFM.out.2 hsm fun b h _ => hsub0 b h⟩, _, _, _, _, _, _, _, _, _, true, rfl, .inl ⟨rfl, HREP.out.keep hsm fun b h _ => hsub0 b h⟩⟩
  | false =>
    have hm4 := HM3.out.below b4'
    obtain ⟨b2, hlk2, hnone⟩ := memo_none hm4 hAF.open_ HK.out hl (show d + 1 ≤ 5 by omega)
    rw [HJJ.out, HDD.out] at hlk2
    have HNONE := Lib.hid hnone
    have HM4 := Lib.hid hm4
    obtain ⟨c0', c1', c2', c3', c4', c5', c6', c7', c8'⟩ := box9 n04
    obtain ⟨d0', d1'⟩ := cells2' n24
    clear b4 b4' hB4 hz4 n04 n24 hnone hm4 HFO
    cases b2 with
    | true =>
      have HNG := Lib.hid (HNONE.out rfl)
      obtain ⟨e0, e1, e2, e3, e4, ef⟩ := cells5 n14
      have ef0 := ef 0
      have ef1 := ef 1
      have ef2 := ef 2
      have ef3 := ef 3
      have ef4 := ef 4
      clear ef n14
      go_wp2_with fail
      have hfin := store5_below HB4.out (w.heap.size + 1) (by omega) (.int .i64 0) (.string ⟨#[]⟩) (.int .i64 0) (.slice none 0 0) (.slice none 0 0)
      have hfin4 := store5_below (Below.refl w.heap.size ((w2.alloc (.cells #[.string J, .int .i64 D] 122)).alloc (.cells #[.int .i64 p, .string n, .int .i64 q, .slice xa xn xc, .slice ya yn yc] 50))) (w.heap.size + 1) (by omega) (.int .i64 0) (.string ⟨#[]⟩) (.int .i64 0) (.slice none 0 0) (.slice none 0 0)
      exact ret_ct rfl rfl rfl (store5_block HN14.out _ _ _ _ _) ⟨ButM.below hfin, ⟨nf, nm, by omega, by omega, HM4.out.after hfin4 HFM.out.1 HFM.out.2 (fun b hb _ _ => hfin4.block b hb.2) fun b h _ => hsub0 b h⟩, _, _, _, _, _, _, _, _, _, false, rfl, .inr ⟨rfl, HNG.out⟩⟩
    | false =>
      clear n14
      go_wp2_with fail
      generalize ((w2.alloc (.cells #[.string J, .int .i64 D] 122)).alloc (.cells #[.int .i64 p, .string n, .int .i64 q, .slice xa xn xc, .slice ya yn yc] 50)) = w4 at *
      have HM4' := Lib.hid (HM4.out.keep (S' := (Apart S w.heap.size (w.heap.size + 2) none)) rfl rfl (SameIn.refl _ _) fun b h _ => .inl h)
      have HMP := Lib.hid HM4.out.isMaps
      have h300 := types_le hAF.types
      have HBW4 := Lib.hid (HBW.out.trans (HB4.out.mono HBW.out.size))
      have HSZ := Lib.hid (show w.heap.size + 2 ≤ w4.heap.size by rw [HZ4.out]; have := HZ2.out; omega)
      clear c0 c1 c2 c3 c4 c5 c6 c7 c8 c0' c1' c2' c3' c4' c5' c6' c7' c8' d0 d1 d0' d1' hlk hlk2 HM3 HM4 HN03 HN13 HN3 HB3 HZ3
      go_loopw [41] (fun t wr => ∃ (i nf' nm' : Nat), t = .int .i64 i ∧ i ≤ ts.length ∧ (∀ j, j < i → ¬ OkAt cs ts l d (tdAt ts j).name s) ∧ nf' ≤ nf + i * (10 * bnd d) ∧ nm' ≤ nm + i * (10 * bnd d) ∧ Memo cs ts l (Apart S w.heap.size (w.heap.size + 2) none) f m nf' nm' wr ∧ ButM f m w4 wr) (fun t _ => ts.length - (intOf t).toNat)
      case atStart => exact ⟨0, nf, nm, rfl, Nat.zero_le _, fun j h => by omega, by omega, by omega, HM4'.out, ButM.refl _⟩
      case round =>
        obtain ⟨i, nf', nm', rfl, hi, hno, hnf', hnm', hMr, hBM⟩ := hrel
        have HNO := Lib.hid hno
        have HMR := Lib.hid hMr
        have HBM := Lib.hid hBM
        have HN0r := Lib.hid (hBM.box HMP.out HN04.out)
        have HN1r := Lib.hid (hBM.box HMP.out HN14.out)
        have HN2r := Lib.hid (hBM.box HMP.out HN24.out)
        have HSr := Lib.hid (Nat.le_trans HSZ.out hBM.size)
        have HBWr := Lib.hid (HBW4.out.trans (hBM.toBelow hf hm (Nat.le_trans HBW.out.size HB4.out.size)))
        have hmul : i * (10 * bnd d) ≤ 300 * (10 * bnd d) := Nat.mul_le_mul_right _ (by omega)
        have hbs : bnd (d + 1) = 1 + 3000 * bnd d := rfl
        clear hno hMr hBM
        by_cases hlt : i < ts.length
        · obtain ⟨b4, rfl, hb4, t0, t1, tz⟩ := hAF.tys i hlt
          have u0 := (HBWr.out.cell (p := ⟨b4, i * 2, none⟩) hb4).trans t0
          have u1 := (HBWr.out.cell (p := ⟨b4, i * 2 + 1, none⟩) hb4).trans t1
          have HTD := Lib.hid (tdAt_eq hlt)
          obtain ⟨N, hN⟩ : ∃ N, ts[i].name = N := ⟨_, rfl⟩
          rw [hN] at u0 tz
          have HNN := Lib.hid (show (tdAt ts i).name = N by rw [HTD.out, hN])
          obtain ⟨ar, har⟩ : ∃ a, ts[i].arity = a := ⟨_, rfl⟩
          rw [har] at u1
          have b5 : Below wr.heap.size wr (wr.alloc (.cells #[.string N, .int .i64 ar] 87)) := (Below.refl _ _).alloc (Nat.le_refl _) _
          have hm1 : (i + 1) * (10 * bnd d) ≤ 300 * (10 * bnd d) := Nat.mul_le_mul_right _ (by omega)
          rw [Nat.add_mul, Nat.one_mul] at hm1
          have HA := Lib.hid (hA (Apart S w.heap.size (w.heap.size + 2) none) nf' nm' N sa s sc (wr.alloc (.cells #[.string N, .int .i64 ar] 87)) (HBWr.out.trans (b5.mono HBWr.out.size)) (HMR.out.below b5) (by omega) (by omega) tz ((((HS.out.later HB4.out).cells (HBM.out.keepsCells HMP.out)).later b5)) hl HK.out)
          rw [HDD.out] at HA
          have hz5 : (wr.alloc (.cells #[.string N, .int .i64 ar] 87)).heap.size = wr.heap.size + 1 := by simp
          have HB5 := Lib.hid b5
          have HZ5 := Lib.hid hz5
          have hn0 := (b5.block w.heap.size (by have := HSr.out; omega)).trans HN0r.out
          obtain ⟨c0, c1, c2, c3, c4, c5, c6, c7, c8⟩ := box9 hn0
          have HN05 := Lib.hid hn0
          have HM1 := Lib.hid hm1
          clear t0 t1 hN har b5 hz5 hn0 hm1
          go_wp2_with fail
          have hMP5 := (HMR.out.below HB5.out).isMaps
          have hn25 := (HB5.out.block w2.heap.size (by have := (Array.getElem?_eq_some_iff.1 HN2r.out).1; exact this)).trans HN2r.out
          have hn15 := (HB5.out.block (w.heap.size + 1) (by have := HSr.out; omega)).trans HN1r.out
          have HN25 := Lib.hid hn25
          have HN15 := Lib.hid hn15
          have HMP5 := Lib.hid hMP5
          have HBM5 := Lib.hid (HBM.out.later HB5.out)
          clear hn25 hn15 hMP5
          generalize (wr.alloc (.cells #[.string N, .int .i64 ar] 87)) = w5 at *
          refine HA.out.mono ?_
          rintro e w6 ⟨hB6, ⟨nf2, nm2, hnf2, hnm2, hM6⟩, p', n', q', xa', ya', xn', xc', yn', yc', ok, rfl, hres⟩
          have hs5 : w.heap.size + 2 ≤ w5.heap.size := by have := HZ5.out; have := HSr.out; omega
          have hsub6 : ∀ b, ((Apart S w.heap.size (w.heap.size + 2) none) b ∨ w5.heap.size ≤ b) → b < w6.heap.size → (Apart S w.heap.size (w.heap.size + 2) none) b := fun b h _ => by
            rcases h with h | h
            · exact h
            · exact .inr ⟨by omega, by simp⟩
          have b7 : Below w6.heap.size w6 (w6.alloc (.cells #[.int .i64 p', .string n', .int .i64 q', .slice xa' xn' xc', .slice ya' yn' yc'] 50)) := (Below.refl _ _).alloc (Nat.le_refl _) _
          have hm7 : Memo cs ts l (Apart S w.heap.size (w.heap.size + 2) none) f m nf2 nm2 (w6.alloc (.cells #[.int .i64 p', .string n', .int .i64 q', .slice xa' xn' xc', .slice ya' yn' yc'] 50)) := (hM6.keep rfl rfl (SameIn.refl _ _) hsub6).below b7
          have HM7 := Lib.hid hm7
          have HBM7 := Lib.hid ((HBM5.out.trans hB6).later b7)
          have HS6 := Lib.hid (show w.heap.size + 2 ≤ w6.heap.size by have := hB6.size; omega)
          clear c0 c1 c2 c3 c4 c5 c6 c7 c8 u0 u1
          rcases hres with ⟨rfl, hok, hrepc⟩ | ⟨rfl, hnok⟩
          · have hn07 := (b7.block w.heap.size (by have := HS6.out; omega)).trans (hB6.box HMP5.out HN05.out)
            have hn17 := (b7.block (w.heap.size + 1) (by have := HS6.out; omega)).trans (hB6.box HMP5.out HN15.out)
            have hx27 := hB6.box HMP5.out HN25.out
            have hn27 := (b7.block w2.heap.size (Array.getElem?_eq_some_iff.1 hx27).1).trans hx27
            have hn77 := heap_alloc_new w6 (.cells #[.int .i64 p', .string n', .int .i64 q', .slice xa' xn' xc', .slice ya' yn' yc'] 50)
            have hrepc7 : RepC (Apart S w.heap.size (w.heap.size + 2) none) (w6.alloc (.cells #[.int .i64 p', .string n', .int .i64 q', .slice xa' xn' xc', .slice ya' yn' yc'] 50)) (Rep cs ts l (Apart S w.heap.size (w.heap.size + 2) none) (w6.alloc (.cells #[.int .i64 p', .string n', .int .i64 q', .slice xa' xn' xc', .slice ya' yn' yc'] 50)) d) N (argsU cs ts l N s) (.agg #[.int .i64 p', .string n', .int .i64 q', .slice xa' xn' xc', .slice ya' yn' yc']) := hrepc.keep (SameIn.below b7) hsub6 fun u x h => h.keep (SameIn.below b7) hsub6
            have hrep7 : Rep cs ts l (Apart S w.heap.size (w.heap.size + 2) none) (w6.alloc (.cells #[.int .i64 p', .string n', .int .i64 q', .slice xa' xn' xc', .slice ya' yn' yc'] 50)) (d + 1) s (.agg #[.int .i64 p', .string n', .int .i64 q', .slice xa' xn' xc', .slice ya' yn' yc']) := ⟨i, hlt, by rw [HNN.out]; exact hok, HNO.out, by rw [HNN.out]; exact hrepc7⟩
            obtain ⟨x, hx⟩ := repC_typeR hrepc7
            obtain ⟨w8, hup, hm8, hg8, hsame8⟩ := memo_put_found hm7 hAF.open_ HK.out hl (show d + 1 ≤ 5 by omega) (by unfold maxLen; omega) hx hrep7
            rw [HJJ.out, HDD.out] at hup
            have hsz7 : (w6.alloc (.cells #[.int .i64 p', .string n', .int .i64 q', .slice xa' xn' xc', .slice ya' yn' yc'] 50)).heap.size = w6.heap.size + 1 := by simp
            have hff := HFM.out.1
            have hn78 := (hg8.block w6.heap.size (by rw [hsz7]; omega) (fun e => by cases e; have := HS6.out; omega)).trans hn77
            have hn18 := (hg8.block (w.heap.size + 1) (by rw [hsz7]; have := HS6.out; omega) (fun e => by cases e; omega)).trans hn17
            obtain ⟨c0, c1, c2, c3, c4, c5, c6, c7, c8⟩ := box9 hn07
            obtain ⟨d0, d1⟩ := cells2' hn27
            obtain ⟨h0, h1, h2, h3, h4, _⟩ := cells5 hn77
            obtain ⟨k0, k1, k2, k3, k4, _⟩ := cells5 hn78
            obtain ⟨e0, e1, e2, e3, e4, ef⟩ := cells5 hn18
            have ef0 := ef 0
            have ef1 := ef 1
            have ef2 := ef 2
            have ef3 := ef 3
            have ef4 := ef 4
            have HN18 := Lib.hid hn18
            have HM8 := Lib.hid hm8
            have HG8 := Lib.hid hg8
            have HR8 := Lib.hid (hrep7.keep hsame8 fun b h _ => h)
            have HNB := Lib.hid (show nf2 + 1 ≤ nf + bnd (d + 1) ∧ nm2 ≤ nm + bnd (d + 1) by have := HM1.out; omega)
            clear ef hn07 hn17 hx27 hn27 hn77 hrepc7 hrep7 hx hm8 hg8 hsame8 hsz7 hff hn78 hn18 hsub6 hM6 hB6 hok hrepc b7 hm7 hs5
            go_wp2_with fail
            have hfin := store5_below (Below.refl w.heap.size w8) (w.heap.size + 1) (by omega) (.int .i64 p') (.string n') (.int .i64 q') (.slice xa' xn' xc') (.slice ya' yn' yc')
            have hsm : SameIn (Apart S w.heap.size (w.heap.size + 2) none) w8 (store5 w8 (w.heap.size + 1) (.int .i64 p') (.string n') (.int .i64 q') (.slice xa' xn' xc') (.slice ya' yn' yc')) := fun b hb _ _ => store5_other _ _ _ (apart_ne hb (by omega) (by omega)) _ _ _ _ _
            exact ret_ct rfl rfl rfl (store5_block HN18.out _ _ _ _ _) ⟨(((ButM.below HB4.out).trans HBM7.out).trans (ButM.grownF HG8.out)).after hfin (Nat.le_refl _), ⟨nf2 + 1, nm2, HNB.out.1, HNB.out.2, HM8.out.after hfin HFM.out.1 HFM.out.2 hsm fun b h _ => apart_sub (by omega) b h⟩, _, _, _, _, _, _, _, _, _, true, rfl, .inl ⟨rfl, HR8.out.keep hsm fun b h _ => apart_sub (by omega) b h⟩⟩
          · have HNK := Lib.hid hnok
            clear hsub6 hM6 hB6 hnok b7 hm7 hs5
            go_wp2_with fail
            refine ⟨⟨i + 1, nf2, nm2, by simp only [Int.natCast_add, Int.natCast_one], by omega, fun j hj => ?_, by rw [Nat.add_mul, Nat.one_mul]; omega, by rw [Nat.add_mul, Nat.one_mul]; omega, HM7.out, HBM7.out⟩, ?_⟩
            · by_cases e : j = i
              · subst e; rw [HNN.out]; exact HNK.out
              · exact HNO.out j (by omega)
            · show ts.length - ((i : Int) + 1).toNat < ts.length - ((i : Nat) : Int).toNat
              omega
        · have hie : i = ts.length := by omega
          have hng : ¬ Gr cs ts l (d + 1) s := fun ⟨k, hk, h⟩ => HNO.out k (by omega) h
          obtain ⟨w8, hup, hm8, hg8, hsame8⟩ := memo_put_none HMR.out hAF.open_ HK.out hl (show d + 1 ≤ 5 by omega) (by unfold maxLen; omega) hng
          rw [HJJ.out, HDD.out] at hup
          obtain ⟨c0, c1, c2, c3, c4, c5, c6, c7, c8⟩ := box9 HN0r.out
          obtain ⟨d0, d1⟩ := cells2' HN2r.out
          have hmm := HFM.out.2
          have hn18 := (hg8.block (w.heap.size + 1) (by have := HSr.out; omega) (fun e => by cases e; omega)).trans HN1r.out
          obtain ⟨e0, e1, e2, e3, e4, ef⟩ := cells5 hn18
          have ef0 := ef 0
          have ef1 := ef 1
          have ef2 := ef 2
          have ef3 := ef 3
          have ef4 := ef 4
          have HN18 := Lib.hid hn18
          have HM8 := Lib.hid hm8
          have HG8 := Lib.hid hg8
          have HNG := Lib.hid hng
          have HNB := Lib.hid (show nf' ≤ nf + bnd (d + 1) ∧ nm' + 1 ≤ nm + bnd (d + 1) by omega)
          clear ef hm8 hg8 hsame8 hmm hn18 hng
          go_wp2_with fail
          have hfin := store5_below (Below.refl w.heap.size w8) (w.heap.size + 1) (by omega) (.int .i64 0) (.string ⟨#[]⟩) (.int .i64 0) (.slice none 0 0) (.slice none 0 0)
          have hsm : SameIn (Apart S w.heap.size (w.heap.size + 2) none) w8 (store5 w8 (w.heap.size + 1) (.int .i64 0) (.string ⟨#[]⟩) (.int .i64 0) (.slice none 0 0) (.slice none 0 0)) := fun b hb _ _ => store5_other _ _ _ (apart_ne hb (by omega) (by omega)) _ _ _ _ _
          exact ret_ct rfl rfl rfl (store5_block HN18.out _ _ _ _ _) ⟨(((ButM.below HB4.out).trans HBM.out).trans (ButM.grownM HG8.out)).after hfin (Nat.le_refl _), ⟨nf', nm' + 1, HNB.out.1, HNB.out.2, HM8.out.after hfin HFM.out.1 HFM.out.2 hsm fun b h _ => apart_sub (by omega) b h⟩, _, _, _, _, _, _, _, _, _, false, rfl, .inr ⟨rfl, HNG.out⟩⟩
end
end Go.Proofs.Ytlaibimdkamcfaa
