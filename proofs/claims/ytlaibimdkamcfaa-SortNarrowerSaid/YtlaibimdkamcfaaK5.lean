import Derived.Test.YtlaibimdkamcfaaK4
import Derived.Test.YtlaibimdkamcfaaK1
import Derived.Maps.AppendAt
/-
  Ground: a constructor with the first arguments with which it has a sort.
-/
namespace Go.Proofs.Ytlaibimdkamcfaa
open Go.RowKit Go.Maps Go.WideMaps

theorem Try.info50 : (Try.prog.info? 50).map (fun i => (i.zero, i.size, i.bytes)) = some (some zeroT, 5, 80) := by kernel_rfl

theorem box9 {W : World} {g : Nat} {a0 a1 a2 a3 a4 a5 a6 a7 a8 : Value} {t : TypeId} (h : W.heap[g]? = some (.cells #[a0, a1, a2, a3, a4, a5, a6, a7, a8] t (0, 0))) :
    W.cell? ⟨g, 0, none⟩ = some a0 ∧ W.cell? ⟨g, 1, none⟩ = some a1 ∧ W.cell? ⟨g, 2, none⟩ = some a2 ∧ W.cell? ⟨g, 3, none⟩ = some a3 ∧ W.cell? ⟨g, 4, none⟩ = some a4 ∧ W.cell? ⟨g, 5, none⟩ = some a5 ∧ W.cell? ⟨g, 6, none⟩ = some a6 ∧ W.cell? ⟨g, 7, none⟩ = some a7 ∧ W.cell? ⟨g, 8, none⟩ = some a8 := by
  refine ⟨?_, ?_, ?_, ?_, ?_, ?_, ?_, ?_, ?_⟩ <;> (rw [Lib.cell_of_heap h]; rfl)

/-- A row whose block lies as it lay. -/
theorem own_same {W W' : World} {B e k n : Nat} {v : Value} {xs : List Value} (h : W.ownsRow B e k v n xs) (hb : ∀ q, v.ownBlock = some q → W'.heap[q]? = W.heap[q]?) : W'.ownsRow B e k v n xs := by
  refine ⟨h.1, ?_⟩
  rcases h.2 with h0 | ⟨g, cap, cur, hv, hg, hh, rest⟩
  · exact .inl h0
  · exact .inr ⟨g, cap, cur, hv, hg, (hb g (by rw [hv]; rfl)).trans hh, rest⟩

theorem own_cap {W : World} {B e k n c : Nat} {a : Option Addr} {xs : List Value} (h : W.ownsRow B e k (.slice a n c) n xs) : n ≤ c := by
  rcases h.2 with ⟨hv, h0⟩ | ⟨g, cap, cur, hv, hg, hh, hc, _⟩
  · omega
  · cases hv; exact hc

theorem RowsAt.butM {f m : Nat} {W W' : World} {B R : Nat} {U : List (List ByteArray)} {vals : List Value} (h : RowsAt W B R U vals) (hb : ButM f m W W') (hm : IsMaps f m W) : RowsAt W' B R U vals :=
  ⟨h.len, hb.box hm h.box, h.base, fun j hj => (by obtain ⟨v, h1, h2⟩ := h.row j hj; exact ⟨v, h1, hb.own hm h2⟩), h.apart⟩

theorem Memo.isMaps {cs : List Cls} {ts : List TD} {l : List Ari} {S : Nat → Prop} {f m nf nm : Nat} {W : World} (h : Memo cs ts l S f m nf nm W) : IsMaps f m W := h.maps

/-- Blocks that a type in the making does not write. -/
def Apart (S : Nat → Prop) (B hi : Nat) (own : Option Nat) : Nat → Prop := fun b => (S b ∧ b < B) ∨ (hi ≤ b ∧ own ≠ some b)

theorem own_plain {W : World} {B e k n c : Nat} {a : Option Addr} {xs : List Value} (h : W.ownsRow B e k (.slice a n c) n xs) : PlainA a := by
  rcases h.2 with ⟨hv, h0⟩ | ⟨g, cap, cur, hv, _⟩
  · cases hv; exact fun x e => by cases e
  · cases hv; exact fun x e => by cases e; exact ⟨_, _, rfl⟩

theorem Memo.after {cs : List Cls} {ts : List TD} {l : List Ari} {S S' : Nat → Prop} {f m nf nm B : Nat} {W W' : World} (h : Memo cs ts l S f m nf nm W) (hb : Below B W W') (hf : f < B) (hm : m < B) (hk : SameIn S W W') (hs : ∀ b, S b → b < W.heap.size → S' b) : Memo cs ts l S' f m nf nm W' := h.keep (hb.block f hf) (hb.block m hm) hk hs

theorem apart_ne {S : Nat → Prop} {B hi g b : Nat} {own : Option Nat} (h : Apart S B hi own b) (h1 : B ≤ g) (h2 : g < hi) : b ≠ g := by
  rcases h with ⟨_, h⟩ | ⟨h, _⟩ <;> omega

theorem apart_sub {S : Nat → Prop} {B hi : Nat} {own : Option Nat} (hh : B ≤ hi) (b : Nat) (h : Apart S B hi own b) : S b ∨ B ≤ b := by
  rcases h with ⟨h, _⟩ | ⟨h, _⟩
  · exact .inl h
  · exact .inr (by omega)

section
variable {cs : List Cls} {ts : List TD} {l : List Ari} {na ua aa t4 : Option Addr} {nl nc ul uc al bc t4c mb mt ms f m : Nat} {W0 : World}

set_option maxRecDepth 100000 in
set_option maxHeartbeats 8000000 in
theorem applied_any (hAF : AF cs ts l na ua aa t4 nl nc ul uc al bc t4c mb mt ms W0) {d : Nat} (hF : FirstOK cs ts l na ua aa t4 nl nc ul uc al bc t4c mb mt ms f m W0 d) (hf : W0.heap.size ≤ f) (hm : W0.heap.size ≤ m) (hd : d ≤ 4) :
    AppliedOK cs ts l na ua aa t4 nl nc ul uc al bc t4c mb mt ms f m W0 d := by
  intro S nf nm name sa s sc w hb hM hnf hnm hz hs hl hk
  have hb0 : Below w.heap.size w (w.alloc (.cells #[.slice na nl nc, .map (some mb), .slice ua ul uc, .slice aa al bc, .slice t4 ts.length t4c, .map (some mt), .map (some ms), .map (some f), .map (some m)] 94)) := (Below.refl _ w).alloc (Nat.le_refl _) _
  have hb1 : Below w.heap.size w ((w.alloc (.cells #[.slice na nl nc, .map (some mb), .slice ua ul uc, .slice aa al bc, .slice t4 ts.length t4c, .map (some mt), .map (some ms), .map (some f), .map (some m)] 94)).alloc (.cells #[.int .i64 0, .string ⟨#[]⟩, .int .i64 0, .slice none 0 0, .slice none 0 0] 50)) := hb0.alloc (by simp) _
  have n0 : ((w.alloc (.cells #[.slice na nl nc, .map (some mb), .slice ua ul uc, .slice aa al bc, .slice t4 ts.length t4c, .map (some mt), .map (some ms), .map (some f), .map (some m)] 94)).alloc (.cells #[.int .i64 0, .string ⟨#[]⟩, .int .i64 0, .slice none 0 0, .slice none 0 0] 50)).heap[w.heap.size]? = some (.cells #[.slice na nl nc, .map (some mb), .slice ua ul uc, .slice aa al bc, .slice t4 ts.length t4c, .map (some mt), .map (some ms), .map (some f), .map (some m)] 94 (0, 0)) := by rw [Below.heap_alloc _ _ _ (by simp)]; exact heap_alloc_new w _
  have n1 : ((w.alloc (.cells #[.slice na nl nc, .map (some mb), .slice ua ul uc, .slice aa al bc, .slice t4 ts.length t4c, .map (some mt), .map (some ms), .map (some f), .map (some m)] 94)).alloc (.cells #[.int .i64 0, .string ⟨#[]⟩, .int .i64 0, .slice none 0 0, .slice none 0 0] 50)).heap[w.heap.size + 1]? = some (.cells #[.int .i64 0, .string ⟨#[]⟩, .int .i64 0, .slice none 0 0, .slice none 0 0] 50 (0, 0)) := Go.heap_alloc2_new w _ _
  have hs1 : ((w.alloc (.cells #[.slice na nl nc, .map (some mb), .slice ua ul uc, .slice aa al bc, .slice t4 ts.length t4c, .map (some mt), .map (some ms), .map (some f), .map (some m)] 94)).alloc (.cells #[.int .i64 0, .string ⟨#[]⟩, .int .i64 0, .slice none 0 0, .slice none 0 0] 50)).heap.size = w.heap.size + 2 := by simp
  have HSO := Lib.hid (hAF.sorts _ name sa s sc (hb.trans (hb1.mono hb.size)) hz (hs.later hb1) hl)
  have HB1 := Lib.hid hb1
  have HN0 := Lib.hid n0
  have HN1 := Lib.hid n1
  have HS1 := Lib.hid hs1
  have HM := Lib.hid hM
  have HBW := Lib.hid hb
  have HK := Lib.hid hk
  obtain ⟨c0, c1, c2, c3, c4, c5, c6, c7, c8⟩ := box9 n0
  clear hb0 hb1 n0 n1 hs1 hb hM hs hk
  go_enter Try.func80, Try.ntmps80
  obtain ⟨w1, hw1⟩ : ∃ q, (w.alloc (.cells #[.slice na nl nc, .map (some mb), .slice ua ul uc, .slice aa al bc, .slice t4 ts.length t4c, .map (some mt), .map (some ms), .map (some f), .map (some m)] 94)).alloc (.cells #[.int .i64 0, .string ⟨#[]⟩, .int .i64 0, .slice none 0 0, .slice none 0 0] 50) = q := ⟨_, rfl⟩
  rw [hw1] at HSO HB1 HN0 HN1 HS1
  have HW1 := Lib.hid hw1
  clear hw1
  go_wp2_with fail
  rw [HW1.out]
  clear HW1 c0 c1 c2 c3 c4 c5 c6 c7 c8
  refine HSO.out.mono ?_
  rintro e w2 ⟨hb2, (⟨hno, rfl⟩ | ⟨hcan, R, vals, rfl, hRW⟩)⟩
  · have hB2 : Below w.heap.size w w2 := HB1.out.trans (hb2.mono (by rw [HS1.out]; omega))
    have hn1 := (hb2.block (w.heap.size + 1) (by rw [HS1.out]; omega)).trans HN1.out
    have HNO := Lib.hid hno
    have HB2 := Lib.hid hB2
    have HN2 := Lib.hid hn1
    obtain ⟨e0, e1, e2, e3, e4, ef⟩ := cells5 hn1
    have ef0 := ef 0
    have ef1 := ef 1
    have ef2 := ef 2
    have ef3 := ef 3
    have ef4 := ef 4
    clear hno hB2 hb2 hn1 ef
    go_wp2_with fail
    have hfin := store5_below HB2.out (w.heap.size + 1) (by omega) (.int .i64 0) (.string ⟨#[]⟩) (.int .i64 0) (.slice none 0 0) (.slice none 0 0)
    exact ret_ct rfl rfl rfl (store5_block HN2.out _ _ _ _ _) ⟨ButM.below hfin, ⟨nf, nm, by omega, by omega, (HM.out.below hfin).keep rfl rfl (SameIn.refl _ _) fun _ h _ => .inl h⟩, _, _, _, _, _, _, _, _, _, false, rfl, .inr ⟨rfl, fun h => HNO.out h.1⟩⟩
  · have HCAN := Lib.hid hcan
    have HKN := Lib.hid (fun u (hu : u ∈ argsU cs ts l name s) => argsU_known hAF.aris hcan hu)
    obtain ⟨U, hU⟩ : ∃ U, argsU cs ts l name s = U := ⟨_, rfl⟩
    rw [hU] at hRW HKN
    have HU := Lib.hid hU
    have hk10 : U.length ≤ 10 := by
      rw [← hU]
      unfold argsU
      rw [List.length_map, List.length_range]
      have h1 := tIdx_lt hcan.1
      have := types_arity hAF.types h1
      rw [tdAt_eq h1]
      omega
    obtain ⟨k, hkk⟩ : ∃ k, U.length = k := ⟨_, rfl⟩
    rw [hU, hkk]
    rw [hkk] at hk10
    have HKK := Lib.hid hkk
    have HB2 := Lib.hid (show Below w.heap.size w w2 from HB1.out.trans (hb2.mono (by rw [HS1.out]; omega)))
    have HN1' := Lib.hid ((hb2.block (w.heap.size + 1) (by rw [HS1.out]; omega)).trans HN1.out)
    have HN0' := Lib.hid ((hb2.block w.heap.size (by rw [HS1.out]; omega)).trans HN0.out)
    have HRW := Lib.hid hRW
    have hb3 : Below w2.heap.size w2 (w2.alloc (.cells #[.int .i64 1, .string name, .int .i64 0, .slice none 0 0, .slice none 0 0] 50)) := (Below.refl _ _).alloc (Nat.le_refl _) _
    have HN3 := Lib.hid (heap_alloc_new w2 (.cells #[.int .i64 1, .string name, .int .i64 0, .slice none 0 0, .slice none 0 0] 50))
    have HB3 := Lib.hid hb3
    have HW3 := Lib.hid (show (w2.alloc (.cells #[.int .i64 1, .string name, .int .i64 0, .slice none 0 0, .slice none 0 0] 50)).heap.size = w2.heap.size + 1 by simp)
    have HG := Lib.hid (show w.heap.size + 1 < w2.heap.size by have := hb2.size; rw [HS1.out] at this; omega)
    clear hcan hU hkk hb2 hRW hb3
    go_wp2_with fail
    generalize (w2.alloc (.cells #[.int .i64 1, .string name, .int .i64 0, .slice none 0 0, .slice none 0 0] 50)) = w3 at *
    have HM3 := Lib.hid ((((HM.out.keep (S' := fun b => S b ∧ b < w.heap.size) rfl rfl (SameIn.refl S _) fun b h hb => ⟨h, hb⟩).below (HB2.out.trans (HB3.out.mono HB2.out.size))).keep (S' := Apart S w.heap.size (w2.heap.size + 1) none) rfl rfl (SameIn.refl _ _) fun b h _ => .inl h))
    have HFM := Lib.hid HM.out.lt
    obtain ⟨i50, hi50, hx0, hx1, hxb⟩ := info_parts Try.info50
    go_loopw [32] (fun t wr => ∃ (i : Nat) (aa : Option Addr) (ac nf' nm' : Nat) (xs : List Value), t = .int .i64 i ∧ i ≤ k ∧ wr.heap[w2.heap.size]? = some (.cells #[.int .i64 1, .string name, .int .i64 0, .slice none 0 0, .slice aa i ac] 50 (0, 0)) ∧ wr.ownsRow (w2.heap.size + 1) 50 5 (.slice aa i ac) i xs ∧
        (∀ j (h : j < U.length), j < i → ∃ v0 v1 v2 v3 v4, xs[j * 5]? = some v0 ∧ xs[j * 5 + 1]? = some v1 ∧ xs[j * 5 + 2]? = some v2 ∧ xs[j * 5 + 3]? = some v3 ∧ xs[j * 5 + 4]? = some v4 ∧ Rep cs ts l (Apart S w.heap.size (w2.heap.size + 1) (Value.slice aa i ac).ownBlock) wr d U[j] (.agg #[v0, v1, v2, v3, v4])) ∧
        nf' ≤ nf + i * bnd d ∧ nm' ≤ nm + i * bnd d ∧ Memo cs ts l (Apart S w.heap.size (w2.heap.size + 1) (Value.slice aa i ac).ownBlock) f m nf' nm' wr ∧ ButM f m w2 wr) (fun t _ => k - (intOf t).toNat)
    case atStart => exact ⟨0, none, 0, nf, nm, [], rfl, Nat.zero_le _, HN3.out, World.ownsRow_nil _ _ _ _, fun j _ h => by omega, by omega, by omega, HM3.out, ButM.below HB3.out⟩
    case round =>
      obtain ⟨i, aa', ac', nf', nm', xs, rfl, hi, hg3, how, hel, hnf', hnm', hMr, hBM⟩ := hrel
      have HG3 := Lib.hid hg3
      have HOW := Lib.hid how
      have HEL := Lib.hid hel
      have HMR := Lib.hid hMr
      have HBM := Lib.hid hBM
      have HMP := Lib.hid (HM.out.below HB2.out).isMaps
      have HRR := Lib.hid (HRW.out.butM hBM HMP.out)
      have HWR := Lib.hid (show w2.heap.size + 1 ≤ wr.heap.size by have := (Array.getElem?_eq_some_iff.1 hg3).1; omega)
      have HN0r := Lib.hid (hBM.box HMP.out HN0'.out)
      have HN1r := Lib.hid (hBM.box HMP.out HN1'.out)
      clear hg3 how hel hMr hBM
      by_cases hik : i < k
      · have hiu : i < U.length := by rw [HKK.out]; exact hik
        obtain ⟨v, hv, hov⟩ := HRR.out.row i hiu
        obtain ⟨a5, c5, rfl⟩ := own_slice hov
        have vcell := HRR.out.cell hv
        have hkn := HKN.out U[i] (List.getElem_mem hiu)
        have hcap := own_cap hov
        have hul : U[i].length ≤ 20 := Nat.le_trans (known_len hkn.1 hkn.2) hAF.few
        obtain ⟨a5', c5', e5, hS5⟩ := sortAt_own hov (fun z hz => by
          have := known_40 hAF.open_ (hkn.1 z hz)
          unfold maxLen; omega) (by omega)
        cases e5
        have hBW : Below W0.heap.size W0 wr := HBW.out.trans ((HB2.out.mono HBW.out.size).trans (HBM.out.toBelow hf hm (Nat.le_trans HBW.out.size HB2.out.size)))
        have hbd : (i + 1) * bnd d ≤ 10 * bnd d := Nat.mul_le_mul_right _ (by omega)
        rw [Nat.add_mul, Nat.one_mul] at hbd
        have HF := Lib.hid (hF _ nf' nm' a5 U[i] c5 wr hBW HMR.out (by omega) (by omega) hS5 hcap hul hkn.1)
        obtain ⟨V, hV⟩ : ∃ V, U[i] = V := ⟨_, rfl⟩
        rw [hV] at HF vcell
        have HV := Lib.hid hV
        obtain ⟨c0, c1, c2, c3, c4, c5', c6, c7, c8⟩ := box9 HN0r.out
        have hwrap : IntKind.i64.wrap (((d + 1 : Nat) : Int) - 1) = (d : Int) := by simp [IntKind.wrap, IntKind.bits, IntKind.signed]; omega
        clear hv hov hkn hcap hul hS5 hBW hbd hV
        go_wp2_with fail
        refine HF.out.mono ?_
        rintro e w4 ⟨hB4, ⟨nf2, nm2, hnf2, hnm2, hM4⟩, p, n, q, xa, ya, xn, xc, yn, yc, ok, rfl, hres⟩
        have hMP4 := HMR.out.isMaps
        have HG4 := Lib.hid (hB4.box hMP4 HG3.out)
        have HO4 := Lib.hid (hB4.own hMP4 HOW.out)
        have HN1q := Lib.hid (hB4.box hMP4 HN1r.out)
        have HOL := Lib.hid (fun q e => HOW.out.lt q e)
        have hsub : ∀ b, (Apart S w.heap.size (w2.heap.size + 1) (Value.slice aa' i ac').ownBlock b ∨ wr.heap.size ≤ b) → b < w4.heap.size → Apart S w.heap.size (w2.heap.size + 1) (Value.slice aa' i ac').ownBlock b := fun b h _ => by
          rcases h with h | h
          · exact h
          · exact .inr ⟨by have := HWR.out; omega, fun e => by have := HOL.out b e; omega⟩
        have HM4 := Lib.hid (hM4.keep rfl rfl (SameIn.refl _ _) hsub)
        have HSUB := Lib.hid hsub
        have HSAME := Lib.hid (hB4.same hMP4 (Apart S w.heap.size (w2.heap.size + 1) (Value.slice aa' i ac').ownBlock))
        have HBM4 := Lib.hid (HBM.out.trans hB4)
        have HNF := Lib.hid (show nf2 ≤ nf + (i + 1) * bnd d by rw [Nat.add_mul, Nat.one_mul]; omega)
        have HNM := Lib.hid (show nm2 ≤ nm + (i + 1) * bnd d by rw [Nat.add_mul, Nat.one_mul]; omega)
        have HI10 := Lib.hid (show (i + 1) * bnd d ≤ 10 * bnd d from Nat.mul_le_mul_right _ (by omega))
        have HW24 := Lib.hid (show w2.heap.size + 1 ≤ w4.heap.size by have := HWR.out; have := hB4.size; omega)
        have HW4 := Lib.hid (show w.heap.size ≤ w4.heap.size by have := HW24.out; have := HG.out; omega)
        clear hM4 hsub hMP4 hnf2 hnm2 hB4 c0 c1 c2 c3 c4 c5' c6 c7 c8 vcell hwrap
        rcases hres with ⟨rfl, hrep⟩ | ⟨rfl, hno⟩
        · have HREP := Lib.hid (hrep.mono HSUB.out)
          have b5 : Below w4.heap.size w4 (w4.alloc (.cells #[.int .i64 p, .string n, .int .i64 q, .slice xa xn xc, .slice ya yn yc] 50)) := (Below.refl _ _).alloc (Nat.le_refl _) _
          have hz5 : (w4.alloc (.cells #[.int .i64 p, .string n, .int .i64 q, .slice xa xn xc, .slice ya yn yc] 50)).heap.size = w4.heap.size + 1 := by simp
          have hg5 := (b5.block w2.heap.size (by have := HW24.out; omega)).trans HG4.out
          have ho5 := own_later HO4.out b5
          have hn5 := heap_alloc_new w4 (.cells #[.int .i64 p, .string n, .int .i64 q, .slice xa xn xc, .slice ya yn yc] 50)
          obtain ⟨g0, g1, g2, g3, g4, gf⟩ := cells5 hg5
          obtain ⟨h0, h1, h2, h3, h4, _⟩ := cells5 hn5
          have HB5 := Lib.hid b5
          have HZ5 := Lib.hid hz5
          have HG5 := Lib.hid hg5
          have HO5 := Lib.hid ho5
          clear hrep b5 hz5 hg5 ho5 hn5 gf
          have hc6 := cell_five_new (w4.alloc (.cells #[.int .i64 p, .string n, .int .i64 q, .slice xa xn xc, .slice ya yn yc] 50)) (.int .i64 p) (.string n) (.int .i64 q) (.slice xa xn xc) (.slice ya yn yc) 50
          rw [HZ5.out] at hc6
          have HC6 := Lib.hid hc6
          have b6 : Below w4.heap.size w4 ((w4.alloc (.cells #[.int .i64 p, .string n, .int .i64 q, .slice xa xn xc, .slice ya yn yc] 50)).alloc (.cells #[.int .i64 p, .string n, .int .i64 q, .slice xa xn xc, .slice ya yn yc] 50)) := HB5.out.alloc HB5.out.size _
          have HB6 := Lib.hid b6
          have HO6 := Lib.hid (HO5.out.alloc (.cells #[.int .i64 p, .string n, .int .i64 q, .slice xa xn xc, .slice ya yn yc] 50))
          have HZ6 := Lib.hid (show ((w4.alloc (.cells #[.int .i64 p, .string n, .int .i64 q, .slice xa xn xc, .slice ya yn yc] 50)).alloc (.cells #[.int .i64 p, .string n, .int .i64 q, .slice xa xn xc, .slice ya yn yc] 50)).heap.size = w4.heap.size + 2 by simp)
          have hg6 := (b6.block w2.heap.size (by have := HW24.out; omega)).trans HG4.out
          have HG6 := Lib.hid hg6
          clear hc6 b6 hg6
          go_wp2_with (at_builtin; refine wpList_append_own_at _ rfl _ _ 48 rfl (w2.heap.size + 1) 50 i50 zeroT 5 80 Try.underlying48 hi50 hx0 hx1 hxb rfl (by decide) (.slice aa' i ac') i xs rfl HO6.out ⟨w4.heap.size + 1, 0, none⟩ 1 1 [.int .i64 p, .string n, .int .i64 q, .slice xa xn xc, .slice ya yn yc] rfl rfl HC6.out (by simp [Value.oneCell']) (by unfold maxLen; omega) (by omega) (by have := HZ6.out; have := HW24.out; omega) ?_; intro v7 w7 hown7 hgrow7 _ hob7; obtain ⟨a7, c7, rfl⟩ := own_slice hown7; have hg7 := (hgrow7.block w2.heap.size (by have := HZ6.out; have := HW24.out; omega) (fun e => by have := (HO6.out.lt _ e.symm).1; omega)).trans HG6.out; obtain ⟨k0', k1, k2, k3, k4, kf⟩ := cells5 hg7; have kf4 := kf 4; have HG7 := Lib.hid hg7; have HO7 := Lib.hid hown7; have HGR := Lib.hid hgrow7; have HOB := Lib.hid hob7; clear hg7 hown7 hgrow7 hob7 kf)
          have hsz7 : w4.heap.size + 2 ≤ w7.heap.size := by have := HGR.out.size; rw [HZ6.out] at this; exact this
          have hne7 : ∀ q, (Value.slice a7 (i + 1) c7).ownBlock = some q → q ≠ w2.heap.size := fun q e => by have := (HO7.out.lt q e).1; omega
          have hsame8 : SameIn (Apart S w.heap.size (w2.heap.size + 1) (Value.slice aa' i ac').ownBlock) w4 (w7.setCell ⟨w2.heap.size, 4, none⟩ (.slice a7 (i + 1) c7)) := by
            intro b hb hlb hnm
            have e1 : ((w4.alloc (.cells #[.int .i64 p, .string n, .int .i64 q, .slice xa xn xc, .slice ya yn yc] 50)).alloc (.cells #[.int .i64 p, .string n, .int .i64 q, .slice xa xn xc, .slice ya yn yc] 50)).heap[b]? = w4.heap[b]? := HB6.out.block b hlb
            have e2 : w7.heap[b]? = ((w4.alloc (.cells #[.int .i64 p, .string n, .int .i64 q, .slice xa xn xc, .slice ya yn yc] 50)).alloc (.cells #[.int .i64 p, .string n, .int .i64 q, .slice xa xn xc, .slice ya yn yc] 50)).heap[b]? := HGR.out.block b (by have := HZ6.out; omega) (fun e => by
              rcases hb with ⟨_, h⟩ | ⟨_, h⟩
              · have := (HO6.out.lt b e.symm).1; have := HG.out; omega
              · exact h e.symm)
            rw [Below.heap_setCell _ _ _ _ (show b ≠ w2.heap.size from apart_ne hb (by have := HG.out; omega) (by omega)), e2, e1]
          have hsub8 : ∀ b, Apart S w.heap.size (w2.heap.size + 1) (Value.slice aa' i ac').ownBlock b → b < w4.heap.size → Apart S w.heap.size (w2.heap.size + 1) (Value.slice a7 (i + 1) c7).ownBlock b := fun b hb hlb => by
            rcases hb with h | ⟨h1, h2⟩
            · exact .inl h
            · refine .inr ⟨h1, fun e => ?_⟩
              rcases HOB.out with e' | e'
              · exact h2 (by rw [← e', e])
              · rw [e'] at e
                have := Option.some.inj e
                rw [HZ6.out] at this
                omega
          have hb8 : Below w2.heap.size w4 (w7.setCell ⟨w2.heap.size, 4, none⟩ (.slice a7 (i + 1) c7)) := (((HB6.out.mono (show w2.heap.size ≤ w4.heap.size by have := HW24.out; omega)).grown HGR.out (by have := HZ6.out; have := HW24.out; omega) (fun q e => by have := (HO6.out.lt q e).1; omega))).setCell (p := ⟨w2.heap.size, 4, none⟩) (Nat.le_refl _) _
          have hxl : xs.length = i * 5 := HOW.out.1
          have HM8 := Lib.hid (HM4.out.after (S' := Apart S w.heap.size (w2.heap.size + 1) (Value.slice a7 (i + 1) c7).ownBlock) hb8 (by have := HFM.out.1; have := HG.out; omega) (by have := HFM.out.2; have := HG.out; omega) hsame8 hsub8)
          have HR8 := Lib.hid (HREP.out.keep hsame8 hsub8)
          have HE8 := Lib.hid (show ∀ j (h : j < U.length), j < i → ∃ v0 v1 v2 v3 v4, xs[j * 5]? = some v0 ∧ xs[j * 5 + 1]? = some v1 ∧ xs[j * 5 + 2]? = some v2 ∧ xs[j * 5 + 3]? = some v3 ∧ xs[j * 5 + 4]? = some v4 ∧ Rep cs ts l (Apart S w.heap.size (w2.heap.size + 1) (Value.slice a7 (i + 1) c7).ownBlock) (w7.setCell ⟨w2.heap.size, 4, none⟩ (.slice a7 (i + 1) c7)) d U[j] (.agg #[v0, v1, v2, v3, v4]) from fun j h hj => by
            obtain ⟨v0, v1, v2, v3, v4, q0, q1, q2, q3, q4, hr⟩ := HEL.out j h hj
            exact ⟨v0, v1, v2, v3, v4, q0, q1, q2, q3, q4, (hr.keep HSAME.out fun b hb _ => hb).keep hsame8 hsub8⟩)
          have HO8 := Lib.hid (own_same HO7.out (W' := w7.setCell ⟨w2.heap.size, 4, none⟩ (.slice a7 (i + 1) c7)) fun q e => Below.heap_setCell _ _ _ _ (hne7 q e))
          have HG8 := Lib.hid (show (w7.setCell ⟨w2.heap.size, 4, none⟩ (.slice a7 (i + 1) c7)).heap[w2.heap.size]? = some (.cells #[.int .i64 1, .string name, .int .i64 0, .slice none 0 0, .slice a7 (i + 1) c7] 50 (0, 0)) from Go.heap_setCell_same _ _ 4 _ 50 _ HG7.out)
          have HB8 := Lib.hid (HBM4.out.after hb8 (Nat.le_refl _))
          clear hsame8 hsub8 hb8 hne7 hsz7
          refine ⟨⟨i + 1, a7, c7, nf2, nm2, _, by simp only [Int.natCast_add, Int.natCast_one], by omega, HG8.out, HO8.out, fun j hj hji => ?_, HNF.out, HNM.out, HM8.out, HB8.out⟩, ?_⟩
          · by_cases e : j = i
            · subst e
              refine ⟨_, _, _, _, _, ?_, ?_, ?_, ?_, ?_, by rw [HV.out]; exact HR8.out⟩ <;> (rw [List.getElem?_append_right (by omega), hxl]; simp [Nat.add_sub_cancel_left])
            · obtain ⟨v0, v1, v2, v3, v4, q0, q1, q2, q3, q4, hr⟩ := HE8.out j hj (by omega)
              refine ⟨v0, v1, v2, v3, v4, ?_, ?_, ?_, ?_, ?_, hr⟩ <;> (rw [List.getElem?_append_left (by omega)]; assumption)
          · show k - ((i : Int) + 1).toNat < k - ((i : Nat) : Int).toNat
            omega
        · have HNO := Lib.hid (show ¬ OkAt cs ts l d name s from fun h => hno (h.2 V (by rw [HU.out, ← HV.out]; exact List.getElem_mem hiu)))
          have b5 : Below w4.heap.size w4 (w4.alloc (.cells #[.int .i64 p, .string n, .int .i64 q, .slice xa xn xc, .slice ya yn yc] 50)) := (Below.refl _ _).alloc (Nat.le_refl _) _
          have hn5 := (b5.block (w.heap.size + 1) (by have := HW24.out; have := HG.out; omega)).trans HN1q.out
          obtain ⟨e0, e1, e2, e3, e4, ef⟩ := cells5 hn5
          have ef0 := ef 0
          have ef1 := ef 1
          have ef2 := ef 2
          have ef3 := ef 3
          have ef4 := ef 4
          have HN5 := Lib.hid hn5
          have HB5 := Lib.hid (b5.mono HW4.out)
          have HSM := Lib.hid (SameIn.below (S := Apart S w.heap.size (w2.heap.size + 1) (Value.slice aa' i ac').ownBlock) b5)
          clear hno ef hn5 b5
          go_wp2_with fail
          have hfin := store5_below HB5.out (w.heap.size + 1) (by omega) (.int .i64 0) (.string ⟨#[]⟩) (.int .i64 0) (.slice none 0 0) (.slice none 0 0)
          refine ret_ct rfl rfl rfl (store5_block HN5.out _ _ _ _ _) ⟨((ButM.below HB2.out).trans HBM4.out).after hfin (Nat.le_refl _), ⟨nf2, nm2, by have := HNF.out; have := HI10.out; omega, by have := HNM.out; have := HI10.out; omega, HM4.out.after hfin HFM.out.1 HFM.out.2 ?_ fun b h _ => apart_sub (by have := HG.out; omega) b h⟩, _, _, _, _, _, _, _, _, _, false, rfl, .inr ⟨rfl, HNO.out⟩⟩
          refine HSM.out.trans (fun b hb _ _ => store5_other _ _ _ (apart_ne hb (by omega) (by have := HG.out; omega)) _ _ _ _ _) HB5.out.size
      · have hie : i = k := by omega
        subst hie
        obtain ⟨g0, g1, g2, g3, g4, _⟩ := cells5 HG3.out
        obtain ⟨e0, e1, e2, e3, e4, ef⟩ := cells5 HN1r.out
        have ef0 := ef 0
        have ef1 := ef 1
        have ef2 := ef 2
        have ef3 := ef 3
        have ef4 := ef 4
        clear ef
        go_wp2_with fail
        have hwr : w2.heap.size ≤ wr.heap.size := by have := HWR.out; omega
        have hfin := store5_below (Below.refl w.heap.size wr) (w.heap.size + 1) (by omega) (.int .i64 1) (.string name) (.int .i64 0) (.slice none 0 0) (.slice aa' i ac')
        have hsm : SameIn (Apart S w.heap.size (w2.heap.size + 1) (Value.slice aa' i ac').ownBlock) wr (store5 wr (w.heap.size + 1) (.int .i64 1) (.string name) (.int .i64 0) (.slice none 0 0) (.slice aa' i ac')) := fun b hb _ _ => store5_other _ _ _ (apart_ne hb (by omega) (by have := HG.out; omega)) _ _ _ _ _
        have hsb : ∀ b, Apart S w.heap.size (w2.heap.size + 1) (Value.slice aa' i ac').ownBlock b → b < wr.heap.size → S b ∨ w.heap.size ≤ b := fun b h _ => apart_sub (by have := HG.out; omega) b h
        have hmul : i * bnd d ≤ 10 * bnd d := Nat.mul_le_mul_right _ hk10
        refine ret_ct rfl rfl rfl (store5_block HN1r.out _ _ _ _ _) ⟨((ButM.below HB2.out).trans HBM.out).after hfin (Nat.le_refl _), ⟨nf', nm', by omega, by omega, HMR.out.after hfin HFM.out.1 HFM.out.2 hsm hsb⟩, _, _, _, _, _, _, _, _, _, true, rfl, .inl ⟨rfl, ⟨HCAN.out, fun u hu => ?_⟩, ?_⟩⟩
        · rw [HU.out] at hu
          obtain ⟨j, hj, rfl⟩ := List.getElem_of_mem hu
          obtain ⟨v0, v1, v2, v3, v4, q0, q1, q2, q3, q4, hr⟩ := HEL.out j hj (by rw [← HKK.out]; exact hj)
          exact hr.gr
        · rw [HU.out]
          refine ⟨aa', 0, ac', own_plain HOW.out, by rw [HKK.out], fun j hj => ?_⟩
          have hji : j < i := by rw [← HKK.out]; exact hj
          obtain ⟨v0, v1, v2, v3, v4, q0, q1, q2, q3, q4, hr⟩ := HEL.out j hj hji
          obtain ⟨g, rfl, hg1, hg2⟩ := own_some HOW.out (show 0 < i by omega)
          have hst : ∀ o, (store5 wr (w.heap.size + 1) (.int .i64 1) (.string name) (.int .i64 0) (.slice none 0 0) (.slice (some ⟨g, 0, none⟩) i ac')).cell? ⟨g, o, none⟩ = wr.cell? ⟨g, o, none⟩ := fun o => cell_block (p := ⟨g, o, none⟩) (store5_other _ _ _ (show g ≠ w.heap.size + 1 by have := HG.out; omega) _ _ _ _ _)
          have hce : ∀ o, o < i * 5 → wr.cell? ⟨g, o, none⟩ = xs[o]? := fun o ho => HOW.out.cellAt o ho
          refine ⟨g, 0, v0, v1, v2, v3, v4, Or.inr (show w.heap.size ≤ g by have := HG.out; omega), rfl, ?_, ?_, ?_, ?_, ?_, hr.keep hsm hsb⟩
          · exact (hst _).trans ((hce _ (by omega)).trans (by rw [Nat.zero_add]; exact q0))
          · exact (hst _).trans ((hce _ (by omega)).trans (by rw [Nat.zero_add]; exact q1))
          · exact (hst _).trans ((hce _ (by omega)).trans (by rw [Nat.zero_add]; exact q2))
          · exact (hst _).trans ((hce _ (by omega)).trans (by rw [Nat.zero_add]; exact q3))
          · exact (hst _).trans ((hce _ (by omega)).trans (by rw [Nat.zero_add]; exact q4))
end
end Go.Proofs.Ytlaibimdkamcfaa
