import Derived.Test.YtlaibimdkamcfaaJ4
import Derived.Test.YtlaibimdkamcfaaK3
section
/-
  Algebra.Args.
-/
namespace Go.Proofs.Ytlaibimdkamcfaa
open Go.RowKit Go.Maps Go.WideMaps

/-- What Args answers. -/
def ArgsOut (cs : List Cls) (ts : List TD) (l : List Ari) (name : ByteArray) (s : List ByteArray) (B : Nat) (e : Ending) (w' : World) : Prop :=
  (name ∉ tnames ts ∧ e = .returned (.tuple #[.slice none 0 0, .int .i64 9])) ∨
  (name ∈ tnames ts ∧ sortErr (knownB cs) s ≠ 0 ∧ e = .returned (.tuple #[.slice none 0 0, .int .i64 (sortErr (knownB cs) s)])) ∨
  (name ∈ tnames ts ∧ sortErr (knownB cs) s = 0 ∧ ¬ (∀ c, c ∈ s → (name, c) ∈ l.map pairOf) ∧ e = .returned (.tuple #[.slice none 0 0, .int .i64 14])) ∨
  (name ∈ tnames ts ∧ sortErr (knownB cs) s = 0 ∧ (∀ c, c ∈ s → (name, c) ∈ l.map pairOf) ∧ ∃ (R : Nat) (U : List (List ByteArray)) (vals : List Value), RowsAt w' B R U vals ∧ (U.length : Int) = (tdAt ts (tIdx ts name)).arity ∧
    (∀ i (h : i < U.length), IsNormalOf ltS (belowB cs) (needU l name s i) U[i]) ∧
    (((∃ (i : Nat) (h : i < U.length), 20 < U[i].length) ∧ e = .returned (.tuple #[.slice none 0 0, .int .i64 5])) ∨
     ((∀ i (h : i < U.length), U[i].length ≤ 20) ∧ e = .returned (.tuple #[.slice (some ⟨R, 0, none⟩) U.length U.length, .int .i64 0]))))

theorem RowsAt.mono' {W : World} {B B' R : Nat} {U : List (List ByteArray)} {vals : List Value} (h : RowsAt W B R U vals) (hb : B' ≤ B) : RowsAt W B' R U vals :=
  ⟨h.len, h.box, Nat.le_trans hb h.base, fun j hj => (by obtain ⟨v, h1, h2⟩ := h.row j hj; exact ⟨v, h1, own_base h2 hb⟩), h.apart⟩

/-- What is the Normal for the Normal is it for the sort. -/
theorem normal_over {B : ByteArray → ByteArray → Bool} {x y r : List ByteArray} (h : IsNormalOf ltS B y r) (e : ∀ c, IsLeast B x c ↔ IsLeast B y c) : IsNormalOf ltS B x r := by
  have h2 := leastFrom_normal B x
  have : r = leastFrom B x [] x := h.unique ltS_irr ltS_trans h2 fun c => (e c).symm
  rw [this]
  exact h2

set_option maxRecDepth 100000 in
set_option maxHeartbeats 8000000 in
theorem args_any (A : Alg) (na ua aa t4 sa : Option Addr) (nl nc ul uc bc tl t4c mb nm ab mt nt ms np sc : Nat) (D Dt Dp : DataW Unit) (cs : List Cls) (ts : List TD) (l : List Ari) (name : ByteArray) (s : List ByteArray) (w : World) (h : AlgAt A w mb nm ab 0 D) (haa : 0 < A.n → aa = some ⟨ab, 0, none⟩) (hm : mb < w.heap.size) (ha : ab < w.heap.size)
    (hkn : A.known = knownB cs) (hbe : A.below = belowB cs) (ht : TakesAt ts ts.length mt nt Dt w) (hp : PlacesAt l ms np Dp w) (hO : openErr cs = 0) (hT : typesErr ts = 0) (hAr : arisErr cs ts l = 0) (hR : regularB cs l = true) (hz : name.size ≤ maxLen) (hs : SortAt w sa s) (hl : s.length ≤ 9223372036854775807) :
    Calls Try.prog 54 #[.agg #[.slice na nl nc, .map (some mb), .slice ua ul uc, .slice aa A.n bc, .slice t4 tl t4c, .map (some mt), .map (some ms)], .string name, .slice sa s.length sc] w fun e w' => Below w.heap.size w w' ∧ ArgsOut cs ts l name s w.heap.size e w' := by
  have hb0 : Below w.heap.size w (w.alloc (.cells #[.slice na nl nc, .map (some mb), .slice ua ul uc, .slice aa A.n bc, .slice t4 tl t4c, .map (some mt), .map (some ms)] 70)) := (Below.refl _ w).alloc (Nat.le_refl _) _
  have HC0 := Lib.hid (heap_alloc_new w (.cells #[.slice na nl nc, .map (some mb), .slice ua ul uc, .slice aa A.n bc, .slice t4 tl t4c, .map (some mt), .map (some ms)] 70))
  have HS1 := Lib.hid (show (w.alloc (.cells #[.slice na nl nc, .map (some mb), .slice ua ul uc, .slice aa A.n bc, .slice t4 tl t4c, .map (some mt), .map (some ms)] 70)).heap.size = w.heap.size + 1 by simp)
  have HB1 := Lib.hid hb0
  have HA := Lib.hid (h.below hb0 hm ha)
  have HAA := Lib.hid haa
  have HT := Lib.hid (ht.below hb0)
  have HP := Lib.hid (hp.below hb0)
  have HX := Lib.hid (hs.later hb0)
  have HK := Lib.hid hkn
  have HBE := Lib.hid hbe
  have HTE := Lib.hid hT
  have HAR := Lib.hid hAr
  have HO := Lib.hid hO
  have HRG := Lib.hid hR
  have HZ := Lib.hid hz
  have hmw := Nat.lt_of_lt_of_le hm hb0.size
  have haw := Nat.lt_of_lt_of_le ha hb0.size
  clear hb0 h haa ht hp hs hkn hbe hT hAr hz hO hR
  go_enter Try.func54, Try.ntmps54
  obtain ⟨w1, hw1⟩ : ∃ q, w.alloc (.cells #[.slice na nl nc, .map (some mb), .slice ua ul uc, .slice aa A.n bc, .slice t4 tl t4c, .map (some mt), .map (some ms)] 70) = q := ⟨_, rfl⟩
  rw [hw1] at HC0 HS1 HB1 HA HT HP HX hmw haw
  have HW1 := Lib.hid hw1
  obtain ⟨c, hlk, _⟩ := takes_look HT.out name HZ.out
  have hth := takes_has HT.out name
  obtain ⟨H, hH⟩ : ∃ H, Maps.has Dt (.string name.data.toList) = H := ⟨_, rfl⟩
  rw [hH] at hlk hth
  have HTH := Lib.hid hth
  rw [← hw1] at hlk
  obtain ⟨g0, g1, g2, g3, g4, g5, g6, _⟩ := box7 HC0.out
  rw [← hw1] at g0 g1 g2 g3 g4 g5 g6
  clear hH hth hw1
  cases H with
  | false =>
    have HNO := Lib.hid (show name ∉ tnames ts from fun hh => by have := HTH.out.2 hh; cases this)
    go_wp2_with fail
    rw [HW1.out]
    go_ret2
    exact ⟨HB1.out, .inl ⟨HNO.out, rfl⟩⟩
  | true =>
    have HTY := Lib.hid (HTH.out.1 rfl)
    obtain ⟨xb, xo, x1, x2, x3⟩ := HX.out
    go_wp2_with fail
    rw [HW1.out]
    refine (normal_any A na ua aa t4 nl nc ul uc bc tl t4c mb nm ab 0 (some mt) (some ms) D xb xo sc sa s w1 HA.out HAA.out hmw haw x1 x2 hl).mono ?_
    rw [HK.out, HBE.out]
    rintro e w2 ⟨(⟨hE, rfl⟩ | ⟨hE, v, r, rfl, hN, ho⟩), hb2⟩
    · obtain ⟨E, hEE⟩ : ∃ E, sortErr (knownB cs) s = E := ⟨_, rfl⟩
      rw [hEE] at hE ⊢
      have q1 : (E == 0) = false := by simpa using hE
      have q2 : (E != 0) = true := by simpa using hE
      have HNE := Lib.hid hE
      have HEE := Lib.hid hEE
      have HB2 := Lib.hid (HB1.out.trans (hb2.mono HB1.out.size))
      clear hE hEE hb2 hlk g0 g1 g2 g3 g4 g5 g6
      go_wp2_with fail
      go_ret2
      exact ⟨HB2.out, .inr (.inl ⟨HTY.out, by rw [HEE.out]; exact HNE.out, by rw [HEE.out]; rfl⟩)⟩
    · have HE := Lib.hid hE
      have HN := Lib.hid hN
      have hk := sortErr_zero hE
      have hr20 : r.length ≤ 20 := Nat.le_trans hN.len hk.1
      have HSK := Lib.hid (show ∀ c, c ∈ s → knownB cs c = true from hk.2)
      obtain ⟨va, vc, rfl, hS⟩ := sortAt_own ho (fun z hz => HX.out.size z ((hN.mem z).1 hz).1) (by omega)
      have HB12 := Lib.hid hb2
      have HB2 := Lib.hid (HB1.out.trans (hb2.mono HB1.out.size))
      have hbx : w2.heap[w.heap.size]? = some (.cells #[.slice na nl nc, .map (some mb), .slice ua ul uc, .slice aa A.n bc, .slice t4 tl t4c, .map (some mt), .map (some ms)] 70 (0, 0)) := (hb2.block w.heap.size (by rw [HS1.out]; omega)).trans HC0.out
      have HSO := Lib.hid (sorts_any A na ua aa t4 va nl nc ul uc bc tl t4c mb nm ab mt nt ms np vc D Dt Dp cs ts l name r w2 (HA.out.below hb2 hmw haw) HAA.out (Nat.lt_of_lt_of_le hmw hb2.size) (Nat.lt_of_lt_of_le haw hb2.size) HK.out HBE.out (HT.out.below hb2) (HP.out.below hb2) HTE.out HAR.out HZ.out hS hr20)
      clear hE hN hk hb2 ho hS hlk g0 g1 g2 g3 g4 g5 g6
      obtain ⟨g0, g1, g2, g3, g4, g5, g6, _⟩ := box7 hbx
      clear hbx
      go_wp2_with fail
      refine HSO.out.mono ?_
      rintro e w3 ⟨hb3, (⟨hno, rfl⟩ | ⟨_, hall, R, U, vals, rfl, hRW, hUL, hUN⟩)⟩
      · have HB3 := Lib.hid (HB2.out.trans (hb3.mono HB2.out.size))
        have HNO := Lib.hid (show ¬ (∀ c, c ∈ s → (name, c) ∈ l.map pairOf) from fun hh => hno ⟨HTY.out, (have_normal HO.out HAR.out HRG.out HN.out HSK.out).2 hh⟩)
        clear hno hb3 g0 g1 g2 g3 g4 g5 g6
        go_wp2_with fail
        go_ret2
        exact ⟨HB3.out, .inr (.inr (.inl ⟨HTY.out, HE.out, HNO.out, rfl⟩))⟩
      · have HB3 := Lib.hid (HB2.out.trans (hb3.mono HB2.out.size))
        have hall' := (have_normal HO.out HAR.out HRG.out HN.out HSK.out).1 hall
        have HALL := Lib.hid hall'
        have HUN := Lib.hid (show ∀ i (h : i < U.length), IsNormalOf ltS (belowB cs) (needU l name s i) U[i] from fun i h => normal_over (hUN i h) (need_normal HO.out HAR.out HRG.out HN.out HSK.out hall' (by rw [← hUL]; omega)))
        have HRW := Lib.hid hRW
        have HUL := Lib.hid hUL
        clear hb3 hall hall' hRW hUL hUN g0 g1 g2 g3 g4 g5 g6
        have htl := tIdx_lt HTY.out
        have h010 := types_arity HTE.out htl
        rw [← tdAt_eq htl, ← HUL.out] at h010
        have hu10 : U.length ≤ 10 := by omega
        have HOUT := Lib.hid (HRW.out.mono' (show w.heap.size ≤ w2.heap.size + 1 by have := HB2.out.size; omega))
        clear htl h010
        go_wp2_with fail
        go_loopw [45] (fun t wr => ∃ j : Nat, t = .int .i64 j ∧ j ≤ U.length ∧ (∀ q (h : q < U.length), q < j → U[q].length ≤ 20) ∧ wr = w3) (fun t _ => U.length - (intOf t).toNat)
        case atStart => exact ⟨0, rfl, Nat.zero_le _, fun q h hq => by omega, rfl⟩
        case round =>
          obtain ⟨j, rfl, hj, hL, rfl⟩ := hrel
          have HL := Lib.hid hL
          clear hL
          by_cases hjk : j < U.length
          · obtain ⟨v, hv, hov⟩ := HRW.out.row j hjk
            obtain ⟨a5, c5, rfl⟩ := own_slice hov
            have vc := HRW.out.cell hv
            obtain ⟨L5, hL5⟩ : ∃ L5, U[j].length = L5 := ⟨_, rfl⟩
            rw [hL5] at vc
            have HL5 := Lib.hid hL5
            clear hov hv hL5
            by_cases h20 : 20 < L5
            · go_wp2_with fail
              go_ret2
              exact ⟨HB3.out, .inr (.inr (.inr ⟨HTY.out, HE.out, HALL.out, R, U, vals, HOUT.out, HUL.out, HUN.out, .inl ⟨⟨j, hjk, by rw [HL5.out]; exact h20⟩, rfl⟩⟩))⟩
            · go_wp2_with fail
              refine ⟨⟨j + 1, by simp only [Int.natCast_add, Int.natCast_one], by omega, fun q h hq => ?_, trivial⟩, ?_⟩
              · by_cases e : q = j
                · subst e; rw [HL5.out]; omega
                · exact HL.out q h (by omega)
              · show U.length - ((j : Int) + 1).toNat < U.length - ((j : Nat) : Int).toNat
                omega
          · go_wp2_with fail
            go_ret2
            exact ⟨HB3.out, .inr (.inr (.inr ⟨HTY.out, HE.out, HALL.out, R, U, vals, HOUT.out, HUL.out, HUN.out, .inr ⟨fun i h => HL.out i h (by omega), rfl⟩⟩))⟩
end Go.Proofs.Ytlaibimdkamcfaa
end

section
/-
  Ground: types in boxes; what a call may turn; what is asked of the algebra.
-/
namespace Go.Proofs.Ytlaibimdkamcfaa
open Go.RowKit Go.Maps Go.WideMaps

/-! ### A type in a box -/
theorem cells5 {W : World} {g : Nat} {a0 a1 a2 a3 a4 : Value} {t : TypeId} (h : W.heap[g]? = some (.cells #[a0, a1, a2, a3, a4] t (0, 0))) :
    W.cell? ⟨g, 0, none⟩ = some a0 ∧ W.cell? ⟨g, 1, none⟩ = some a1 ∧ W.cell? ⟨g, 2, none⟩ = some a2 ∧ W.cell? ⟨g, 3, none⟩ = some a3 ∧ W.cell? ⟨g, 4, none⟩ = some a4 ∧ ∀ k, W.frozen? ⟨g, k, none⟩ = false := by
  refine ⟨?_, ?_, ?_, ?_, ?_, fun k => Lib.frozen_of_heap h k⟩ <;> (rw [Lib.cell_of_heap h]; rfl)

def store5 (W : World) (g : Nat) (v0 v1 v2 v3 v4 : Value) : World := ((((W.setCell ⟨g, 0, none⟩ v0).setCell ⟨g, 1, none⟩ v1).setCell ⟨g, 2, none⟩ v2).setCell ⟨g, 3, none⟩ v3).setCell ⟨g, 4, none⟩ v4

theorem store5_block {W : World} {g : Nat} {a0 a1 a2 a3 a4 : Value} (h : W.heap[g]? = some (.cells #[a0, a1, a2, a3, a4] 50 (0, 0))) (v0 v1 v2 v3 v4 : Value) :
    (store5 W g v0 v1 v2 v3 v4).heap[g]? = some (.cells #[v0, v1, v2, v3, v4] 50 (0, 0)) := by
  have h0 := Go.heap_setCell_same W g 0 _ 50 v0 h
  have h1 := Go.heap_setCell_same _ g 1 _ 50 v1 h0
  have h2 := Go.heap_setCell_same _ g 2 _ 50 v2 h1
  have h3 := Go.heap_setCell_same _ g 3 _ 50 v3 h2
  have h4 := Go.heap_setCell_same _ g 4 _ 50 v4 h3
  exact h4
theorem store5_other (W : World) (g b : Nat) (hb : b ≠ g) (v0 v1 v2 v3 v4 : Value) : (store5 W g v0 v1 v2 v3 v4).heap[b]? = W.heap[b]? := by
  unfold store5
  rw [Below.heap_setCell _ _ _ _ hb, Below.heap_setCell _ _ _ _ hb, Below.heap_setCell _ _ _ _ hb, Below.heap_setCell _ _ _ _ hb, Below.heap_setCell _ _ _ _ hb]
theorem store5_below {B : Nat} {A W : World} (h : Below B A W) (g : Nat) (hg : B ≤ g) (v0 v1 v2 v3 v4 : Value) : Below B A (store5 W g v0 v1 v2 v3 v4) :=
  ((((h.setCell (p := ⟨g, 0, none⟩) hg v0).setCell (p := ⟨g, 1, none⟩) hg v1).setCell (p := ⟨g, 2, none⟩) hg v2).setCell (p := ⟨g, 3, none⟩) hg v3).setCell (p := ⟨g, 4, none⟩) hg v4
theorem store5_size (W : World) (g : Nat) (v0 v1 v2 v3 v4 : Value) : W.heap.size ≤ (store5 W g v0 v1 v2 v3 v4).heap.size := (store5_below (Below.refl 0 W) g (Nat.zero_le _) v0 v1 v2 v3 v4).size

theorem ret_ct {F : Func} {p q : Tmp} (hF : F.results = #[.cell p 50, .tmp q]) {T : Ending → World → Prop} {tmps : Array Value} {W : World} {g : Nat} {a0 a1 a2 a3 a4 v3 : Value} (h2 : tmps.getD p undef = .pointer (some ⟨g, 0, none⟩)) (h3 : tmps.getD q undef = v3)
    (hg : W.heap[g]? = some (.cells #[a0, a1, a2, a3, a4] 50 (0, 0))) (hT : T (.returned (.tuple #[.agg #[a0, a1, a2, a3, a4], v3])) W) : bodyPost Try.prog F T Exit.ret { tmps := tmps, defers := [] } W :=
  bodyPost_ret (results_ct hF tmps W ⟨g, 0, none⟩ _ h2 (run_loadVar_row W g 50 50 _ _ _ hg Try.underlying50 rfl (by kernel_rfl))) rfl (by rw [h3]; exact hT)

/-! ### What a call of Ground's may turn: both maps -/
structure ButM (f m : Nat) (w w' : World) : Prop where
  os : w'.os = w.os
  tape : w'.tape = w.tape
  output : w'.output = w.output
  size : w.heap.size ≤ w'.heap.size
  block : ∀ k, k < w.heap.size → k ≠ f → k ≠ m → w'.heap[k]? = w.heap[k]?

section
variable {f m : Nat}
theorem ButM.below {w w' : World} (h : Below w.heap.size w w') : ButM f m w w' := ⟨h.os, h.tape, h.output, h.size, fun k hk _ _ => h.block k hk⟩
theorem ButM.trans {a b c : World} (h : ButM f m a b) (k : ButM f m b c) : ButM f m a c :=
  ⟨k.os.trans h.os, k.tape.trans h.tape, k.output.trans h.output, Nat.le_trans h.size k.size, fun q hq h1 h2 => (k.block q (Nat.lt_of_lt_of_le hq h.size) h1 h2).trans (h.block q hq h1 h2)⟩
theorem ButM.later {a b c : World} (h : ButM f m a b) (k : Below b.heap.size b c) : ButM f m a c := h.trans (ButM.below k)
theorem ButM.toBelow {B : Nat} {a b : World} (h : ButM f m a b) (hf : B ≤ f) (hm : B ≤ m) (hB : B ≤ a.heap.size) : Below B a b :=
  ⟨h.os, h.tape, h.output, h.size, fun k hk => h.block k (by omega) (by omega) (by omega)⟩
/-- Behind a step that turns new blocks alone. -/
theorem ButM.after {B : Nat} {a b c : World} (h : ButM f m a b) (k : Below B b c) (hB : a.heap.size ≤ B) : ButM f m a c :=
  ⟨k.os.trans h.os, k.tape.trans h.tape, k.output.trans h.output, Nat.le_trans h.size k.size, fun q hq h1 h2 => (k.block q (by omega)).trans (h.block q hq h1 h2)⟩
theorem ButM.grownF {a b : World} (hg : a.grownBy b (some f)) : ButM f m a b := ⟨hg.os, hg.tape, hg.output, hg.size, fun k hk h1 _ => hg.block k hk (fun e => by cases e; exact h1 rfl)⟩
theorem ButM.grownM {a b : World} (hg : a.grownBy b (some m)) : ButM f m a b := ⟨hg.os, hg.tape, hg.output, hg.size, fun k hk _ h1 => hg.block k hk (fun e => by cases e; exact h1 rfl)⟩
theorem ButM.refl (a : World) : ButM f m a a := ButM.below (Below.refl _ _)

def IsMaps (f m : Nat) (w : World) : Prop := (∃ es k, w.heap[f]? = some (.map es k)) ∧ ∃ es k, w.heap[m]? = some (.map es k)

theorem ButM.keepsCells {a b : World} (h : ButM f m a b) (hm : IsMaps f m a) : KeepsCells a b := ⟨h.size, fun p v hp => by
  obtain ⟨⟨es, k, h1⟩, ⟨es', k', h2⟩⟩ := hm
  rw [← hp]
  exact cell_block (h.block p.block (lt_of_cell hp) (cell_noMap hp h1) (cell_noMap hp h2))⟩
theorem ButM.same {a b : World} (h : ButM f m a b) (hm : IsMaps f m a) (S : Nat → Prop) : SameIn S a b := fun k _ hk hn => by
  obtain ⟨⟨es, c, h1⟩, ⟨es', c', h2⟩⟩ := hm
  exact h.block k hk (fun e => by subst e; exact hn _ _ h1) (fun e => by subst e; exact hn _ _ h2)
theorem ButM.box {a b : World} (h : ButM f m a b) (hm : IsMaps f m a) {g : Nat} {c : Array Value} {t : TypeId} {fr : Nat × Nat} (hg : a.heap[g]? = some (.cells c t fr)) : b.heap[g]? = some (.cells c t fr) := by
  obtain ⟨⟨es, k, h1⟩, ⟨es', k', h2⟩⟩ := hm
  exact (h.block g (Array.getElem?_eq_some_iff.1 hg).1 (fun e => by subst e; rw [h1] at hg; cases hg) (fun e => by subst e; rw [h2] at hg; cases hg)).trans hg
theorem ButM.own {a b : World} (h : ButM f m a b) (hm : IsMaps f m a) {B e k n : Nat} {v : Value} {xs : List Value} (ho : a.ownsRow B e k v n xs) : b.ownsRow B e k v n xs := by
  refine ⟨ho.1, ?_⟩
  rcases ho.2 with h0 | ⟨g, cap, cur, hv, hb, hg, rest⟩
  · exact .inl h0
  · exact .inr ⟨g, cap, cur, hv, hb, h.box hm hg, rest⟩
end

/-- What Ground asks of the algebra: Sorts by its contract; the type constructors where they lie. -/
structure AF (cs : List Cls) (ts : List TD) (l : List Ari) (na ua aa t4 : Option Addr) (nl nc ul uc al bc t4c mb mt ms : Nat) (W0 : World) : Prop where
  sorts : ∀ (W : World) (name : ByteArray) (sa : Option Addr) (s : List ByteArray) (sc : Nat), Below W0.heap.size W0 W → name.size ≤ maxLen → SortAt W sa s → s.length ≤ 20 →
    Calls Try.prog 78 #[.agg #[.slice na nl nc, .map (some mb), .slice ua ul uc, .slice aa al bc, .slice t4 ts.length t4c, .map (some mt), .map (some ms)], .string name, .slice sa s.length sc] W fun e w' => Below W.heap.size W w' ∧
      ((¬ CanU ts l name s ∧ e = .returned (.tuple #[.slice none 0 0, .bool false])) ∨
       (CanU ts l name s ∧ ∃ (R : Nat) (vals : List Value), e = .returned (.tuple #[.slice (some ⟨R, 0, none⟩) (argsU cs ts l name s).length (argsU cs ts l name s).length, .bool true]) ∧ RowsAt w' (W.heap.size + 1) R (argsU cs ts l name s) vals))
  tys : ∀ i (h : i < ts.length), ∃ b4, t4 = some ⟨b4, 0, none⟩ ∧ b4 < W0.heap.size ∧ W0.cell? ⟨b4, i * 2, none⟩ = some (.string ts[i].name) ∧ W0.cell? ⟨b4, i * 2 + 1, none⟩ = some (.int .i64 ts[i].arity) ∧ ts[i].name.size ≤ maxLen
  open_ : openErr cs = 0
  types : typesErr ts = 0
  aris : arisErr cs ts l = 0
  few : cs.length ≤ 20

/-- How often the maps are written to a depth. -/
def bnd : Nat → Nat
  | 0 => 0
  | d + 1 => 1 + 3000 * bnd d

def FirstOK (cs : List Cls) (ts : List TD) (l : List Ari) (na ua aa t4 : Option Addr) (nl nc ul uc al bc t4c mb mt ms f m : Nat) (W0 : World) (d : Nat) : Prop :=
  ∀ (S : Nat → Prop) (nf nm : Nat) (sa : Option Addr) (s : List ByteArray) (sc : Nat) (w : World), Below W0.heap.size W0 w → Memo cs ts l S f m nf nm w → nf + bnd d ≤ 4611686018427387904 → nm + bnd d ≤ 4611686018427387904 → SortAt w sa s → s.length ≤ sc → s.length ≤ 20 → (∀ c, c ∈ s → knownB cs c = true) →
    Calls Try.prog 57 #[.agg #[.slice na nl nc, .map (some mb), .slice ua ul uc, .slice aa al bc, .slice t4 ts.length t4c, .map (some mt), .map (some ms), .map (some f), .map (some m)], .slice sa s.length sc, .int .i64 d] w fun e w' => ButM f m w w' ∧
      (∃ nf' nm', nf' ≤ nf + bnd d ∧ nm' ≤ nm + bnd d ∧ Memo cs ts l (fun b => S b ∨ w.heap.size ≤ b) f m nf' nm' w') ∧
      ∃ (p : Int) (n : ByteArray) (q : Int) (xa ya : Option Addr) (xn xc yn yc : Nat) (ok : Bool), e = .returned (.tuple #[.agg #[.int .i64 p, .string n, .int .i64 q, .slice xa xn xc, .slice ya yn yc], .bool ok]) ∧
        ((ok = true ∧ Rep cs ts l (fun b => S b ∨ w.heap.size ≤ b) w' d s (.agg #[.int .i64 p, .string n, .int .i64 q, .slice xa xn xc, .slice ya yn yc])) ∨ (ok = false ∧ ¬ Gr cs ts l d s))

def AppliedOK (cs : List Cls) (ts : List TD) (l : List Ari) (na ua aa t4 : Option Addr) (nl nc ul uc al bc t4c mb mt ms f m : Nat) (W0 : World) (d : Nat) : Prop :=
  ∀ (S : Nat → Prop) (nf nm : Nat) (name : ByteArray) (sa : Option Addr) (s : List ByteArray) (sc : Nat) (w : World), Below W0.heap.size W0 w → Memo cs ts l S f m nf nm w → nf + 10 * bnd d ≤ 4611686018427387904 → nm + 10 * bnd d ≤ 4611686018427387904 → name.size ≤ maxLen → SortAt w sa s → s.length ≤ 20 → (∀ c, c ∈ s → knownB cs c = true) →
    Calls Try.prog 80 #[.agg #[.slice na nl nc, .map (some mb), .slice ua ul uc, .slice aa al bc, .slice t4 ts.length t4c, .map (some mt), .map (some ms), .map (some f), .map (some m)], .string name, .slice sa s.length sc, .int .i64 ((d + 1 : Nat) : Int)] w fun e w' => ButM f m w w' ∧
      (∃ nf' nm', nf' ≤ nf + 10 * bnd d ∧ nm' ≤ nm + 10 * bnd d ∧ Memo cs ts l (fun b => S b ∨ w.heap.size ≤ b) f m nf' nm' w') ∧
      ∃ (p : Int) (n : ByteArray) (q : Int) (xa ya : Option Addr) (xn xc yn yc : Nat) (ok : Bool), e = .returned (.tuple #[.agg #[.int .i64 p, .string n, .int .i64 q, .slice xa xn xc, .slice ya yn yc], .bool ok]) ∧
        ((ok = true ∧ OkAt cs ts l d name s ∧ RepC (fun b => S b ∨ w.heap.size ≤ b) w' (Rep cs ts l (fun b => S b ∨ w.heap.size ≤ b) w' d) name (argsU cs ts l name s) (.agg #[.int .i64 p, .string n, .int .i64 q, .slice xa xn xc, .slice ya yn yc])) ∨ (ok = false ∧ ¬ OkAt cs ts l d name s))
end Go.Proofs.Ytlaibimdkamcfaa
end

