import Derived.Test.YtlaibimdkamcfaaB3
import Derived.Test.YtlaibimdkamcfaaB6
import Derived.Outline
import Derived.RangeFuncFrom
import Derived.RangeFuncLeaves
import Derived.Laws.Rows
import Derived.Lib.Builder
import Derived.Laws.AppendOwn
section
/-
  Algebra.classError: the error of a class behind others.
-/
namespace Go.Proofs.Ytlaibimdkamcfaa
open Go.RowKit Go.Maps

theorem size_nat {s : ByteArray} (h : s.size ≤ maxLen) : s.size ≤ 9223372036854775807 := by unfold maxLen at h; omega

/-- The cells of an algebra, as a block. -/
def algCells (na ua ba ta : Option Addr) (nl nc ul uc bl bc tl tc mb : Nat) (tm sm : Option Nat) : Array Value := #[.slice na nl nc, .map (some mb), .slice ua ul uc, .slice ba bl bc, .slice ta tl tc, .map tm, .map sm]

theorem alg_cells {W : World} {g : Nat} {na ua ba ta : Option Addr} {nl nc ul uc bl bc tl tc mb : Nat} {tm sm : Option Nat}
    (c1 : W.heap[g]? = some (.cells #[.slice na nl nc, .map (some mb), .slice ua ul uc, .slice ba bl bc, .slice ta tl tc, .map tm, .map sm] 70 (0, 0))) :
    W.cell? ⟨g, 0, none⟩ = some (.slice na nl nc) ∧ W.cell? ⟨g, 1, none⟩ = some (.map (some mb)) ∧ W.cell? ⟨g, 2, none⟩ = some (.slice ua ul uc) ∧ W.cell? ⟨g, 3, none⟩ = some (.slice ba bl bc) ∧ W.cell? ⟨g, 4, none⟩ = some (.slice ta tl tc) ∧ W.cell? ⟨g, 5, none⟩ = some (.map tm) ∧ W.cell? ⟨g, 6, none⟩ = some (.map sm) := by
  refine ⟨?_, ?_, ?_, ?_, ?_, ?_, ?_⟩ <;> simp [World.cell?, c1]

theorem map_below {W W' : World} {mb n B : Nat} {D : DataW Unit} (hm : W.ownsMap Try.prog 9 (plainElem (H := Unit) Try.prog 3) mb n D) (hb : Below B W W') (hmb : mb < B) : W'.ownsMap Try.prog 9 (plainElem (H := Unit) Try.prog 3) mb n D := by
  obtain ⟨es, clock, h1, h2⟩ := hm
  exact ⟨es, clock, (hb.block mb hmb).trans h1, h2⟩

theorem supErr_first (pre l : List ByteArray) (i : Nat) (hi : i < l.length) (hz : ∀ j, j < i → supErr pre l j = 0) (e : Int) (he : supErr pre l i = e) (h0 : e ≠ 0) : firstErr l.length (supErr pre l) = e := by
  rw [firstErr_at hi hz (by rw [he]; exact h0), he]

set_option maxRecDepth 100000 in
set_option maxHeartbeats 2000000 in
theorem classError_any (na ua ba ta sa : Option Addr) (nl nc ul uc bl bc tl tc mb n sb so sc : Nat) (tm sm : Option Nat) (D : DataW Unit) (pre : List ByteArray) (K : ByteArray → Bool) (c : Cls) (w : World) (hm : w.ownsMap Try.prog 9 (plainElem (H := Unit) Try.prog 3) mb n D) (hmb : mb < w.heap.size)
    (hh : ∀ s : ByteArray, Maps.has D (.string s.data.toList) = K s) (hK : ∀ s, K s = true ↔ s ∈ pre) (hn : c.name.size ≤ maxLen) (hsa : c.sups ≠ [] → sa = some ⟨sb, so, none⟩) (hs : StrsAt w sb so c.sups) (hl : c.sups.length ≤ maxLen) :
    Calls Try.prog 67 #[.agg #[.slice na nl nc, .map (some mb), .slice ua ul uc, .slice ba bl bc, .slice ta tl tc, .map tm, .map sm], .agg #[.string c.name, .slice sa c.sups.length sc]] w fun e w' => e = .returned (.int .i64 (clsErr pre c)) ∧ Below w.heap.size w w' := by
  have HN := Lib.hid (name_any c.name)
  have HS := Lib.hid hs
  have HSA := Lib.hid hsa
  have HM := Lib.hid hm
  have HH := Lib.hid hh
  have HK := Lib.hid hK
  obtain ⟨E, hE⟩ : ∃ E, clsErr pre c = E := ⟨_, rfl⟩
  rw [hE]
  unfold clsErr at hE
  clear hs hsa hm hh hK
  have hn' := size_nat hn
  obtain ⟨nm, hnm⟩ : ∃ nm, c.name = nm := ⟨_, rfl⟩
  rw [hnm] at hn hn' HN hE ⊢
  obtain ⟨l, hll⟩ : ∃ l, c.sups = l := ⟨_, rfl⟩
  rw [hll] at hl HS HSA hE ⊢
  clear hnm hll
  go_enter Try.func67, Try.ntmps67
  have hb0 : Below w.heap.size w ((w.alloc (.cells #[.slice na nl nc, .map (some mb), .slice ua ul uc, .slice ba bl bc, .slice ta tl tc, .map tm, .map sm] 70)).alloc (.cells #[.string nm, .slice sa l.length sc] 60)) := ((Below.refl _ w).alloc (Nat.le_refl _) _).alloc (by simp) _
  have hc0 : ((w.alloc (.cells #[.slice na nl nc, .map (some mb), .slice ua ul uc, .slice ba bl bc, .slice ta tl tc, .map tm, .map sm] 70)).alloc (.cells #[.string nm, .slice sa l.length sc] 60)).heap[w.heap.size]? = some (.cells #[.slice na nl nc, .map (some mb), .slice ua ul uc, .slice ba bl bc, .slice ta tl tc, .map tm, .map sm] 70 (0, 0)) := by rw [Below.heap_alloc _ _ _ (by simp)]; exact heap_alloc_new w _
  have hc1 : ((w.alloc (.cells #[.slice na nl nc, .map (some mb), .slice ua ul uc, .slice ba bl bc, .slice ta tl tc, .map tm, .map sm] 70)).alloc (.cells #[.string nm, .slice sa l.length sc] 60)).heap[w.heap.size + 1]? = some (.cells #[.string nm, .slice sa l.length sc] 60 (0, 0)) := Go.heap_alloc2_new w _ _
  have hs0 : w.heap.size + 1 < ((w.alloc (.cells #[.slice na nl nc, .map (some mb), .slice ua ul uc, .slice ba bl bc, .slice ta tl tc, .map tm, .map sm] 70)).alloc (.cells #[.string nm, .slice sa l.length sc] 60)).heap.size := by simp
  obtain ⟨w1, hw1⟩ : ∃ q, (w.alloc (.cells #[.slice na nl nc, .map (some mb), .slice ua ul uc, .slice ba bl bc, .slice ta tl tc, .map tm, .map sm] 70)).alloc (.cells #[.string nm, .slice sa l.length sc] 60) = q := ⟨_, rfl⟩
  rw [hw1] at hb0 hc0 hc1 hs0
  have HW1 := Lib.hid hw1
  have HB0 := Lib.hid hb0
  have HC0 := Lib.hid hc0
  have HC1 := Lib.hid hc1
  have HS0 := Lib.hid hs0
  clear hb0 hc0 hc1 hs0 hw1
  have HHas := Lib.hid (hasClass_any na ua ba ta nl nc ul uc bl bc tl tc mb n tm sm D nm w1 (map_below HM.out HB0.out hmb) hn)
  rw [HH.out nm] at HHas
  obtain ⟨d0, d1, d2, d3, d4, d5, d6⟩ := alg_cells HC0.out
  have e0 : w1.cell? ⟨w.heap.size + 1, 0, none⟩ = some (.string nm) := by simp [World.cell?, HC1.out]
  have e1 : w1.cell? ⟨w.heap.size + 1, 1, none⟩ = some (.slice sa l.length sc) := by simp [World.cell?, HC1.out]
  have HNw := Lib.hid (HN.out w1 hn')
  clear HN
  cases hnb : nameB nm with
  | false =>
    rw [hnb, if_neg (by decide)] at hE
    rw [hnb] at HNw
    subst hE
    go_wp2_with fail
    rw [HW1.out]
    refine HNw.out.mono ?_
    rintro e w' ⟨rfl, rfl⟩
    clear hnb
    go_wp2_with fail
    go_ret
    exact ⟨rfl, HB0.out⟩
  | true =>
    rw [hnb, if_pos rfl] at hE
    rw [hnb] at HNw
    clear hnb
    go_wp2_with fail
    rw [HW1.out]
    refine HNw.out.mono ?_
    rintro e w' ⟨rfl, rfl⟩
    cases hkn : K nm with
    | true =>
      rw [if_pos ((HK.out nm).1 hkn)] at hE
      subst hE
      rw [hkn] at HHas
      clear hkn
      go_wp2_with fail
      refine HHas.out.mono ?_
      rintro e w' ⟨rfl, hb'⟩
      go_wp2_with fail
      go_ret
      exact ⟨rfl, HB0.out.trans (hb'.mono HB0.out.size)⟩
    | false =>
      rw [if_neg (by rw [← HK.out nm, hkn]; decide)] at hE
      rw [hkn] at HHas
      clear hkn
      go_wp2_with fail
      refine HHas.out.mono ?_
      rintro e w2 ⟨rfl, hb'⟩
      have HB2 := Lib.hid hb'
      have g0 := (hb'.cell (p := ⟨w.heap.size, 0, none⟩) (by have := HS0.out; show w.heap.size < _; omega)).trans d0
      have g1 := (hb'.cell (p := ⟨w.heap.size, 1, none⟩) (by have := HS0.out; show w.heap.size < _; omega)).trans d1
      have g2 := (hb'.cell (p := ⟨w.heap.size, 2, none⟩) (by have := HS0.out; show w.heap.size < _; omega)).trans d2
      have g3 := (hb'.cell (p := ⟨w.heap.size, 3, none⟩) (by have := HS0.out; show w.heap.size < _; omega)).trans d3
      have g4 := (hb'.cell (p := ⟨w.heap.size, 4, none⟩) (by have := HS0.out; show w.heap.size < _; omega)).trans d4
      have g5 := (hb'.cell (p := ⟨w.heap.size, 5, none⟩) (by have := HS0.out; show w.heap.size < _; omega)).trans d5
      have g6 := (hb'.cell (p := ⟨w.heap.size, 6, none⟩) (by have := HS0.out; show w.heap.size < _; omega)).trans d6
      have f1 := (hb'.cell (p := ⟨w.heap.size + 1, 1, none⟩) HS0.out).trans e1
      clear d0 d1 d2 d3 d4 d5 d6 e0 e1 hb'
      by_cases h20 : 20 < l.length
      · rw [if_pos h20] at hE
        subst hE
        go_wp2_with fail
        go_ret
        exact ⟨rfl, HB0.out.trans (HB2.out.mono HB0.out.size)⟩
      · rw [if_neg h20] at hE
        go_wp2_with fail
        have HE := Lib.hid hE
        clear hE
        have HG := Lib.hid (And.intro g0 (And.intro g1 (And.intro g2 (And.intro g3 (And.intro g4 (And.intro g5 (And.intro g6 f1)))))))
        have HB02 := Lib.hid (HB0.out.trans (HB2.out.mono HB0.out.size))
        have HSZ := Lib.hid (Nat.lt_of_lt_of_le HS0.out HB2.out.size)
        obtain ⟨ga, hga⟩ : ∃ q, w.heap.size = q := ⟨_, rfl⟩
        rw [hga] at HG HSZ ⊢
        have HGA := Lib.hid hga
        clear hga g0 g1 g2 g3 g4 g5 g6 f1
        go_loopw [22] (fun t wr => ∃ i : Nat, t = .int .i64 i ∧ i ≤ l.length ∧ (∀ j, j < i → supErr pre l j = 0) ∧ Below w2.heap.size w2 wr) (fun t _ => l.length - (intOf t).toNat)
        case atStart => exact ⟨0, rfl, Nat.zero_le _, fun j hj => by omega, Below.refl _ _⟩
        case round =>
          obtain ⟨i, rfl, hi, hp, hb⟩ := hrel
          have HP := Lib.hid hp
          clear hp
          have HBr := Lib.hid hb
          have HBw := Lib.hid (HB02.out.trans (hb.mono HB02.out.size))
          clear hb
          by_cases hlt : i < l.length
          · have e := HSA.out (by intro e; subst e; simp at hlt)
            subst e
            have hc := (HS.out.later HBw.out).cell i hlt
            have hsz := HS.out.size i hlt
            have hz := HSZ.out
            have g0 := (HBr.out.cell (p := ⟨ga, 0, none⟩) (by show ga < _; omega)).trans HG.out.1
            have g1 := (HBr.out.cell (p := ⟨ga, 1, none⟩) (by show ga < _; omega)).trans HG.out.2.1
            have g2 := (HBr.out.cell (p := ⟨ga, 2, none⟩) (by show ga < _; omega)).trans HG.out.2.2.1
            have g3 := (HBr.out.cell (p := ⟨ga, 3, none⟩) (by show ga < _; omega)).trans HG.out.2.2.2.1
            have g4 := (HBr.out.cell (p := ⟨ga, 4, none⟩) (by show ga < _; omega)).trans HG.out.2.2.2.2.1
            have g5 := (HBr.out.cell (p := ⟨ga, 5, none⟩) (by show ga < _; omega)).trans HG.out.2.2.2.2.2.1
            have g6 := (HBr.out.cell (p := ⟨ga, 6, none⟩) (by show ga < _; omega)).trans HG.out.2.2.2.2.2.2.1
            have f1 := (HBr.out.cell (p := ⟨ga + 1, 1, none⟩) hz).trans HG.out.2.2.2.2.2.2.2
            have HHs := Lib.hid (hasClass_any na ua ba ta nl nc ul uc bl bc tl tc mb n tm sm D l[i] wr (map_below HM.out HBw.out hmb) hsz)
            rw [HH.out l[i]] at HHs
            have hwr : wrap64 ((i : Int) + 1) = ((i + 1 : Nat) : Int) := by
              simp only [maxLen] at hl
              unfold wrap64
              omega
            have HWR := Lib.hid hwr
            clear hwr
            have HAt := Lib.hid (strAt_eq hlt)
            have HKi := Lib.hid (HK.out l[i])
            cases hki : K l[i] with
            | false =>
              rw [hki] at HHs HKi
              have he : supErr pre l i = 9 := by unfold supErr; rw [HAt.out, if_neg (fun h => by have := HKi.out.2 h; cases this)]
              have hE := HE.out
              rw [supErr_first pre l i hlt HP.out 9 he (by decide)] at hE
              subst hE
              clear he hki
              go_wp2_with fail
              refine HHs.out.mono ?_
              rintro e W' ⟨rfl, hb'⟩
              go_wp2_with fail
              go_ret
              exact ⟨rfl, HBw.out.trans (hb'.mono HBw.out.size)⟩
            | true =>
              rw [hki] at HHs HKi
              have hmem := Lib.hid (HKi.out.1 rfl)
              clear hki
              go_wp2_with fail
              refine HHs.out.mono ?_
              rintro e W' ⟨rfl, hb'⟩
              have HB' := Lib.hid hb'
              have q1 := (hb'.cell (p := ⟨ga + 1, 1, none⟩) (Nat.lt_of_lt_of_le hz HBr.out.size)).trans f1
              clear g0 g1 g2 g3 g4 g5 g6 f1 hz
              cases i with
              | zero =>
                clear hb' hc
                have he : supErr pre l 0 = 0 := by unfold supErr; rw [if_pos (by rw [HAt.out]; exact hmem.out), if_neg (by omega)]
                have HE0 := Lib.hid he
                clear he
                go_wp2_with fail
                have HWR1 := HWR.out
                simp only [Nat.zero_add] at HWR1
                refine ⟨⟨1, by rfl, by omega, fun j hj => by (obtain rfl : j = 0 := by omega); exact HE0.out, HBr.out.trans (HB'.out.mono HBr.out.size)⟩, ?_⟩
                show l.length - ((1 : Int)).toNat < l.length - 0
                omega
              | succ k =>
                have hk : k < l.length := by omega
                have HAk := Lib.hid (strAt_eq hk)
                have hq : W'.cell? ⟨sb, so + k, none⟩ = some (.string l[k]) := (HS.out.later (HBw.out.trans (HB'.out.mono HBw.out.size))).cell k hk
                clear hb' hc
                have hbl := bytesLess_ltS l[k] l[k + 1]
                cases hbb : Op.bytesLess l[k].toList l[k + 1].toList with
                | true =>
                  have he : supErr pre l (k + 1) = 0 := by
                    unfold supErr
                    rw [if_pos (by rw [HAt.out]; exact hmem.out), Nat.add_sub_cancel, HAt.out, HAk.out, if_neg]
                    rintro ⟨_, hn⟩
                    exact hn (hbl.1 hbb)
                  have HE0 := Lib.hid he
                  clear he hbl
                  go_wp2_with fail
                  refine ⟨⟨k + 1 + 1, by simp only [Int.natCast_add, Int.natCast_one], by omega, fun j hj => by (by_cases e : j = k + 1; (subst e; exact HE0.out); exact HP.out j (by omega)), HBr.out.trans (HB'.out.mono HBr.out.size)⟩, ?_⟩
                  show l.length - ((k : Int) + 1 + 1).toNat < l.length - ((k + 1 : Nat) : Int).toNat
                  omega
                | false =>
                  have he : supErr pre l (k + 1) = 17 := by
                    unfold supErr
                    rw [if_pos (by rw [HAt.out]; exact hmem.out), Nat.add_sub_cancel, HAt.out, HAk.out, if_pos]
                    exact ⟨by omega, fun h => by have := hbl.2 h; rw [hbb] at this; cases this⟩
                  have hE := HE.out
                  rw [supErr_first pre l (k + 1) hlt HP.out 17 he (by decide)] at hE
                  subst hE
                  clear he hbl
                  go_wp2_with fail
                  go_ret
                  exact ⟨rfl, HBw.out.trans (HB'.out.mono HBw.out.size)⟩
          · have ht : i = l.length := by omega
            have hE := HE.out
            rw [firstErr_zero.2 (fun j hj => HP.out j (by omega))] at hE
            subst hE
            clear ht
            go_wp2_with fail
            go_ret
            exact ⟨rfl, HBw.out⟩
end Go.Proofs.Ytlaibimdkamcfaa
end

section
/-
  A range over a function whose iterator keeps its state in cells of its own: the iterator may write whatever it has made since its call began; the caller's words speak of what lay before.
-/
namespace Go.Proofs.Ytlaibimdkamcfaa
open Go.RowKit

variable {F : Fence} {n : Nat} {P : Program}

/-- A word on the world that stands whatever turns from block B on. -/
def Firm {β : Type} (B : Nat) (J : β → World → Prop) : Prop := ∀ s A A', J s A → Below B A A' → J s A'

/-- The iterator's contract: where each round keeps Kp, all of S come, or the rounds end it at one of Sp. -/
def SeqB {α : Type} (F : Fence) (n : Nat) (P : Program) (g : Nat) (lb : Array Value) (encs : α → Array Value) (Kp : World → World → Prop) (S Sp : List α → Prop) (N : Nat) (w : World) : Prop :=
  ∀ (l : Nat) (J Jx : List α → World → Prop) (W : World), Below w.heap.size w W → Firm W.heap.size J → Firm W.heap.size Jx →
    (∀ pre x W1, J pre W1 → pre.length < N → YieldAt F (n - 1) P l (encs x) W1 fun e W' =>
      (e = .returned (.bool true) ∧ J (pre ++ [x]) W' ∧ Kp W1 W') ∨ (e = .returned (.bool false) ∧ Jx (pre ++ [x]) W')) →
    J [] W →
    CallsIn F n P g (#[.func (.yield l) #[] #[]] ++ lb) W fun e W' => (∃ v, e = .returned v) ∧ ((∃ xs, S xs ∧ J xs W') ∨ (∃ pre, Sp pre ∧ Jx pre W'))

theorem below_put {m l : Nat} {W : World} {o o' : Obj} (hl : W.heap[l]? = some o) (h : m ≤ l) : Below m W (W.putObj l o') :=
  (Below.refl m W).grown (grownBy_putObj' W l o') (by have := (Array.getElem?_eq_some_iff.1 hl).1; omega) (fun k e => by cases e; exact h)

/-- The loop: its records lie at w.heap.size (the calls that a round defers) and behind it (the loop's own); what the caller says is firm from there on. -/
theorem range_cells {α : Type} {g : Operand} {ps : Array Tmp} {assign body : Code} {Q : Exit → Act → World → Prop} {a : Act} {w : World}
    (hro : F.round = none) (h1 : 1 ≤ n) {gf : Nat} {lb : Array Value} (hg : a.eval g = .func (.func gf) #[] lb) (hFg : F.fn gf) (eg : ∀ args w, (callFunc gf args).run P w = .ok (.enter gf args) w)
    {encs : α → Array Value} {Kp : World → World → Prop} {S Sp : List α → Prop} {N : Nat} {w0 : World} (hseq : SeqB F (n - 1) P gf lb encs Kp S Sp N w0)
    (hKt : ∀ {A B C : World}, Kp A B → Kp B C → Kp A C) (hKb : ∀ (W : World) (l : Nat) (o o' : Obj), w.heap.size ≤ l → W.heap[l]? = some o → o.isCells = false → Kp W (W.putObj l o'))
    (hb0 : Below w0.heap.size w0 w) (hps : ∀ x, (encs x).size = ps.size)
    (I : List α → World → Prop) (Ix : Code → List α → World → Prop) (hI : Firm w.heap.size I) (hIx : ∀ c, Firm w.heap.size (Ix c)) (h0 : I [] w) (a₁ : α → Act)
    (hassign : ∀ (l : Nat) (x : α) (W : World) (K : Act → World → Prop), K (a₁ x) W →
      assign.wpIn (F.inRound l) (n - 1 - 1) P (Exit.then K (fun _ _ _ => False)) { tmps := (ps.zip (encs x)).foldl (fun t (p, v) => t.setIfInBounds p v) a.tmps, defers := [] } W)
    (hbody : ∀ (l : Nat) (pre : List α) (x : α) (W : World), I pre W → pre.length < N → body.wpIn (F.inRound l) (n - 1 - 1) P (ownPostK Kp I Ix (pre ++ [x]) W) (a₁ x) W)
    (hdone : ∀ (D : Nat) (xs : List α) (W : World), w.heap.size ≤ D → S xs → I xs W → W.heap[D]? = some (.deferred (some [])) → Q .normal { a with defers := { target := .collected D, args := #[] } :: a.defers } W)
    (hstop : ∀ (D : Nat) (c : Code) (pre : List α) (W : World), w.heap.size ≤ D → Sp pre → Ix c pre W → W.heap[D]? = some (.deferred (some [])) → c.wpIn F n P Q { a with defers := { target := .collected D, args := #[] } :: a.defers } W) :
    (Code.rangeFunc g ps assign body).wpIn F n P Q a w := by
  refine wpIn_rangeFunc fun fn hfn => ?_
  rw [hro]
  -- the records
  let rec0 : LoopState → Option Code → Loop := fun st pe => { state := st, pending := pe, fn, tmps := a.tmps, params := ps, assign, body, defers := w.heap.size }
  obtain ⟨W1, hW1⟩ : ∃ W1, (w.alloc (.deferred (some []))).alloc (.loop (rec0 .ready none)) = W1 := ⟨_, rfl⟩
  have hw1 : Below w.heap.size w W1 := by rw [← hW1]; exact ((Below.refl _ w).alloc (Nat.le_refl _) _).alloc (by simp) _
  have hs1 : W1.heap.size = w.heap.size + 2 := by rw [← hW1]; simp
  have hL1 : W1.heap[w.heap.size + 1]? = some (.loop (rec0 .ready none)) := by
    rw [← hW1]
    have := World.alloc_heap_new (w.alloc (.deferred (some []))) (.loop (rec0 .ready none))
    rwa [World.size_alloc] at this
  have hD1 : W1.heap[w.heap.size]? = some (.deferred (some [])) := by
    rw [← hW1]; exact (Below.heap_alloc _ _ _ (by simp)).trans (World.alloc_heap_new w _)
  refine ⟨w.heap.size + 1, [{ target := .collected w.heap.size, args := #[] }], W1, { target := .fn (.func gf) lb, args := #[.func (.yield (w.heap.size + 1)) #[] #[]] }, W1, gf,
    #[.func (.yield (w.heap.size + 1)) #[] #[]] ++ lb, W1, ?_, ?_, ?_, ?_, fun _ => h1, ?_⟩
  · rw [← hW1]; exact run_enterLoop_outer _ _ _ _ _
  · simp only [resolve, hg]; simp [go_sem]
  · intro f' hf'; simp [Target.leads] at hf'; subst hf'; exact hFg
  · simp [invoke, go_sem, eg]
  -- what stands between two rounds, and behind the last one: the caller's word, the loop's record, the empty list of deferred calls
  refine (hseq (w.heap.size + 1) (fun pre W => I pre W ∧ W.heap[w.heap.size + 1]? = some (.loop (rec0 .ready none)) ∧ W.heap[w.heap.size]? = some (.deferred (some [])))
    (fun pre W => ∃ c, Ix c pre W ∧ W.heap[w.heap.size + 1]? = some (.loop (rec0 .done (some c))) ∧ W.heap[w.heap.size]? = some (.deferred (some [])))
    W1 (hb0.trans (hw1.mono hb0.size)) ?_ ?_ ?_ ⟨hI _ _ _ h0 hw1, hL1, hD1⟩).mono ?_
  · rintro s A A' ⟨hi, hl, hd⟩ hb
    exact ⟨hI _ _ _ hi (hb.mono (by omega)), (hb.block _ (by omega)).trans hl, (hb.block _ (by omega)).trans hd⟩
  · rintro s A A' ⟨c, hi, hl, hd⟩ hb
    exact ⟨c, hIx c _ _ _ hi (hb.mono (by omega)), (hb.block _ (by omega)).trans hl, (hb.block _ (by omega)).trans hd⟩
  · -- a round
    rintro pre x W ⟨hi, hl, hd⟩ hlen
    have hlt : w.heap.size + 1 < W.heap.size := (Array.getElem?_eq_some_iff.1 hl).1
    refine ⟨fn, _, assign, body, run_yield (P := P) (args := encs x) hl (hps x), roundIn_of_wpIn hfn (hassign _ x W _ ⟨_, run_beginRound hl rfl, ?_⟩)⟩
    have hl2 : (W.putObj (w.heap.size + 1) (.loop { rec0 .ready none with state := .busy })).heap[w.heap.size + 1]? = some (.loop { rec0 .ready none with state := .busy }) := World.putObj_heap_same hlt
    have hd2 : (W.putObj (w.heap.size + 1) (.loop { rec0 .ready none with state := .busy })).heap[w.heap.size]? = some (.deferred (some [])) := (World.putObj_heap_other (by omega)).trans hd
    refine wpIn_mono (hbody _ pre x _ (hI _ _ _ hi (below_put hl (by omega))) hlen) ?_
    -- the round's end
    have fin : ∀ (jump : Option Code) (W3 : World), KeepsOthers (W.putObj (w.heap.size + 1) (.loop { rec0 .ready none with state := .busy })) W3 →
        (Instr.endRound (w.heap.size + 1) jump).run P W3 = .ok (.bool jump.isNone) (W3.putObj (w.heap.size + 1) (.loop (rec0 (if jump.isNone then .ready else .done) jump))) ∧
        W3.heap[w.heap.size + 1]? = some (.loop { rec0 .ready none with state := .busy }) ∧
        (W3.putObj (w.heap.size + 1) (.loop (rec0 (if jump.isNone then .ready else .done) jump))).heap[w.heap.size + 1]? = some (.loop (rec0 (if jump.isNone then .ready else .done) jump)) ∧
        (W3.putObj (w.heap.size + 1) (.loop (rec0 (if jump.isNone then .ready else .done) jump))).heap[w.heap.size]? = some (.deferred (some [])) := fun jump W3 hk => by
      have hl3 := hk.same _ _ hl2 rfl
      exact ⟨run_endRound (P := P) jump hl3, hl3, World.putObj_heap_same (Array.getElem?_eq_some_iff.1 hl3).1, (World.putObj_heap_other (by omega)).trans (hk.same _ _ hd2 rfl)⟩
    rintro e a3 W3 hp
    cases e with
    | normal =>
      obtain ⟨hk, hkp, hi3⟩ := hp
      obtain ⟨hr, hl3, hl4, hd4⟩ := fin none W3 hk
      exact ⟨_, _, hr, .inl ⟨rfl, ⟨hI _ _ _ hi3 (below_put hl3 (by omega)), hl4, hd4⟩, hKt (hKt (hKb _ _ _ _ (by omega) hl rfl) hkp) (hKb _ _ _ _ (by omega) hl3 rfl)⟩⟩
    | ret =>
      obtain ⟨hk, hi3⟩ := hp
      obtain ⟨hr, hl3, hl4, hd4⟩ := fin (some .ret) W3 hk
      exact ⟨_, _, hr, .inr ⟨rfl, .ret, hIx _ _ _ _ hi3 (below_put hl3 (by omega)), hl4, hd4⟩⟩
    | exit id =>
      obtain ⟨hk, hi3⟩ := hp
      obtain ⟨hr, hl3, hl4, hd4⟩ := fin (some (.exit id)) W3 hk
      exact ⟨_, _, hr, .inr ⟨rfl, .exit id, hIx _ _ _ _ hi3 (below_put hl3 (by omega)), hl4, hd4⟩⟩
    | goto t =>
      obtain ⟨hk, hi3⟩ := hp
      obtain ⟨hr, hl3, hl4, hd4⟩ := fin (some (.goto t)) W3 hk
      exact ⟨_, _, hr, .inr ⟨rfl, .goto t, hIx _ _ _ _ hi3 (below_put hl3 (by omega)), hl4, hd4⟩⟩
    | panic ch => exact hp.elim
    | outgrown => exact hp.elim
  · rintro e W2 ⟨⟨v, rfl⟩, (⟨xs, hS, hi, hl, hd⟩ | ⟨pre, hSp, c, hi, hl, hd⟩)⟩
    · exact ⟨none, _, run_endLoop (P := P) hl (by simp [rec0]), hdone _ xs _ (Nat.le_refl _) hS (hI _ _ _ hi (below_put hl (by omega))) ((World.putObj_heap_other (by omega)).trans hd)⟩
    · exact ⟨some c, _, run_endLoop (P := P) hl (by simp [rec0]), hstop _ c pre _ (Nat.le_refl _) hSp (hIx c _ _ _ hi (below_put hl (by omega))) ((World.putObj_heap_other (by omega)).trans hd)⟩
end Go.Proofs.Ytlaibimdkamcfaa
end

section
/-
  What an iterator that keeps its state in cells may trust: all cells but one block's; the supers in memory; a set of classes as bits.
-/
namespace Go.Proofs.Ytlaibimdkamcfaa
open Go.RowKit

/-- Whatever is cells, but in block x, lies as it lay. -/
structure KeepsC (x : Nat) (A B : World) : Prop where
  size : A.heap.size ≤ B.heap.size
  same : ∀ (b : Nat) (o : Obj), b ≠ x → A.heap[b]? = some o → o.isCells = true → B.heap[b]? = some o

theorem KeepsC.refl (x : Nat) (A : World) : KeepsC x A A := ⟨Nat.le_refl _, fun _ _ _ h _ => h⟩
theorem KeepsC.trans {x : Nat} {A B C : World} (h : KeepsC x A B) (k : KeepsC x B C) : KeepsC x A C := ⟨Nat.le_trans h.size k.size, fun b o hb ho hc => k.same b o hb (h.same b o hb ho hc) hc⟩
theorem KeepsC.put {x : Nat} (W : World) (l : Nat) (o o' : Obj) (hl : W.heap[l]? = some o) (hc : o.isCells = false) : KeepsC x W (W.putObj l o') := by
  refine ⟨by simp, fun b p _ hb hp => ?_⟩
  by_cases e : b = l
  · subst e; rw [hl] at hb; cases hb; rw [hc] at hp; cases hp
  · exact (World.putObj_heap_other e).trans hb
theorem KeepsC.draw (x : Nat) (A : World) : KeepsC x A A.drew := ⟨Nat.le_refl _, fun _ _ _ h _ => h⟩
theorem KeepsC.store (x : Nat) (A : World) (o : Nat) (v : Value) : KeepsC x A (A.setCell ⟨x, o, none⟩ v) := by
  refine ⟨by simp, fun b p hb ho _ => ?_⟩
  exact (Below.heap_setCell A ⟨x, o, none⟩ v b hb).trans ho

theorem isCells_of_cell {A : World} {b o : Nat} {v : Value} (h : A.cell? ⟨b, o, none⟩ = some v) : ∃ p, A.heap[b]? = some p ∧ p.isCells = true := by
  unfold World.cell? at h
  split at h
  · rename_i e; exact ⟨_, e, rfl⟩
  · simp at h

theorem cell_of_block {A B : World} {b o : Nat} (h : B.heap[b]? = A.heap[b]?) : B.cell? ⟨b, o, none⟩ = A.cell? ⟨b, o, none⟩ := by unfold World.cell?; rw [h]
theorem frozen_of_block {A B : World} {b o : Nat} (h : B.heap[b]? = A.heap[b]?) : B.frozen? ⟨b, o, none⟩ = A.frozen? ⟨b, o, none⟩ := by unfold World.frozen?; rw [h]

theorem KeepsC.block {x : Nat} {A B : World} (h : KeepsC x A B) {b o : Nat} {v : Value} (hb : b ≠ x) (hc : A.cell? ⟨b, o, none⟩ = some v) : B.heap[b]? = A.heap[b]? := by
  obtain ⟨p, hp, hq⟩ := isCells_of_cell hc
  rw [h.same b p hb hp hq, hp]
theorem KeepsC.cell {x : Nat} {A B : World} (h : KeepsC x A B) {b o : Nat} {v : Value} (hb : b ≠ x) (hc : A.cell? ⟨b, o, none⟩ = some v) : B.cell? ⟨b, o, none⟩ = some v := (cell_of_block (h.block hb hc)).trans hc
theorem KeepsC.frozen {x : Nat} {A B : World} (h : KeepsC x A B) {b o : Nat} {v : Value} (hb : b ≠ x) (hc : A.cell? ⟨b, o, none⟩ = some v) : B.frozen? ⟨b, o, none⟩ = A.frozen? ⟨b, o, none⟩ := frozen_of_block (h.block hb hc)
theorem KeepsC.own {x base : Nat} {A B : World} (h : KeepsC x A B) {e size n : Nat} {v : Value} {xs : List Value} (hb : x < base) (hc : A.ownsRow base e size v n xs) : B.ownsRow base e size v n xs := by
  obtain ⟨h1, h2⟩ := hc
  refine ⟨h1, ?_⟩
  rcases h2 with h2 | ⟨g, cap, cur, hv, hg, hh, rest⟩
  · exact .inl h2
  · exact .inr ⟨g, cap, cur, hv, hg, h.same g _ (by omega) hh rfl, rest⟩

/-- What lay in cells when the world was W0, but in block x, lies so. -/
def Held (x : Nat) (W0 A : World) : Prop := W0.heap.size ≤ A.heap.size ∧ ∀ (b : Nat) (o : Obj), b ≠ x → b < W0.heap.size → W0.heap[b]? = some o → o.isCells = true → A.heap[b]? = some o
theorem Held.refl (x : Nat) (W0 : World) : Held x W0 W0 := ⟨Nat.le_refl _, fun _ _ _ _ h _ => h⟩
theorem Held.below {x : Nat} {W0 A B : World} (h : Held x W0 A) (hb : Below W0.heap.size A B) : Held x W0 B := ⟨Nat.le_trans h.1 hb.size, fun b o hx hl ho hc => (hb.block b hl).trans (h.2 b o hx hl ho hc)⟩
theorem Held.keeps {x : Nat} {W0 A B : World} (h : Held x W0 A) (hk : KeepsC x A B) : Held x W0 B := ⟨Nat.le_trans h.1 hk.size, fun b o hx hl ho hc => hk.same b o hx (h.2 b o hx hl ho hc) hc⟩
theorem Held.cell {x : Nat} {W0 A : World} (h : Held x W0 A) {b o : Nat} {v : Value} (hb : b ≠ x) (hl : b < W0.heap.size) (hc : W0.cell? ⟨b, o, none⟩ = some v) : A.cell? ⟨b, o, none⟩ = some v := by
  obtain ⟨p, hp, hq⟩ := isCells_of_cell hc
  exact (cell_of_block ((h.2 b p hb hl hp hq).trans hp.symm)).trans hc

/-- The supers of the first n classes, in memory: a slice of slices of numbers. -/
structure SupAt (sup : Nat → List Nat) (n x B : Nat) (W : World) (sb so : Nat) : Prop where
  blk : 0 < n → sb < B ∧ sb ≠ x
  row : ∀ i, i < n → ∃ (a : Option Addr) (b o c : Nat), W.cell? ⟨sb, so + i, none⟩ = some (.slice a (sup i).length c) ∧ (sup i ≠ [] → a = some ⟨b, o, none⟩ ∧ b < B ∧ b ≠ x) ∧
    ∀ j (h : j < (sup i).length), W.cell? ⟨b, o + j, none⟩ = some (.int .i64 (sup i)[j])

theorem SupAt.held {sup : Nat → List Nat} {n x : Nat} {W A : World} {sb so : Nat} (h : SupAt sup n x W.heap.size W sb so) (hh : Held x W A) : SupAt sup n x W.heap.size A sb so := by
  refine ⟨h.blk, fun i hi => ?_⟩
  obtain ⟨a, b, o, c, h1, h2, h3⟩ := h.row i hi
  have hb := h.blk (by omega)
  refine ⟨a, b, o, c, hh.cell hb.2 hb.1 h1, h2, fun j hj => ?_⟩
  have hn := h2 (by intro e; rw [e] at hj; simp at hj)
  exact hh.cell hn.2.2 hn.2.1 (h3 j hj)

/-- A set of classes: five words, in a block of its own. -/
def SeenAt (sb : Nat) (S : Nat → Bool) (W : World) : Prop :=
  ∃ (cs : Array Value) (f : Nat → Nat), W.heap[sb]? = some (.cells cs 109 (0, 0)) ∧ ∀ k, k < 5 → cs[k]? = some (.int .u64 (f k)) ∧ f k < 18446744073709551616 ∧ ∀ r, r < 64 → (f k).testBit r = S (k * 64 + r)

theorem SeenAt.keeps {x sb : Nat} {S : Nat → Bool} {A B : World} (h : SeenAt sb S A) (hk : KeepsC x A B) (hx : sb ≠ x) : SeenAt sb S B := by
  obtain ⟨cs, f, h1, hf⟩ := h
  exact ⟨cs, f, hk.same sb _ hx h1 rfl, hf⟩

theorem SeenAt.below {sb B : Nat} {S : Nat → Bool} {A A' : World} (h : SeenAt sb S A) (hb : Below B A A') (hx : sb < B) : SeenAt sb S A' := by
  obtain ⟨cs, f, h1, hf⟩ := h
  exact ⟨cs, f, (hb.block sb hx).trans h1, hf⟩

theorem SeenAt.congr {sb : Nat} {S S' : Nat → Bool} {A : World} (h : SeenAt sb S A) (e : ∀ j, S j = S' j) : SeenAt sb S' A := by
  obtain rfl : S = S' := funext e
  exact h

theorem SeenAt.new (A : World) {sb : Nat} (h : A.heap[sb]? = some (.cells #[.int .u64 0, .int .u64 0, .int .u64 0, .int .u64 0, .int .u64 0] 109 (0, 0))) : SeenAt sb (fun _ => false) A :=
  ⟨_, fun _ => 0, h, fun k hk => ⟨match k, hk with | 0, _ => rfl | 1, _ => rfl | 2, _ => rfl | 3, _ => rfl | 4, _ => rfl, by show (0 : Nat) < _; decide, fun r _ => by simp⟩⟩

/-- A row of another type lies elsewhere. -/
theorem SeenAt.apart {sb base e n : Nat} {S : Nat → Bool} {W : World} {v : Value} {xs : List Value} (h : SeenAt sb S W) (he : e ≠ 109) (ho : W.ownsRow base e 1 v n xs) : v.ownBlock ≠ some sb := by
  obtain ⟨cs, f, h1, _⟩ := h
  rcases ho.2 with ⟨rfl, _⟩ | ⟨g, cap, cur, rfl, _, hg, _⟩
  · exact fun h => by cases h
  · intro h
    simp only [Value.ownBlock, Option.some.injEq] at h
    subst h
    rw [h1] at hg
    cases hg
    exact he rfl

theorem SeenAt.grown {sb : Nat} {S : Nat → Bool} {W W' : World} {row : Option Nat} (h : SeenAt sb S W) (hg : W.grownBy W' row) (hr : row ≠ some sb) : SeenAt sb S W' := by
  obtain ⟨cs, f, h1, hf⟩ := h
  exact ⟨cs, f, (hg.block sb (Array.getElem?_eq_some_iff.1 h1).1 (fun e => hr e.symm)).trans h1, hf⟩

/-- The word of a class, and what stands behind one more. -/
theorem SeenAt.word {sb j : Nat} {S : Nat → Bool} {A : World} (h : SeenAt sb S A) (hj : j < 320) :
    ∃ v : Nat, A.cell? ⟨sb, 0 + j / 64, none⟩ = some (.int .u64 v) ∧ A.frozen? ⟨sb, 0 + j / 64, none⟩ = false ∧ v < 18446744073709551616 ∧ v.testBit (j % 64) = S j ∧
      SeenAt sb (fun k => S k || decide (k = j)) (A.setCell ⟨sb, 0 + j / 64, none⟩ (.int .u64 ((v ||| 2 ^ (j % 64) : Nat) : Int))).drew := by
  obtain ⟨cs, f, h0, hf⟩ := h
  obtain ⟨h1, h3, h4⟩ := hf (j / 64) (by omega)
  rw [Nat.zero_add]
  refine ⟨f (j / 64), (Lib.cell_of_heap h0 _).trans h1, Lib.frozen_of_heap h0 _, h3, ?_, _, fun k => if k = j / 64 then f k ||| 2 ^ (j % 64) else f k, Go.heap_setCell_same A sb (j / 64) cs 109 _ h0, fun k hk => ?_⟩
  · rw [h4 _ (by omega)]; congr 1; omega
  · by_cases e : k = j / 64
    · subst e
      simp only [if_true]
      refine ⟨by rw [Array.getElem?_setIfInBounds_self_of_lt (Array.getElem?_eq_some_iff.1 h1).1], ?_, fun r hr => ?_⟩
      · have := Nat.or_lt_two_pow (n := 64) h3 (Nat.pow_lt_pow_right (by decide) (show j % 64 < 64 by omega)); simpa using this
      · rw [Nat.testBit_or, h4 r hr, Nat.testBit_two_pow]
        congr 1
        rw [Bool.eq_iff_iff, decide_eq_true_eq, decide_eq_true_eq]
        omega
    · simp only [if_neg e]
      obtain ⟨g1, g3, g4⟩ := hf k hk
      refine ⟨by rw [Array.getElem?_setIfInBounds_ne (fun e' => e e'.symm)]; exact g1, g3, fun r hr => ?_⟩
      rw [g4 r hr, decide_eq_false (by omega), Bool.or_false]

/-- How many classes are not in the set. -/
def seenBit (sb : Nat) (W : World) (j : Nat) : Bool :=
  match W.cell? ⟨sb, j / 64, none⟩ with
  | some (.int _ v) => v.toNat.testBit (j % 64)
  | _ => false
def unset (sb : Nat) (W : World) : Nat := ((List.range 320).filter fun j => !seenBit sb W j).length
def notIn (S : Nat → Bool) : Nat := ((List.range 320).filter fun j => !S j).length
theorem SeenAt.unset {sb : Nat} {S : Nat → Bool} {W : World} (h : SeenAt sb S W) : unset sb W = notIn S := by
  obtain ⟨cs, f, h0, hf⟩ := h
  unfold Ytlaibimdkamcfaa.unset notIn
  congr 1
  refine List.filter_congr fun j hj => ?_
  have hj := List.mem_range.1 hj
  obtain ⟨h1, _, h4⟩ := hf (j / 64) (by omega)
  unfold seenBit
  rw [Lib.cell_of_heap h0, h1]
  simp only [Int.toNat_natCast]
  rw [h4 _ (by omega), show j / 64 * 64 + j % 64 = j by omega]

theorem notIn_add {S : Nat → Bool} {j : Nat} (hj : j < 320) (hS : S j = false) : notIn (fun k => S k || decide (k = j)) < notIn S := by
  unfold notIn
  refine filter_lt (fun x hx => ?_) (x := j) (List.mem_range.2 hj) (by rw [hS]; rfl) (by simp)
  simp only [Bool.not_or, Bool.and_eq_true] at hx
  exact hx.1
end Go.Proofs.Ytlaibimdkamcfaa
end

