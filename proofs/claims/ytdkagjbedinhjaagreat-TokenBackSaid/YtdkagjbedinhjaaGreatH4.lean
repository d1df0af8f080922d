/-
  Rows of tokens, held against each other.
-/
import Derived.Test.YtdkagjbedinhjaaGreatJ5
import Derived.Test.YtdkagjbedinhjaaGreatE7
import Derived.Test.YtdkagjbedinhjaaGreatW8
import Derived.Lib.AppendStr
import Derived.Lib.BufferRead
import Derived.Test.YtdkagjbedinhjaaGreatZ4
import Derived.Test.YtdkagjbedinhjaaGreatZ5
section
namespace Go.Proofs.YtdkagjbedinhjaaGreat
open Go.RowKit Go.Shelf

theorem two_toks2 (w : World) (kd kd' : Int) (t t' : ByteArray) (p q : Int) : ∃ W, (w.alloc (.cells #[.int .i64 kd, .string t, .int .i64 p] 35)).alloc (.cells #[.int .i64 kd', .string t', .int .i64 q] 35) = W ∧ Below w.heap.size w W ∧
    TokAt w.heap.size kd t p W ∧ TokAt (w.heap.size + 1) kd' t' q W := by
  refine ⟨_, rfl, ((Below.refl _ _).alloc (Nat.le_refl _) _).alloc (by simp) _, ?_, ?_⟩
  · exact (Below.heap_alloc _ _ _ (by simp)).trans (Go.heap_alloc_new w _)
  · have e : (w.alloc (.cells #[.int .i64 kd, .string t, .int .i64 p] 35)).heap.size = w.heap.size + 1 := by simp
    have := Go.heap_alloc_new (w.alloc (.cells #[.int .i64 kd, .string t, .int .i64 p] 35)) (.cells #[.int .i64 kd', .string t', .int .i64 q] 35)
    rw [e] at this
    exact this

/-- A function that holds tokens against each other. -/
def SameFn (f : Nat) : Prop := ∀ (kd kd' : Int) (t t' : ByteArray) (p q : Int) (w : World), Calls Tryz.prog f #[tokV kd t p, tokV kd' t' q] w fun e w' => (∃ x : Bool, e = .returned (.bool x) ∧ (x = true ↔ kd = kd' ∧ t = t')) ∧ Below w.heap.size w w'

theorem str_eq {s t : ByteArray} : (s.toList == t.toList) = true ↔ s = t := by
  rw [Lib.toList_data, Lib.toList_data, beq_iff_eq]
  exact ⟨fun h => bytes_eq h, fun h => by rw [h]⟩

set_option maxRecDepth 100000 in
set_option maxHeartbeats 2000000 in
theorem same_scan : SameFn 33 := fun kd kd' t t' p q w => by
  have HB := Lib.hid (two_toks2 w kd kd' t t' p q)
  by_cases hk : kd = kd'
  · subst hk
    go_enter Tryz.func33, Tryz.ntmps33
    go_wp2_with fail
    go_ret
    obtain ⟨W, hW, hb, _⟩ := HB.out
    rw [hW]
    exact ⟨⟨_, rfl, by rw [str_eq]; simp⟩, hb⟩
  · go_enter Tryz.func33, Tryz.ntmps33
    go_wp2_with fail
    go_ret
    obtain ⟨W, hW, hb, _⟩ := HB.out
    rw [hW]
    exact ⟨⟨_, rfl, by simp [hk]⟩, hb⟩

set_option maxRecDepth 100000 in
set_option maxHeartbeats 2000000 in
theorem same_alike : SameFn 19 := fun kd kd' t t' p q w => by
  have HB := Lib.hid (two_toks2 w kd kd' t t' p q)
  by_cases hk : kd = kd'
  · subst hk
    go_enter Tryz.func19, Tryz.ntmps19
    go_wp2_with fail
    go_ret
    obtain ⟨W, hW, hb, _⟩ := HB.out
    rw [hW]
    exact ⟨⟨_, rfl, by rw [str_eq]; simp⟩, hb⟩
  · go_enter Tryz.func19, Tryz.ntmps19
    go_wp2_with fail
    go_ret
    obtain ⟨W, hW, hb, _⟩ := HB.out
    rw [hW]
    exact ⟨⟨_, rfl, by simp [hk]⟩, hb⟩

/-- A slice of tokens. -/
def HasToks (w : World) (u : Value) (xs : List Tk) : Prop := ∃ (a : Option Addr) (cap g o : Nat), u = .slice a xs.length cap ∧ xs.length ≤ cap ∧ (xs ≠ [] → a = some ⟨g, o, none⟩ ∧ g < w.heap.size) ∧
  ∀ i (hi : i < xs.length), w.cell? ⟨g, o + i * 3, none⟩ = some (.int .i64 xs[i].1) ∧ w.cell? ⟨g, o + i * 3 + 1, none⟩ = some (.string xs[i].2.1) ∧ w.cell? ⟨g, o + i * 3 + 2, none⟩ = some (.int .i64 (xs[i].2.2 : Int))
theorem HasToks.later {w w' : World} {u : Value} {xs : List Tk} (h : HasToks w u xs) (hb : Below w.heap.size w w') : HasToks w' u xs := by
  obtain ⟨a, cap, g, o, hu, hcap, ha, hc⟩ := h
  refine ⟨a, cap, g, o, hu, hcap, fun hn => ⟨(ha hn).1, Nat.lt_of_lt_of_le (ha hn).2 hb.size⟩, fun i hi => ?_⟩
  have hg := (ha (by intro e; subst e; simp at hi)).2
  obtain ⟨c0, c1, c2⟩ := hc i hi
  exact ⟨(hb.cell (p := ⟨g, _, none⟩) hg).trans c0, (hb.cell (p := ⟨g, _, none⟩) hg).trans c1, (hb.cell (p := ⟨g, _, none⟩) hg).trans c2⟩
theorem hasToks_row {w : World} {B : Nat} {u : Value} {xs : List Tk} (h : TkRow w B u xs) : HasToks w u xs := by
  have h2 := h.2
  rcases h2 with ⟨rfl, h0⟩ | ⟨g, cap, cur, rfl, _, hh, hcap, _⟩
  · obtain rfl : xs = [] := List.length_eq_zero_iff.1 h0
    exact ⟨none, 0, 0, 0, rfl, Nat.le_refl _, fun h => absurd rfl h, fun i hi => by simp at hi⟩
  · refine ⟨_, cap, g, 0, rfl, hcap, fun _ => ⟨rfl, (Array.getElem?_eq_some_iff.1 hh).1⟩, fun i hi => ?_⟩
    obtain ⟨d0, d1, d2⟩ := tk_cell xs i hi
    rw [Nat.zero_add]
    exact ⟨(h.cellAt (i * 3) (by omega)).trans d0, (h.cellAt (i * 3 + 1) (by omega)).trans d1, (h.cellAt (i * 3 + 2) (by omega)).trans d2⟩

theorem hasToks_sub {w : World} {g o c : Nat} {xs : List Tk} (f k : Nat) (hfk : f ≤ k) (hk : k ≤ xs.length) (hg : g < w.heap.size) (hc : xs.length ≤ c) (h : ∀ i (hi : i < xs.length), w.cell? ⟨g, o + i * 3, none⟩ = some (.int .i64 xs[i].1) ∧ w.cell? ⟨g, o + i * 3 + 1, none⟩ = some (.string xs[i].2.1) ∧ w.cell? ⟨g, o + i * 3 + 2, none⟩ = some (.int .i64 (xs[i].2.2 : Int))) :
    HasToks w (.slice (some ⟨g, o + f * 3, none⟩) (k - f) (c - f)) ((xs.take k).drop f) := by
  have hl : ((xs.take k).drop f).length = k - f := by rw [List.length_drop, List.length_take, Nat.min_eq_left hk]
  refine ⟨some ⟨g, o + f * 3, none⟩, c - f, g, o + f * 3, by rw [hl], by rw [hl]; omega, fun _ => ⟨rfl, hg⟩, fun i hi => ?_⟩
  rw [hl] at hi
  have e : ((xs.take k).drop f)[i]'(by rw [hl]; exact hi) = xs[f + i]'(by omega) := by rw [List.getElem_drop, List.getElem_take]
  rw [e, show o + f * 3 + i * 3 = o + (f + i) * 3 by omega]
  exact h (f + i) (by omega)
theorem al_nil : Al [] [] := rfl
theorem al_take_succ {xs ys : List Tk} {k : Nat} (hx : k < xs.length) (hy : k < ys.length) : Al (xs.take (k + 1)) (ys.take (k + 1)) ↔ Al (xs.take k) (ys.take k) ∧ xs[k].1 = ys[k].1 ∧ xs[k].2.1 = ys[k].2.1 := by
  unfold Al
  rw [← List.take_append_getElem hx, ← List.take_append_getElem hy, List.map_append, List.map_append]
  constructor
  · intro h
    obtain ⟨h1, h2⟩ := List.append_inj h (by simp; omega)
    simp only [List.map_cons, List.map_nil, List.cons.injEq, and_true, Prod.mk.injEq] at h2
    exact ⟨h1, h2⟩
  · rintro ⟨h1, h2, h3⟩
    rw [h1]
    simp [h2, h3]
theorem al_take {xs ys : List Tk} (h : Al xs ys) (k : Nat) : Al (xs.take k) (ys.take k) := by
  unfold Al at h ⊢
  rw [List.map_take, List.map_take, h]
theorem al_len {xs ys : List Tk} (h : Al xs ys) : xs.length = ys.length := by
  have := congrArg List.length h
  simpa using this

set_option maxRecDepth 100000 in
set_option maxHeartbeats 4000000 in
theorem equal_scan (xs ys : List Tk) (u v : Value) (w : World) (h1 : HasToks w u xs) (h2 : HasToks w v ys) (hx : xs.length ≤ 100000) (hy : ys.length ≤ 100000) :
    Calls Tryz.prog 18 #[u, v, .func (.func 33) #[] #[]] w fun e w' => (∃ x : Bool, e = .returned (.bool x) ∧ (x = true ↔ Al xs ys)) ∧ Below w.heap.size w w' := by
  obtain ⟨a, ca, g, o, rfl, _, ha, hca⟩ := h1
  obtain ⟨b, cb, g', o', rfl, _, hb, hcb⟩ := h2
  have HCA := Lib.hid hca
  have HCB := Lib.hid hcb
  have HAA := Lib.hid ha
  have HBB := Lib.hid hb
  clear hca hcb ha hb
  by_cases hn : xs.length = ys.length
  · go_enter Tryz.func18, Tryz.ntmps18
    go_wp2_with fail
    rw [hn]
    have HN := Lib.hid hn
    clear hn
    go_loopw [17] (fun t wr => ∃ k : Nat, t = .int .i64 (k : Int) ∧ k ≤ xs.length ∧ Hid (Al (xs.take k) (ys.take k)) ∧ Below w.heap.size w wr) (fun t _ => xs.length - (intOf t).toNat)
    case atStart => exact ⟨0, rfl, Nat.zero_le _, Lib.hid rfl, Below.refl _ _⟩
    case round =>
      obtain ⟨k, rfl, hk, HAL, hb⟩ := hrel
      have HB := Lib.hid hb
      by_cases hlt : k < xs.length
      · have hlt' : k < ys.length := by have := HN.out; omega
        obtain ⟨hae, hga⟩ := HAA.out (by intro e; rw [e] at hlt; simp at hlt)
        obtain ⟨hbe, hgb⟩ := HBB.out (by intro e; rw [e] at hlt'; simp at hlt')
        obtain ⟨c0, c1, c2⟩ := HCA.out k hlt
        obtain ⟨d0, d1, d2⟩ := HCB.out k hlt'
        have x0 := (hb.cell (p := ⟨g, _, none⟩) hga).trans c0
        have x1 := (hb.cell (p := ⟨g, _, none⟩) hga).trans c1
        have x2 := (hb.cell (p := ⟨g, _, none⟩) hga).trans c2
        have y0 := (hb.cell (p := ⟨g', _, none⟩) hgb).trans d0
        have y1 := (hb.cell (p := ⟨g', _, none⟩) hgb).trans d1
        have y2 := (hb.cell (p := ⟨g', _, none⟩) hgb).trans d2
        have HS := Lib.hid (al_take_succ hlt hlt')
        obtain ⟨x, hx⟩ : ∃ x, xs[k] = x := ⟨_, rfl⟩
        obtain ⟨y, hy⟩ : ∃ y, ys[k] = y := ⟨_, rfl⟩
        rw [hx] at x0 x1 x2 HS
        rw [hy] at y0 y1 y2 HS
        obtain ⟨kd, t, p⟩ := x
        obtain ⟨kd', t', q⟩ := y
        simp only at x0 x1 x2 y0 y1 y2 HS
        obtain ⟨W, hW, hbW, _, _⟩ := two_toks2 wr kd kd' t t' (p : Int) (q : Int)
        have HW := Lib.hid hW
        have HBW := Lib.hid (hb.trans (hbW.mono hb.size))
        have HF := Lib.hid (same_scan kd kd' t t' (p : Int) (q : Int) W)
        have y0' := Lib.cell?_alloc_some (.cells #[.int .i64 kd, .string t, .int .i64 (p : Int)] 35) y0
        have y1' := Lib.cell?_alloc_some (.cells #[.int .i64 kd, .string t, .int .i64 (p : Int)] 35) y1
        have y2' := Lib.cell?_alloc_some (.cells #[.int .i64 kd, .string t, .int .i64 (p : Int)] 35) y2
        subst hae hbe
        clear c0 c1 c2 d0 d1 d2 hb hW hbW hx hy
        go_wp2_with fail
        rw [HW.out]
        (with_reducible refine HF.out.mono ?_)
        rintro e w1 ⟨⟨x, rfl, hx⟩, hb1⟩
        have HX := Lib.hid hx
        have HB1 := Lib.hid (HBW.out.trans (hb1.mono HBW.out.size))
        clear hb1 hx
        cases x with
        | true =>
          go_wp2_with fail
          go_round
          case rel => exact ⟨k + 1, by go_num, hlt, Lib.hid (HS.out.2 ⟨HAL.out, HX.out.1 (by trivial)⟩), HB1.out⟩
          case measure => simp [intOf]; omega
        | false =>
          go_wp2_with fail
          go_ret
          exact ⟨⟨_, rfl, by
            constructor
            · intro h; cases h
            · intro h
              have := HX.out.2 (HS.out.1 (al_take h (k + 1))).2
              simp at this⟩, HB1.out⟩
      · have hkl : k = ys.length := by have := HN.out; omega
        subst hkl
        have HALL := Lib.hid (show Al xs ys by
          have := HAL.out
          rw [List.take_length, ← HN.out, List.take_length] at this
          exact this)
        clear hb
        go_wp2_with fail
        go_ret
        exact ⟨⟨_, rfl, by simp; exact HALL.out⟩, HB.out⟩
  · go_enter Tryz.func18, Tryz.ntmps18
    go_wp2_with fail
    go_ret
    exact ⟨⟨_, rfl, by simp; exact fun h => hn (al_len h)⟩, Below.refl _ _⟩
set_option maxRecDepth 100000 in
set_option maxHeartbeats 4000000 in
theorem equal_alike (xs ys : List Tk) (u v : Value) (w : World) (h1 : HasToks w u xs) (h2 : HasToks w v ys) (hx : xs.length ≤ 100000) (hy : ys.length ≤ 100000) :
    Calls Tryz.prog 18 #[u, v, .func (.func 19) #[] #[]] w fun e w' => (∃ x : Bool, e = .returned (.bool x) ∧ (x = true ↔ Al xs ys)) ∧ Below w.heap.size w w' := by
  obtain ⟨a, ca, g, o, rfl, _, ha, hca⟩ := h1
  obtain ⟨b, cb, g', o', rfl, _, hb, hcb⟩ := h2
  have HCA := Lib.hid hca
  have HCB := Lib.hid hcb
  have HAA := Lib.hid ha
  have HBB := Lib.hid hb
  clear hca hcb ha hb
  by_cases hn : xs.length = ys.length
  · go_enter Tryz.func18, Tryz.ntmps18
    go_wp2_with fail
    rw [hn]
    have HN := Lib.hid hn
    clear hn
    go_loopw [17] (fun t wr => ∃ k : Nat, t = .int .i64 (k : Int) ∧ k ≤ xs.length ∧ Hid (Al (xs.take k) (ys.take k)) ∧ Below w.heap.size w wr) (fun t _ => xs.length - (intOf t).toNat)
    case atStart => exact ⟨0, rfl, Nat.zero_le _, Lib.hid rfl, Below.refl _ _⟩
    case round =>
      obtain ⟨k, rfl, hk, HAL, hb⟩ := hrel
      have HB := Lib.hid hb
      by_cases hlt : k < xs.length
      · have hlt' : k < ys.length := by have := HN.out; omega
        obtain ⟨hae, hga⟩ := HAA.out (by intro e; rw [e] at hlt; simp at hlt)
        obtain ⟨hbe, hgb⟩ := HBB.out (by intro e; rw [e] at hlt'; simp at hlt')
        obtain ⟨c0, c1, c2⟩ := HCA.out k hlt
        obtain ⟨d0, d1, d2⟩ := HCB.out k hlt'
        have x0 := (hb.cell (p := ⟨g, _, none⟩) hga).trans c0
        have x1 := (hb.cell (p := ⟨g, _, none⟩) hga).trans c1
        have x2 := (hb.cell (p := ⟨g, _, none⟩) hga).trans c2
        have y0 := (hb.cell (p := ⟨g', _, none⟩) hgb).trans d0
        have y1 := (hb.cell (p := ⟨g', _, none⟩) hgb).trans d1
        have y2 := (hb.cell (p := ⟨g', _, none⟩) hgb).trans d2
        have HS := Lib.hid (al_take_succ hlt hlt')
        obtain ⟨x, hx⟩ : ∃ x, xs[k] = x := ⟨_, rfl⟩
        obtain ⟨y, hy⟩ : ∃ y, ys[k] = y := ⟨_, rfl⟩
        rw [hx] at x0 x1 x2 HS
        rw [hy] at y0 y1 y2 HS
        obtain ⟨kd, t, p⟩ := x
        obtain ⟨kd', t', q⟩ := y
        simp only at x0 x1 x2 y0 y1 y2 HS
        obtain ⟨W, hW, hbW, _, _⟩ := two_toks2 wr kd kd' t t' (p : Int) (q : Int)
        have HW := Lib.hid hW
        have HBW := Lib.hid (hb.trans (hbW.mono hb.size))
        have HF := Lib.hid (same_alike kd kd' t t' (p : Int) (q : Int) W)
        have y0' := Lib.cell?_alloc_some (.cells #[.int .i64 kd, .string t, .int .i64 (p : Int)] 35) y0
        have y1' := Lib.cell?_alloc_some (.cells #[.int .i64 kd, .string t, .int .i64 (p : Int)] 35) y1
        have y2' := Lib.cell?_alloc_some (.cells #[.int .i64 kd, .string t, .int .i64 (p : Int)] 35) y2
        subst hae hbe
        clear c0 c1 c2 d0 d1 d2 hb hW hbW hx hy
        go_wp2_with fail
        rw [HW.out]
        (with_reducible refine HF.out.mono ?_)
        rintro e w1 ⟨⟨x, rfl, hx⟩, hb1⟩
        have HX := Lib.hid hx
        have HB1 := Lib.hid (HBW.out.trans (hb1.mono HBW.out.size))
        clear hb1 hx
        cases x with
        | true =>
          go_wp2_with fail
          go_round
          case rel => exact ⟨k + 1, by go_num, hlt, Lib.hid (HS.out.2 ⟨HAL.out, HX.out.1 (by trivial)⟩), HB1.out⟩
          case measure => simp [intOf]; omega
        | false =>
          go_wp2_with fail
          go_ret
          exact ⟨⟨_, rfl, by
            constructor
            · intro h; cases h
            · intro h
              have := HX.out.2 (HS.out.1 (al_take h (k + 1))).2
              simp at this⟩, HB1.out⟩
      · have hkl : k = ys.length := by have := HN.out; omega
        subst hkl
        have HALL := Lib.hid (show Al xs ys by
          have := HAL.out
          rw [List.take_length, ← HN.out, List.take_length] at this
          exact this)
        clear hb
        go_wp2_with fail
        go_ret
        exact ⟨⟨_, rfl, by simp; exact HALL.out⟩, HB.out⟩
  · go_enter Tryz.func18, Tryz.ntmps18
    go_wp2_with fail
    go_ret
    exact ⟨⟨_, rfl, by simp; exact fun h => hn (al_len h)⟩, Below.refl _ _⟩

set_option maxRecDepth 100000 in
set_option maxHeartbeats 4000000 in
/-- A text that is scanned, held against tokens. -/
theorem isScan_any (mb : Nat) (K : ByteArray → Bool) (T : ByteArray) (ys : List Tk) (v : Value) (w : World) (hM : MapK mb K w) (hT : T.size ≤ 40000) (hv : HasToks w v ys) (hy : ys.length ≤ 100000) :
    Calls Tryz.prog 26 #[.map (some mb), .string T, v] w fun e w' => (∃ x : Bool, e = .returned (.bool x) ∧ (x = true ↔ ∃ zs, scanR K T = (zs, none) ∧ Al zs ys)) ∧ Below w.heap.size w w' := by
  have HC := Lib.hid (callsIn_wide.1 (scan_any_in 3 mb K T w (Nat.le_refl _) hM hT))
  have HV := Lib.hid hv
  have HL := Lib.hid (show (scanR K T).1.length ≤ T.size + 1 from scan_len K T (T.size + 1) 0)
  have HCD0 := Lib.hid (fun xs p code (h : scanR K T = (xs, some (p, code))) => (scan_code K T (T.size + 1) 0 xs p code (Nat.zero_le _) h).1)
  obtain ⟨R, hR⟩ : ∃ R, scanR K T = R := ⟨_, rfl⟩
  rw [hR] at HC HL HCD0 ⊢
  clear hM hv hR
  obtain ⟨zs, o⟩ := R
  cases o with
  | none =>
    go_enter Tryz.func26, Tryz.ntmps26
    go_wp2_with fail
    (with_reducible refine HC.out.mono ?_)
    rintro e w1 ⟨h, hb⟩
    have HB := Lib.hid hb
    obtain ⟨u, rfl, hrow⟩ := h
    have hl : zs.length ≤ T.size + 1 := HL.out
    have HE := Lib.hid (equal_scan zs ys u v w1 (hasToks_row hrow) (HV.out.later hb) (by omega) hy)
    clear hrow hb hl
    go_wp2_with fail
    (with_reducible refine HE.out.mono ?_)
    rintro e w2 ⟨⟨x, rfl, hx⟩, hb2⟩
    have HX := Lib.hid hx
    have HB2 := Lib.hid (HB.out.trans (hb2.mono HB.out.size))
    clear hb2 hx
    go_wp2_with fail
    go_ret
    exact ⟨⟨x, rfl, ⟨fun h => ⟨zs, rfl, HX.out.1 h⟩, fun ⟨zs', h1, h2⟩ => HX.out.2 (by cases h1; exact h2)⟩⟩, HB2.out⟩
  | some x =>
    obtain ⟨p, code⟩ := x
    have HCD := Lib.hid (HCD0.out zs p code rfl)
    go_enter Tryz.func26, Tryz.ntmps26
    go_wp2_with fail
    (with_reducible refine HC.out.mono ?_)
    rintro e w1 ⟨h, hb⟩
    have HB := Lib.hid hb
    have h2 : e = .returned (.tuple #[.slice none 0 0, .int .i64 (p : Int), .int .i64 code]) := h
    have hcode : (code == 0) = false := beq_eq_false_iff_ne.2 HCD.out
    subst h2
    clear hb h
    go_wp2_with fail
    go_ret
    exact ⟨⟨_, rfl, by simp⟩, HB.out⟩
end Go.Proofs.YtdkagjbedinhjaaGreat
end

section
namespace Go.Proofs.YtdkagjbedinhjaaGreat
open Go.RowKit Go.Shelf

/-- A token, written. -/
def wordOf (t : Tk) : ByteArray := BA (writtenT t.1 t.2.1.data.toList)
theorem word_stands {K : ByteArray → Bool} {T : ByteArray} {x : Tk} {n : Nat} (h : Stands K T x n) : Word K x (wordOf x).data.toList ∧ T.extract x.2.2 (x.2.2 + n) = wordOf x := by
  have h1 := word_of_stands h
  have h2 := stands_written h
  rw [h2] at h1
  refine ⟨by unfold wordOf; rw [BA_list]; exact h1, ?_⟩
  unfold wordOf
  rw [← h2, BA_back]
theorem write_word (mb : Nat) (K : ByteArray → Bool) (T : ByteArray) (x : Tk) (w : World) (hM : MapK mb K w) (hT : T.size ≤ 40000) (hst : ∃ n, Stands K T x n) :
    Calls Tryz.prog 20 #[.map (some mb), tokV x.1 x.2.1 (x.2.2 : Int)] w fun e w' => e = .returned (.tuple #[.string (wordOf x), .int .i64 0]) ∧ Below w.heap.size w w' := by
  obtain ⟨n, hst⟩ := hst
  have := write_stands escapes mb K T x n w hM hT hst
  rw [(word_stands hst).2] at this
  exact this
theorem ascend_stands {K : ByteArray → Bool} {T : ByteArray} : ∀ (xs : List Tk) (k : Nat), Ascend K T k xs → ∀ x ∈ xs, ∃ n, Stands K T x n
  | [], _, _, x, hx => by cases hx
  | y :: r, k, ⟨_, n, hs, h⟩, x, hx => by
    rcases List.mem_cons.1 hx with rfl | hx
    · exact ⟨n, hs⟩
    · exact ascend_stands r _ h x hx
def wordSum (xs : List Tk) : Nat := (xs.map fun t => (writtenT t.1 t.2.1.data.toList).length).sum
theorem ascend_sum {K : ByteArray → Bool} {T : ByteArray} : ∀ (xs : List Tk) (k : Nat), k ≤ T.size → Ascend K T k xs → k + wordSum xs ≤ T.size
  | [], k, hk, _ => by unfold wordSum; simp; exact hk
  | y :: r, k, hk, ⟨h1, n, hs, h⟩ => by
    have h2 := ascend_sum r _ hs.le h
    have h3 := (⟨rfl, hs.le⟩ : Piece T (T.extract y.2.2 (y.2.2 + n)) y.2.2 n).size
    rw [Lib.size_eq, stands_written hs] at h3
    unfold wordSum at h2 ⊢
    rw [List.map_cons, List.sum_cons]
    omega
theorem infoInt : (Tryz.prog.info? 3).map (fun i => (i.zero, i.size, i.bytes)) = some (some (Value.int .i64 0), 1, 8) := by kernel_rfl
theorem made_int (n : Nat) : (madeCells (Value.int .i64 0).cells (n * 1)).toList = List.replicate n (.int .i64 0) := by rw [Nat.mul_one]; exact toList_madeCells_one _ _
theorem Built.place_lt {K : ByteArray → Bool} {ts : List Tk} {ps : List Nat} {A : Bs} (h : Built K ts ps A) : ∀ f (hf : f < ps.length), ps[f] < A.length := by
  induction h with
  | nil => intro f hf; simp at hf
  | @snoc ts ps A t P gap h w hg h0 ih =>
    intro f hf
    have := w.pos
    rw [List.length_append, List.length_append]
    by_cases hlt : f < ps.length
    · rw [List.getElem_append_left hlt]
      have := ih f hlt
      omega
    · rw [List.getElem_append_right (by omega)]
      simp
      omega
theorem near_le (A : Bs) (ps : List Nat) : (nearOf A ps).length ≤ A.length := by
  unfold nearOf
  split
  · rw [List.length_drop]; omega
  · exact Nat.zero_le _
theorem byteCells_app (a b : Bs) : Lib.byteCells (a ++ b) = Lib.byteCells a ++ Lib.byteCells b := by unfold Lib.byteCells; rw [List.map_append]
theorem wordSum_take (xs : List Tk) (k : Nat) (h : k < xs.length) : wordSum (xs.take k) + (writtenT xs[k].1 xs[k].2.1.data.toList).length ≤ wordSum xs := by
  have e : xs = xs.take k ++ xs[k] :: xs.drop (k + 1) := by rw [← List.drop_eq_getElem_cons h, List.take_append_drop]
  have h2 : wordSum xs = wordSum (xs.take k ++ xs[k] :: xs.drop (k + 1)) := by rw [← e]
  rw [h2]
  unfold wordSum
  rw [List.map_append, List.sum_append, List.map_cons, List.sum_cons]
  omega
def wordCells (xs : List Tk) (k : Nat) : List Value := (xs.take k).map fun t => .string (wordOf t)
theorem wordCells_succ {xs : List Tk} {k : Nat} (h : k < xs.length) : wordCells xs (k + 1) = wordCells xs k ++ [.string (wordOf xs[k])] := by
  unfold wordCells
  rw [← List.take_append_getElem h, List.map_append]
  rfl

theorem own_later {w w' : World} {B e size n : Nat} {v : Value} {xs : List Value} (h : w.ownsRow B e size v n xs) (hb : Below w.heap.size w w') : w'.ownsRow B e size v n xs := by
  obtain ⟨h1, h2 | ⟨g, cap, cur, hv, hg, hh, r⟩⟩ := h
  · exact ⟨h1, .inl h2⟩
  · exact ⟨h1, .inr ⟨g, cap, cur, hv, hg, (hb.block g (Array.getElem?_eq_some_iff.1 hh).1).trans hh, r⟩⟩
theorem own_ge {w : World} {B e size n : Nat} {v : Value} {xs : List Value} (h : w.ownsRow B e size v n xs) : ∀ k, v.ownBlock = some k → B ≤ k := by
  intro k hk
  rcases h.2 with ⟨rfl, _⟩ | ⟨g, cap, cur, rfl, hg, _⟩
  · cases hk
  · cases hk; exact hg

theorem slice_form {w : World} {B e size n : Nat} {v : Value} {xs : List Value} (h : w.ownsRow B e size v n xs) : ∃ a c, v = .slice a n c := by
  rcases h.2 with ⟨h1, h2⟩ | ⟨gg, cap, cur, h1, _⟩
  · exact ⟨none, 0, by rw [h1, h2]⟩
  · exact ⟨_, _, h1⟩
theorem places_set {ps : List Nat} {n k d : Nat} (hp : ps.length = k) (hk : k < n) : (ps.map (fun (p : Nat) => Value.int .i64 (p : Int)) ++ List.replicate (n - k) (Value.int .i64 0)).set k (.int .i64 (d : Int)) = (ps ++ [d]).map (fun (p : Nat) => Value.int .i64 (p : Int)) ++ List.replicate (n - (k + 1)) (Value.int .i64 0) := by
  obtain ⟨m, rfl⟩ : ∃ m, n = k + 1 + m := ⟨n - (k + 1), by omega⟩
  rw [show k + 1 + m - k = m + 1 by omega, show k + 1 + m - (k + 1) = m by omega, List.set_append_right _ _ (by rw [List.length_map]; omega), List.length_map, hp, Nat.sub_self, List.replicate_succ, List.set_cons_zero]
  simp
theorem text_back {w : World} {B c : Nat} {a : Option Addr} {A : Bs} (h : w.ownsRow B 5 1 (.slice a A.length c) A.length (Lib.byteCells A)) : (convert 57 9 (.slice a A.length c)).run Tryz.prog w = .ok (.string (BA A)) w := by
  have h0 := h
  rcases h.2 with ⟨h1, h2⟩ | ⟨gt, cap, cur, h1, _⟩
  · obtain rfl : A = [] := List.eq_nil_of_length_eq_zero h2
    cases h1
    exact Lib.run_convert_nil_bytes w _ _ _ 0 Tryz.underlying57 Tryz.underlying5 Tryz.underlying9
  · cases h1
    exact run_convert_bytes_back (P := Tryz.prog) w 57 9 5 ⟨gt, 0, none⟩ c A Tryz.underlying57 Tryz.underlying5 Tryz.underlying9 (fun j hj => by
      rw [Addr.add_lit, Nat.zero_add, h0.cellAt j (by omega)]
      unfold Lib.byteCells
      rw [List.getElem?_map, List.getElem?_eq_getElem hj]
      rfl)
/-- One more token. -/
theorem join_step {K : ByteArray → Bool} {xs : List Tk} {ps : List Nat} {A gap : Bs} {k f : Nat} {wd nr : ByteArray} {x : Bool} (hB : Built K (xs.take k) ps A) (hs : scanR K (BA A) = (zipT (xs.take k) ps, none)) (hp : ps.length = k) (hk : k < xs.length) (hw : Word K xs[k] wd.data.toList) (_ : wordOf xs[k] = wd)
    (hx : x = true ↔ ∃ zs, scanR K (nr ++ wd) = (zs, none) ∧ Al zs ((xs.take (k + 1)).drop f)) (hn : BA (nearOf A ps) = nr) (hf : k - 2 = f) (hg : (x = true ∧ gap = []) ∨ (x = false ∧ gap = [32])) :
    Built K (xs.take (k + 1)) (ps ++ [(A ++ gap).length]) (A ++ gap ++ wd.data.toList) ∧ scanR K (BA (A ++ gap ++ wd.data.toList)) = (zipT (xs.take (k + 1)) (ps ++ [(A ++ gap).length]), none) := by
  have hl : (xs.take k).length = k := by rw [List.length_take]; omega
  have hT : nr ++ wd = BA (nearOf A ps ++ wd.data.toList) := by
    rw [← hn]
    apply bytes_eq
    rw [BA_list]
    simp
  rw [hT, ← List.take_append_getElem hk] at hx
  rw [← List.take_append_getElem hk, List.length_append]
  have h0 : xs.take k = [] → gap = [] := by
    intro h0
    rcases hg with ⟨_, h⟩ | ⟨hxf, _⟩
    · exact h
    · have hk0 : k = 0 := by rw [h0] at hl; exact hl.symm
      subst hk0
      have hps : ps = [] := List.eq_nil_of_length_eq_zero hp
      subst hps
      have : x = true := hx.2 ⟨_, hw.scan, by subst hf; rfl⟩
      rw [hxf] at this
      cases this
  refine ⟨.snoc gap hB hw (hg.elim (fun h => .inl h.2) (fun h => .inr h.2)) h0, ?_⟩
  rcases hg with ⟨hxt, rfl⟩ | ⟨_, rfl⟩
  · obtain ⟨zs, hz, hal⟩ := hx.1 hxt
    have := join_glued hB hs hw hz (by rw [hl, hf]; exact hal)
    simpa using this
  · exact join_spaced hB hs hw

set_option maxRecDepth 100000 in
set_option maxHeartbeats 4000000 in
theorem join_any (mb : Nat) (K : ByteArray → Bool) (T : ByteArray) (xs : List Tk) (v : Value) (w : World) (hM : MapK mb K w) (hv : HasToks w v xs) (hT : T.size ≤ 40000) (hS : ∀ x ∈ xs, ∃ n, Stands K T x n) (hsum : wordSum xs ≤ 1000) (hy : xs.length ≤ 500) :
    Calls Tryz.prog 17 #[.map (some mb), v] w fun e w' => (∃ (A : Bs) (ps : List Nat), e = .returned (.tuple #[.string (BA A), .int .i64 0]) ∧ Built K xs ps A ∧ scanR K (BA A) = (zipT xs ps, none)) ∧ Below w.heap.size w w' := by
  obtain ⟨a, ca, g, o, rfl, hcap, ha, hca⟩ := hv
  have hd : decide ((1000 : Int) < xs.length) = false := by simp; omega
  obtain ⟨i0, hi, hz0, hz1, hz2⟩ := info_parts infoStr
  have HCA := Lib.hid hca
  have HAA := Lib.hid ha
  have HM := Lib.hid hM
  have HS := Lib.hid hS
  clear hca ha hM hS
  go_enter Tryz.func17, Tryz.ntmps17
  go_wp2_with fail
  go_loopw [6, 22] (fun ws t wr => ∃ k : Nat, t = .int .i64 (k : Int) ∧ k ≤ xs.length ∧ wr.ownsRow w.heap.size 9 1 ws k (wordCells xs k) ∧ Below w.heap.size w wr) (fun _ t _ => xs.length - (intOf t).toNat)
  case atStart => exact ⟨0, rfl, Nat.zero_le _, World.ownsRow_nil _ _ _ _, Below.refl _ _⟩
  case round =>
    obtain ⟨k, rfl, hk, ho, hb⟩ := hrel
    have HB := Lib.hid hb
    have HO := Lib.hid ho
    by_cases hlt : k < xs.length
    · obtain ⟨hae, hga⟩ := HAA.out (by intro e; rw [e] at hlt; simp at hlt)
      obtain ⟨c0, c1, c2⟩ := HCA.out k hlt
      have x0 := (hb.cell (p := ⟨g, _, none⟩) hga).trans c0
      have x1 := (hb.cell (p := ⟨g, _, none⟩) hga).trans c1
      have x2 := (hb.cell (p := ⟨g, _, none⟩) hga).trans c2
      have hst := HS.out xs[k] (List.getElem_mem hlt)
      have hwc := wordCells_succ hlt
      obtain ⟨x, hx⟩ : ∃ x, xs[k] = x := ⟨_, rfl⟩
      rw [hx] at x0 x1 x2 hst hwc
      obtain ⟨W, hW, hbW, _, _⟩ := tok_box wr x.1 x.2.1 (x.2.2 : Int)
      have HW := Lib.hid hW
      have hbw := hb.trans (hbW.mono hb.size)
      have HBW := Lib.hid hbw
      have HBW0 := Lib.hid hbW
      have HWR := Lib.hid (write_word mb K T x W (HM.out.later hbw HM.out.lt) hT hst)
      have HWC := Lib.hid hwc
      obtain ⟨wd, hwd⟩ : ∃ wd, wordOf x = wd := ⟨_, rfl⟩
      rw [hwd] at HWR HWC
      subst hae
      clear c0 c1 c2 hb ho hW hbW hbw hx hst hwc hwd
      go_wp2_with fail
      rw [HW.out]
      (with_reducible refine HWR.out.mono ?_)
      rintro e w1 ⟨rfl, hb1⟩
      have HB1 := Lib.hid (HBW.out.trans (hb1.mono HBW.out.size))
      have HO1 := Lib.hid (own_later HO.out (HBW0.out.trans (hb1.mono HBW0.out.size)))
      clear hb1 HO
      go_wp2_with (at_builtin; refine wpList_append_own _ rfl _ _ 22 rfl w.heap.size 9 i0 (.string ⟨#[]⟩) 1 16 Tryz.underlying22 hi hz0 hz1 hz2 rfl (by decide) u6 k (wordCells xs k) rfl (HO1.out.alloc _) ⟨w1.heap.size, 0, none⟩ 1 1 [.string wd] rfl rfl (fun j u hj => by rw [Addr.add_lit, Nat.zero_add]; cases j with | zero => cases hj; rw [Lib.cell_of_heap (Go.heap_alloc_new _ _)]; rfl | succ j => cases j <;> cases hj) (by intro u hu; cases List.mem_singleton.1 hu; rfl) (by unfold maxLen; omega) (by omega) (by have := HB1.out.size; simp; omega) ?_; intro v' w2 ho2 hg2 _; have HO2 := Lib.hid ho2; have HB2 := Lib.hid ((HB1.out.alloc HB1.out.size (.cells #[.string wd] 9)).grown hg2 (by have := HB1.out.size; simp; omega) (own_ge HO1.out)); clear ho2 hg2)
      go_round
      case rel => exact ⟨k + 1, by go_num, hlt, by rw [HWC.out]; exact HO2.out, HB2.out⟩
      case measure => simp [intOf]; omega
    · have hk' : k = xs.length := by omega
      subst hk'
      obtain ⟨a6, c6, rfl⟩ : ∃ a6 c6, u6 = .slice a6 xs.length c6 := by
        rcases ho.2 with ⟨h1, h2⟩ | ⟨gg, cap, cur, h1, _⟩
        · exact ⟨none, 0, by rw [h1, h2]⟩
        · exact ⟨_, _, h1⟩
      have hf6 : xs.length = 0 ∨ ∃ gw, a6 = some ⟨gw, 0, none⟩ := by
        rcases ho.2 with ⟨h1, h2⟩ | ⟨gg, cap, cur, h1, _⟩
        · exact .inl h2
        · cases h1; exact .inr ⟨gg, rfl⟩
      obtain ⟨i3, hi3, hy0, hy1, hyb⟩ := info_parts infoInt
      have HF6 := Lib.hid hf6
      clear hb ho hf6
      have HBP := Lib.hid HB.out
      generalize wr = w9 at *
      go_wp2_with (at_make; refine wpList_make_full _ rfl _ _ 58 rfl w9.heap.size 3 i3 (.int .i64 0) 1 Tryz.underlying58 hi3 hy0 hy1 .i64 .i64 (xs.length : Int) (xs.length : Int) xs.length rfl rfl rfl rfl (by rw [hyb]; omega) (by unfold maxLen; omega) (Nat.le_refl _) ?_; intro w2 ho2 hg2; have HO2 := Lib.hid ho2; have HG2 := Lib.hid hg2; clear ho2 hg2)
      rw [made_int] at HO2
      obtain ⟨gp, hgp⟩ : ∃ gp, w9.heap.size = gp := ⟨_, rfl⟩
      have HGP := Lib.hid hgp
      have HBG := Lib.hid (show Below gp w9 w2 by rw [← hgp]; exact (Below.refl _ w9).grown HG2.out (Nat.le_refl _) (fun q e => by cases e))
      rw [hgp] at HO2 ⊢
      clear hgp HG2 hi3 hy0 hy1 hyb hk hlt
      go_loopw [11, 45] (fun tv t wq => ∃ (k : Nat) (A : Bs) (ps : List Nat), t = .int .i64 (k : Int) ∧ k ≤ xs.length ∧ Hid (Built K (xs.take k) ps A) ∧ Hid (scanR K (BA A) = (zipT (xs.take k) ps, none)) ∧ wq.ownsRow (gp + 1) 5 1 tv A.length (Lib.byteCells A) ∧ wq.ownsRow gp 3 1 (.slice (some ⟨gp, 0, none⟩) xs.length xs.length) xs.length (ps.map (fun (p : Nat) => Value.int .i64 (p : Int)) ++ List.replicate (xs.length - k) (Value.int .i64 0)) ∧ Below gp w9 wq) (fun _ t _ => xs.length - (intOf t).toNat)
      case atStart => exact ⟨0, [], [], rfl, Nat.zero_le _, Lib.hid .nil, Lib.hid rfl, World.ownsRow_nil _ _ _ _, HO2.out, HBG.out⟩
      case round =>
        obtain ⟨k, A, ps, rfl, hk, HBU, HSC, hot, hop, hb⟩ := hrel
        have HB := Lib.hid hb
        have HOT := Lib.hid hot
        have HOP := Lib.hid hop
        obtain ⟨at', ct, rfl⟩ : ∃ a c, u11 = .slice a A.length c := by
          rcases hot.2 with ⟨h1, h2⟩ | ⟨gg, cap, cur, h1, _⟩
          · exact ⟨none, 0, by rw [h1, h2]⟩
          · exact ⟨_, _, h1⟩
        by_cases hlt : k < xs.length
        · obtain ⟨gw, rfl⟩ := HF6.out.resolve_left (by omega)
          have HOW := Lib.hid (own_later HO.out (by rw [HGP.out]; exact hb))
          have xw := HOW.out.cellAt k (by omega)
          rw [show (wordCells xs xs.length)[k]? = some (.string (wordOf xs[k])) from by unfold wordCells; rw [List.take_length, List.getElem?_map, List.getElem?_eq_getElem hlt]; rfl] at xw
          have hpl := HBU.out.len
          have hAl := HBU.out.bound
          obtain ⟨wd, hwd⟩ : ∃ wd, wordOf xs[k] = wd := ⟨_, rfl⟩
          rw [hwd] at xw
          have HWD := Lib.hid hwd
          clear hwd hot hop hb
          go_upto_if 55 with fail
          obtain ⟨f, hf⟩ : ∃ f, k - 2 = f := ⟨_, rfl⟩
          rw [show max (0 : Int) ((k : Int) - 2) = (f : Int) by omega]
          go_cut [16, 89, 90] from 56 (fun nr a89 a90 wc => nr = .string (BA (nearOf A ps)) ∧ a89 = undef ∧ a90 = undef ∧ wc = wr)
          case first =>
            by_cases hk0 : k = 0
            · subst hk0
              have hps : ps = [] := List.eq_nil_of_length_eq_zero (by rw [hpl]; simp)
              subst hps
              have hlf : decide ((f : Int) < ((0 : Nat) : Int)) = false := by simp
              go_wp2_with fail
              go_meet
              case rel => exact ⟨rfl, rfl, rfl, rfl⟩
            · have hfl : f < ps.length := by rw [hpl, List.length_take]; omega
              have hpf := HOP.out.cellAt f (by omega)
              rw [List.getElem?_append_left (by rw [List.length_map]; exact hfl), List.getElem?_map, List.getElem?_eq_getElem hfl] at hpf
              have hpl2 := HBU.out.place_lt f hfl
              have hnear : nearOf A ps = A.drop ps[f] := by
                unfold nearOf
                have e : ps.length - 2 = f := by rw [hpl, List.length_take]; omega
                rw [e, List.getElem?_eq_getElem hfl]
              obtain ⟨p, hp⟩ : ∃ p, ps[f] = p := ⟨_, rfl⟩
              rw [hp] at hpf hpl2 hnear
              obtain ⟨gt, rfl, hct⟩ : ∃ gt, at' = some ⟨gt, 0, none⟩ ∧ A.length ≤ ct := by
                rcases HOT.out.2 with ⟨h1, h2⟩ | ⟨gg, cap, cur, h1, _, _, h2, _⟩
                · omega
                · cases h1; exact ⟨gg, rfl, h2⟩
              have hcp : ¬ ct = p := by omega
              have hpa : p ≤ A.length := by omega
              have hfk : (f : Int) < (k : Int) := by omega
              have hconv := run_convert_bytes_back (P := Tryz.prog) wr 57 9 5 ⟨gt, p, none⟩ (ct - p) (A.drop p) Tryz.underlying57 Tryz.underlying5 Tryz.underlying9 (fun j hj => by
                have hj2 : p + j < A.length := by rw [List.length_drop] at hj; omega
                rw [Addr.add_lit, HOT.out.cellAt (p + j) (by omega)]
                unfold Lib.byteCells
                rw [List.getElem?_map, List.getElem?_eq_getElem hj2, List.getElem_drop]
                rfl)
              rw [List.length_drop] at hconv
              have HNEAR := Lib.hid hnear
              clear hnear hp
              go_wp2_with fail
              go_meet
              case rel => exact ⟨by rw [HNEAR.out], rfl, rfl, rfl⟩
          case rest =>
            obtain ⟨rfl, rfl, rfl, rfl⟩ := hcut
            obtain ⟨rfl, hga⟩ := HAA.out (by intro e; rw [e] at hlt; simp at hlt)
            have hbw := HBP.out.trans (HB.out.mono (by rw [← HGP.out]; exact HBP.out.size))
            have hst := word_stands (HS.out xs[k] (List.getElem_mem hlt)).choose_spec
            have hwl : Word K xs[k] wd.data.toList := by rw [← HWD.out]; exact hst.1
            have hnl : (nearOf A ps).length ≤ A.length := near_le A ps
            have hsm := wordSum_take xs k hlt
            have hwz : wd.size ≤ 1000 := by
              have : wd.size = (writtenT xs[k].1 xs[k].2.1.data.toList).length := by rw [← HWD.out]; exact BA_size _
              omega
            have hAz : A.length ≤ 2000 := by
              have : (xs.take k).length ≤ 500 := by rw [List.length_take]; omega
              have h2 : A.length ≤ wordSum (xs.take k) + ((xs.take k).length - 1) := hAl
              omega
            have hTz : (BA (nearOf A ps) ++ wd).size ≤ 40000 := by rw [ByteArray.size_append, BA_size]; omega
            have hfk : f ≤ k + 1 := by omega
            have hkc : k + 1 ≤ ca := by omega
            have hcf : ¬ ca = f := by omega
            have hnz : (BA (nearOf A ps)).size ≤ 2000 := by rw [BA_size]; omega
            have HIS := Lib.hid (isScan_any mb K (BA (nearOf A ps) ++ wd) ((xs.take (k + 1)).drop f) _ wc (HM.out.later hbw HM.out.lt) hTz (hasToks_sub f (k + 1) hfk hlt (Nat.lt_of_lt_of_le hga hbw.size) hcap (fun i hi => by
              obtain ⟨c0, c1, c2⟩ := HCA.out i hi
              exact ⟨(hbw.cell (p := ⟨g, _, none⟩) hga).trans c0, (hbw.cell (p := ⟨g, _, none⟩) hga).trans c1, (hbw.cell (p := ⟨g, _, none⟩) hga).trans c2⟩)) (by rw [List.length_drop, List.length_take]; omega))
            obtain ⟨nr, hnr⟩ : ∃ nr, BA (nearOf A ps) = nr := ⟨_, rfl⟩
            rw [hnr] at HIS hnz ⊢
            have HNR := Lib.hid hnr
            have HWL := Lib.hid hwl
            clear hbw hst hwl hnr hTz hnl
            go_wp2_with fail
            (with_reducible refine HIS.out.mono ?_)
            rintro e w4 ⟨⟨x, rfl, hx⟩, hb4⟩
            have HX := Lib.hid hx
            have HB4 := Lib.hid hb4
            clear hx hb4
            have HOT4 := Lib.hid (own_later HOT.out HB4.out)
            have HOP4 := Lib.hid (own_later HOP.out HB4.out)
            have HBG4 := Lib.hid (HB.out.trans (HB4.out.mono (by have h1 := HOP.out.lt gp rfl; omega)))
            have HSZ4 := Lib.hid (show gp + 1 ≤ w4.heap.size from (HOP4.out.lt gp rfl).2)
            clear hAl xw
            go_upto_if 73 with fail
            go_cut [11, 89, 90] from 74 (fun tv a89 a90 wq => a89 = undef ∧ a90 = undef ∧ ∃ gap : Bs, ((x = true ∧ gap = []) ∨ (x = false ∧ gap = [32])) ∧ Hid (wq.ownsRow (gp + 1) 5 1 tv (A ++ gap).length (Lib.byteCells (A ++ gap))) ∧ Hid (wq.ownsRow gp 3 1 (.slice (some ⟨gp, 0, none⟩) xs.length xs.length) xs.length (ps.map (fun (p : Nat) => Value.int .i64 (p : Int)) ++ List.replicate (xs.length - k) (Value.int .i64 0))) ∧ Hid (Below gp w9 wq))
            case first =>
              cases x with
              | true =>
                go_wp2_with fail
                go_meet
                case rel => exact ⟨rfl, rfl, [], .inl ⟨by trivial, rfl⟩, by rw [List.append_nil]; exact HOT4, HOP4, HBG4⟩
              | false =>
                obtain ⟨i5, hi5, hz50, hz51, hz52⟩ := info_parts infoU8
                go_wp2_with (at_builtin; refine wpList_append_own _ rfl _ _ 57 rfl (gp + 1) 5 i5 (.int .u8 0) 1 1 Tryz.underlying57 hi5 hz50 hz51 hz52 rfl (by decide) (.slice at' A.length ct) A.length (Lib.byteCells A) rfl (HOT4.out.alloc _) ⟨w4.heap.size, 0, none⟩ 1 1 [.int .u8 32] rfl rfl (fun j u hj => by rw [Addr.add_lit, Nat.zero_add]; cases j with | zero => cases hj; rw [Lib.cell_of_heap (Go.heap_alloc_new _ _)]; rfl | succ j => cases j <;> cases hj) (by intro u hu; cases List.mem_singleton.1 hu; rfl) (by unfold maxLen; omega) (by omega) (by have := HSZ4.out; simp; omega) ?_; intro v' w5 ho5 hg5 _; have HO5 := Lib.hid ho5; have HG5 := Lib.hid hg5; clear ho5 hg5)
                go_meet
                case rel =>
                  refine ⟨rfl, rfl, [32], .inr ⟨by trivial, rfl⟩, ?_, ?_, ?_⟩
                  · refine Lib.hid ?_
                    rw [List.length_append, byteCells_app]
                    exact HO5.out
                  · exact Lib.hid (World.ownsRow.kept (HOP4.out.alloc _) HG5.out (.inr (fun e => by have := own_ge HOT4.out gp (by rw [← e]; rfl); omega)))
                  · exact Lib.hid ((HBG4.out.alloc (by have := HSZ4.out; omega) _).grown HG5.out (by have := HSZ4.out; simp; omega) (fun q e => by have := own_ge HOT4.out q e; omega))
            case rest =>
              obtain ⟨rfl, rfl, gap, hgap, HOT5, HOP5, HBG5⟩ := hcut
              have HGAP := Lib.hid hgap
              have hgl : gap.length ≤ 1 := by rcases hgap with ⟨_, rfl⟩ | ⟨_, rfl⟩ <;> simp
              clear hgap
              have hplk : ps.length = k := by rw [hpl, List.length_take]; omega
              have HBN := Lib.hid (join_step HBU.out HSC.out hplk hlt HWL.out (HWD.out) HX.out HNR.out hf HGAP.out)
              obtain ⟨D, hD⟩ : ∃ D, A ++ gap = D := ⟨_, rfl⟩
              have hDl : D.length = A.length + gap.length := by rw [← hD, List.length_append]
              rw [hD] at HOT5 HBN
              have hDb : D.length ≤ 2001 := by omega
              clear hDl hgl hAz hD
              obtain ⟨a11, c11, rfl⟩ : ∃ a c, u11 = .slice a D.length c := by
                rcases HOT5.out.2 with ⟨h1, h2⟩ | ⟨gg, cap, cur, h1, _⟩
                · exact ⟨none, 0, by rw [h1, h2]⟩
                · exact ⟨_, _, h1⟩
              have p5 := HOP5.out.cellAt k (by omega)
              rw [List.getElem?_append_right (by rw [List.length_map]; omega), List.length_map, hplk, Nat.sub_self, List.getElem?_replicate, if_pos (by omega)] at p5
              have f5 := HOP5.out.frozenAt k
              have hst5 := (HOP5.out.stored k (.int .i64 (D.length : Int))).1
              rw [places_set hplk hlt] at hst5
              have HOP6 := Lib.hid hst5
              have HOT6 := Lib.hid (ownsRow_setCell_below HOT5.out (a := ⟨gp, k, none⟩) (show gp < gp + 1 by omega) (.int .i64 (D.length : Int)))
              have HBG6 := Lib.hid (HBG5.out.setCell (p := ⟨gp, k, none⟩) (Nat.le_refl _) (.int .i64 (D.length : Int)))
              have HSZ6 := Lib.hid (show gp + 1 ≤ (wc.setCell ⟨gp, k, none⟩ (.int .i64 (D.length : Int))).heap.size from (HOP6.out.lt gp rfl).2)
              clear hst5
              obtain ⟨w6, hw6⟩ : ∃ w6, wc.setCell ⟨gp, k, none⟩ (.int .i64 (D.length : Int)) = w6 := ⟨_, rfl⟩
              rw [hw6] at HOP6 HOT6 HBG6 HSZ6
              obtain ⟨i5, hi5, hz50, hz51, hz52⟩ := info_parts infoU8
              have hbig : ¬ (40000 : Int) < (D.length : Int) + (wd.size : Int) := by omega
              go_wp2_with (at_builtin; (try rw [hw6]); refine Lib.wpList_append_own_string _ rfl _ _ 57 9 rfl (gp + 1) 5 i5 Tryz.underlying57 Tryz.underlying9 hi5 hz50 hz51 hz52 (.slice a11 D.length c11) D.length (Lib.byteCells D) rfl HOT6.out wd rfl (by unfold maxLen; omega) (by omega) HSZ6.out ?_; intro v' w7 ho7 hg7 _; have HO7 := Lib.hid ho7; have HG7 := Lib.hid hg7; obtain ⟨a7, c7, rfl⟩ : ∃ a c, v' = .slice a (D.length + wd.size) c := slice_form ho7; clear ho7 hg7)
              go_round
              case rel => exact ⟨k + 1, D ++ wd.data.toList, ps ++ [D.length], by go_num, hlt, Lib.hid HBN.out.1, Lib.hid HBN.out.2, by rw [byteCells_app, List.length_append, ← Lib.size_eq]; exact HO7.out, World.ownsRow.kept HOP6.out HG7.out (.inr (fun e => by have := own_ge HOT6.out gp (by rw [← e]; rfl); omega)), HBG6.out.grown HG7.out (by have := HSZ6.out; omega) (fun q e => by have := own_ge HOT6.out q e; omega)⟩
              case measure => simp [intOf]; omega
        · have hkl : k = xs.length := by omega
          subst hkl
          rw [List.take_length] at HBU HSC
          have hback := text_back hot
          have hbe := HBP.out.trans (HB.out.mono (by rw [← HGP.out]; exact HBP.out.size))
          have HBE := Lib.hid hbe
          clear hot hop hb hbe
          go_wp2_with fail
          go_ret2
          exact ⟨⟨A, ps, rfl, HBU.out, HSC.out⟩, HBE.out⟩
end Go.Proofs.YtdkagjbedinhjaaGreat
end

section
namespace Go.Proofs.YtdkagjbedinhjaaGreat
open Go.RowKit Go.Shelf

theorem wordSum_succ (xs : List Tk) (k : Nat) (h : k < xs.length) : wordSum (xs.take (k + 1)) = wordSum (xs.take k) + (writtenT xs[k].1 xs[k].2.1.data.toList).length := by
  rw [← List.take_append_getElem h]
  unfold wordSum
  rw [List.map_append, List.sum_append]
  simp

set_option maxRecDepth 100000 in
set_option maxHeartbeats 4000000 in
theorem Join_any (l : List ByteArray) (v : Value) (T : ByteArray) (xs : List Tk) (u : Value) (w : World) (hv : HasStrs w v l) (h500 : l.length ≤ 500) (hc : kwCode [] l = 0) (hu : HasToks w u xs) (hT : T.size ≤ 40000) (hS : ∀ x ∈ xs, ∃ n, Stands (inK l) T x n) (hsum : wordSum xs ≤ 1000) (hy : xs.length ≤ 500) :
    Calls Tryz.prog 8 #[v, u] w fun e w' => (∃ (A : Bs) (ps : List Nat), e = .returned (.tuple #[.string (BA A), .int .i64 0]) ∧ Built (inK l) xs ps A ∧ scanR (inK l) (BA A) = (zipT xs ps, none)) ∧ Below w.heap.size w w' := by
  have HK := Lib.hid (known_any l v w hv h500)
  have HC := Lib.hid hc
  have HU := Lib.hid hu
  have HS := Lib.hid hS
  clear hv hc hu hS
  go_enter Tryz.func8, Tryz.ntmps8
  go_wp2_with fail
  (with_reducible refine HK.out.mono ?_)
  rintro e w1 ⟨h, hb⟩
  have HB := Lib.hid hb
  rcases h with ⟨_, rfl, hm⟩ | ⟨h, _⟩
  · have HJ := Lib.hid (join_any w.heap.size (inK l) T xs u w1 hm (HU.out.later hb) hT HS.out hsum hy)
    clear hm hb
    go_wp2_with fail
    (with_reducible refine HJ.out.mono ?_)
    rintro e w2 ⟨⟨A, ps, rfl, h1, h2⟩, hb2⟩
    have H1 := Lib.hid h1
    have H2 := Lib.hid h2
    have HB2 := Lib.hid (HB.out.trans (hb2.mono HB.out.size))
    clear hb2 h1 h2
    go_wp2_with fail
    go_ret2
    exact ⟨⟨A, ps, rfl, H1.out, H2.out⟩, HB2.out⟩
  · exact absurd HC.out h

set_option maxRecDepth 100000 in
set_option maxHeartbeats 4000000 in
theorem alike_any (xs ys : List Tk) (u v : Value) (w : World) (h1 : HasToks w u xs) (h2 : HasToks w v ys) (hx : xs.length ≤ 100000) (hy : ys.length ≤ 100000) :
    Calls Tryz.prog 10 #[u, v] w fun e w' => (∃ x : Bool, e = .returned (.bool x) ∧ (x = true ↔ Al xs ys)) ∧ Below w.heap.size w w' := by
  have HE := Lib.hid (equal_alike xs ys u v w h1 h2 hx hy)
  clear h1 h2
  go_enter Tryz.func10, Tryz.ntmps10
  go_wp2_with fail
  (with_reducible refine HE.out.mono ?_)
  rintro e w2 ⟨⟨x, rfl, hx⟩, hb2⟩
  have HX := Lib.hid hx
  have HB2 := Lib.hid hb2
  clear hb2 hx
  go_wp2_with fail
  go_ret
  exact ⟨⟨x, rfl, HX.out⟩, HB2.out⟩

set_option maxRecDepth 100000 in
set_option maxHeartbeats 4000000 in
theorem spaces_any (l : List ByteArray) (v : Value) (T : ByteArray) (xs : List Tk) (u : Value) (w : World) (hv : HasStrs w v l) (h500 : l.length ≤ 500) (hc : kwCode [] l = 0) (hu : HasToks w u xs) (hT : T.size ≤ 40000) (hS : ∀ x ∈ xs, ∃ n, Stands (inK l) T x n) (hsum : wordSum xs ≤ 1000) (hy : xs.length ≤ 500) :
    Calls Tryz.prog 9 #[v, u] w fun e w' => e = .returned (.int .i64 ((wordSum xs + (xs.length - 1) : Nat) : Int)) ∧ Below w.heap.size w w' := by
  obtain ⟨a, ca, g, o, rfl, _, ha, hca⟩ := hu
  have HCA := Lib.hid hca
  have HAA := Lib.hid ha
  have HV := Lib.hid hv
  have HC := Lib.hid hc
  have HS := Lib.hid hS
  clear hv hc hS ha hca
  go_enter Tryz.func9, Tryz.ntmps9
  go_wp2_with fail
  rw [show max ((xs.length : Int) - 1) 0 = ((xs.length - 1 : Nat) : Int) by omega]
  obtain ⟨n1, hn1⟩ : ∃ n1, xs.length - 1 = n1 := ⟨_, rfl⟩
  have hn1b : n1 ≤ 500 := by omega
  rw [hn1]
  have HN1 := Lib.hid hn1
  clear hn1
  go_loopw [5, 16] (fun s t wr => ∃ k : Nat, t = .int .i64 (k : Int) ∧ k ≤ xs.length ∧ s = .int .i64 ((n1 + wordSum (xs.take k) : Nat) : Int) ∧ Below w.heap.size w wr) (fun _ t _ => xs.length - (intOf t).toNat)
  case atStart => exact ⟨0, rfl, Nat.zero_le _, rfl, Below.refl _ _⟩
  case round =>
    obtain ⟨k, rfl, hk, rfl, hb⟩ := hrel
    have HB := Lib.hid hb
    by_cases hlt : k < xs.length
    · obtain ⟨hae, hga⟩ := HAA.out (by intro e; rw [e] at hlt; simp at hlt)
      obtain ⟨c0, c1, c2⟩ := HCA.out k hlt
      have x0 := (hb.cell (p := ⟨g, _, none⟩) hga).trans c0
      have x1 := (hb.cell (p := ⟨g, _, none⟩) hga).trans c1
      have x2 := (hb.cell (p := ⟨g, _, none⟩) hga).trans c2
      obtain ⟨n, hst⟩ := HS.out xs[k] (List.getElem_mem hlt)
      have hsm := wordSum_take xs k hlt
      have hsu := wordSum_succ xs k hlt
      obtain ⟨x, hx⟩ : ∃ x, xs[k] = x := ⟨_, rfl⟩
      rw [hx] at x0 x1 x2 hst hsm hsu
      obtain ⟨W, hW, hbW, _, _⟩ := tok_box wr x.1 x.2.1 (x.2.2 : Int)
      have hbw := hb.trans (hbW.mono hb.size)
      have HW := Lib.hid hW
      have HBW := Lib.hid hbw
      have HWR := Lib.hid (Write_stands escapes l v T x n W (HV.out.later hbw) h500 HC.out hT hst)
      rw [(word_stands hst).2] at HWR
      have hwz : (wordOf x).size = (writtenT x.1 x.2.1.data.toList).length := BA_size _
      obtain ⟨wd, hwd⟩ : ∃ wd, wordOf x = wd := ⟨_, rfl⟩
      obtain ⟨y, hy'⟩ : ∃ y, wordSum (xs.take k) = y := ⟨_, rfl⟩
      rw [hwd] at HWR hwz
      rw [← hwz] at hsm hsu
      rw [hy'] at hsm hsu ⊢
      have HSU := Lib.hid hsu
      subst hae
      clear c0 c1 c2 hb hW hbW hbw hx hst hwd hsu hwz hy'
      go_wp2_with fail
      rw [HW.out]
      (with_reducible refine HWR.out.mono ?_)
      rintro e w1 ⟨rfl, hb1⟩
      have HB1 := Lib.hid (HBW.out.trans (hb1.mono HBW.out.size))
      clear hb1
      go_wp2_with fail
      go_round
      case rel => exact ⟨k + 1, by go_num, hlt, by rw [HSU.out]; go_num, HB1.out⟩
      case measure => simp [intOf]; omega
    · have hkl : k = xs.length := by omega
      subst hkl
      rw [List.take_length]
      obtain ⟨y, hy'⟩ : ∃ y, wordSum xs = y := ⟨_, rfl⟩
      have HY := Lib.hid hy'
      have hyb : y ≤ 1000 := by omega
      rw [hy']
      clear hb hy'
      go_wp2_with fail
      go_ret
      exact ⟨ret_int (by rw [HN1.out, HY.out]; omega), HB.out⟩

theorem zip_al : ∀ (xs : List Tk) (ps : List Nat), ps.length = xs.length → Al xs (zipT xs ps)
  | [], [], _ => rfl
  | x :: r, p :: q, h => by
    have := zip_al r q (by simpa using h)
    unfold Al zipT at this ⊢
    simp only [List.zipWith_cons_cons, List.map_cons, this]
end Go.Proofs.YtdkagjbedinhjaaGreat
end

section
namespace Go.Proofs.YtdkagjbedinhjaaGreat
open Go.RowKit Go.Shelf

set_option maxRecDepth 100000 in
set_option maxHeartbeats 8000000 in
theorem back_bad (l : List ByteArray) (v : Value) (T : ByteArray) (w : World) (hv : HasStrs w v l) (hbad : kwCode [] l ≠ 0 ∨ ∃ xs p code, tokR l T = (xs, some (p, code))) :
    Calls Tryz.prog 3 #[v, .string T] w fun e w' => e = .returned (.bool true) ∧ Below w.heap.size w w' := by
  have HF := Lib.hid (show Calls Tryz.prog 5 #[.int .i64 400, v, .string T] w _ from few_any l v T 400 (by decide) w hv)
  have HV := Lib.hid hv
  have HBD := Lib.hid hbad
  have HW := Lib.hid awake_any
  clear hv hbad
  go_enter Tryz.func3, Tryz.ntmps3
  go_wp2_with fail
  (with_reducible refine HF.out.mono ?_)
  rintro e w' ⟨⟨x, rfl, hx⟩, rfl⟩
  have HX := Lib.hid hx
  clear hx
  cases x with
  | false =>
    go_wp2_with fail
    (with_reducible refine (HW.out _).mono ?_)
    rintro e w1 ⟨rfl, hb⟩
    have HB := Lib.hid hb
    clear hb
    go_wp2_with fail
    go_ret
    exact ⟨rfl, HB.out⟩
  | true =>
    obtain ⟨n1, n2⟩ := HX.out rfl
    have HS := Lib.hid (scan_bad2 l v T w HV.out (by omega) (by omega) HBD.out)
    go_wp2_with fail
    (with_reducible refine HS.out.mono ?_)
    rintro e w1 ⟨⟨p, code, hcode, hp, rfl⟩, hb⟩
    have HB := Lib.hid hb
    clear hb
    go_wp2_with fail
    (with_reducible refine (HW.out _).mono ?_)
    rintro e w2 ⟨rfl, hb2⟩
    have HB2 := Lib.hid (HB.out.trans (hb2.mono HB.out.size))
    clear hb2
    go_wp2_with fail
    go_ret
    exact ⟨rfl, HB2.out⟩

set_option maxRecDepth 100000 in
set_option maxHeartbeats 16000000 in
theorem back_ok (l : List ByteArray) (v : Value) (T : ByteArray) (w : World) (hv : HasStrs w v l) (hk : kwCode [] l = 0) {xs : List Tk} (ha : tokR l T = (xs, none)) :
    Calls Tryz.prog 3 #[v, .string T] w fun e w' => e = .returned (.bool true) ∧ Below w.heap.size w w' := by
  have HF := Lib.hid (show Calls Tryz.prog 5 #[.int .i64 400, v, .string T] w _ from few_any l v T 400 (by decide) w hv)
  have HV := Lib.hid hv
  have HK := Lib.hid hk
  have HA := Lib.hid ha
  have HXL := Lib.hid (show xs.length ≤ T.size + 1 by have := scan_len (inK l) T (T.size + 1) 0; rwa [show scanF (inK l) T (T.size + 1) 0 = (xs, none) from ha] at this)
  have HAS := Lib.hid (show Ascend (inK l) T 0 xs by have := scan_ascend (inK l) T (T.size + 1) 0 (Nat.zero_le _); rwa [show scanF (inK l) T (T.size + 1) 0 = (xs, none) from ha] at this)
  have HW := Lib.hid awake_any
  clear hv hk ha
  go_enter Tryz.func3, Tryz.ntmps3
  go_wp2_with fail
  (with_reducible refine HF.out.mono ?_)
  rintro e w' ⟨⟨x, rfl, hx⟩, rfl⟩
  have HX := Lib.hid hx
  clear hx
  cases x with
  | false =>
    go_wp2_with fail
    (with_reducible refine (HW.out _).mono ?_)
    rintro e w1 ⟨rfl, hb⟩
    have HB := Lib.hid hb
    clear hb
    go_wp2_with fail
    go_ret
    exact ⟨rfl, HB.out⟩
  | true =>
    obtain ⟨n1, n2⟩ := HX.out rfl
    have hxl := HXL.out
    have HS := Lib.hid (scan_good l v T w HV.out (by omega) (by omega) HK.out HA.out)
    go_wp2_with fail
    (with_reducible refine HS.out.mono ?_)
    rintro e w1 ⟨⟨u, rfl, hr⟩, hb⟩
    have HB := Lib.hid hb
    have HTK := Lib.hid (hasToks_row hr)
    have HV1 := Lib.hid (HV.out.later hb)
    have hST := ascend_stands xs 0 HAS.out
    have hsum := ascend_sum xs 0 (Nat.zero_le _) HAS.out
    have HST := Lib.hid hST
    have HJ := Lib.hid (Join_any l v T xs u w1 HV1.out (by omega) HK.out HTK.out (by omega) hST (by omega) (by omega))
    clear hb hr HS HF HX HA hST
    go_wp2_with fail
    (with_reducible refine HJ.out.mono ?_)
    rintro e w2 ⟨⟨A, ps, rfl, hbu, hsc⟩, hb2⟩
    have HBU := Lib.hid hbu
    have HSC := Lib.hid hsc
    have HB2 := Lib.hid (HB.out.trans (hb2.mono HB.out.size))
    have HTK2 := Lib.hid (HTK.out.later hb2)
    have HV2 := Lib.hid (HV1.out.later hb2)
    have hbd := hbu.bound
    have hAs : (BA A).size = A.length := BA_size A
    have HSP := Lib.hid (spaces_any l v T xs u w2 HV2.out (by omega) HK.out HTK2.out (by omega) HST.out (by omega) (by omega))
    have hle : (BA A).size ≤ wordSum xs + (xs.length - 1) := by rw [hAs]; exact hbd
    obtain ⟨s, hs⟩ : ∃ s, BA A = s := ⟨_, rfl⟩
    obtain ⟨z, hz⟩ : ∃ z, wordSum xs + (xs.length - 1) = z := ⟨_, rfl⟩
    have hzb : z ≤ 2000 := by omega
    rw [hs, hz] at hle
    rw [hz] at HSP
    rw [hs] at HSC ⊢
    have hgt : decide (z < s.size) = false := by simp; omega
    have hsb : s.size ≤ 40000 := by omega
    clear hb2 hbu hsc hbd hAs hs hz hsum hle
    go_wp2_with fail
    (with_reducible refine HSP.out.mono ?_)
    rintro e w3 ⟨rfl, hb3⟩
    have HB3 := Lib.hid (HB2.out.trans (hb3.mono HB2.out.size))
    have HTK3 := Lib.hid (HTK2.out.later hb3)
    have HV3 := Lib.hid (HV2.out.later hb3)
    have HS2 := Lib.hid (scan_good l v s w3 HV3.out (by omega) hsb HK.out HSC.out)
    clear hb3
    go_wp2_with fail
    (with_reducible refine HS2.out.mono ?_)
    rintro e w4 ⟨⟨u2, rfl, hr2⟩, hb4⟩
    have HB4 := Lib.hid (HB3.out.trans (hb4.mono HB3.out.size))
    have hpl := HBU.out.len
    have hzl : (zipT xs ps).length = xs.length := (al_len (zip_al xs ps hpl)).symm
    have HAL := Lib.hid (alike_any xs (zipT xs ps) u u2 w4 (HTK3.out.later hb4) (hasToks_row hr2) (by omega) (by omega))
    have HZA := Lib.hid (zip_al xs ps hpl)
    clear hb4 hr2 hpl hzl
    go_wp2_with fail
    (with_reducible refine HAL.out.mono ?_)
    rintro e w5 ⟨⟨x, rfl, hx⟩, hb5⟩
    obtain rfl : x = true := hx.2 HZA.out
    have HB5 := Lib.hid (HB4.out.trans (hb5.mono HB4.out.size))
    clear hb5 hx
    go_wp2_with fail
    (with_reducible refine (HW.out _).mono ?_)
    rintro e w6 ⟨rfl, hb6⟩
    have HB6 := Lib.hid (HB5.out.trans (hb6.mono HB5.out.size))
    clear hb6
    go_wp2_with fail
    go_ret
    exact ⟨rfl, HB6.out⟩

/-- Whatever the keywords and the text. -/
theorem tokenBack_walk (l : List ByteArray) (v : Value) (T : ByteArray) (w : World) (hv : HasStrs w v l) :
    Calls Tryz.prog 3 #[v, .string T] w fun e w' => e = .returned (.bool true) ∧ Below w.heap.size w w' := by
  by_cases hk : kwCode [] l = 0
  · cases ha : tokR l T with
    | mk xs o =>
      cases o with
      | some x => exact back_bad l v T w hv (.inr ⟨xs, x.1, x.2, ha⟩)
      | none => exact back_ok l v T w hv hk ha
  · exact back_bad l v T w hv (.inl hk)
end Go.Proofs.YtdkagjbedinhjaaGreat
end

