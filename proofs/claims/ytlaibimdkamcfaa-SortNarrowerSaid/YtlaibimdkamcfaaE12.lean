import Derived.Test.YtlaibimdkamcfaaE6
import Derived.Laws.AppendOwnNone
import Derived.Lib.AppendZerosOnto
import Derived.Deep.RegionHeld3
import Derived.LoopN
import Derived.Lib.Walk
import Derived.Outline
import Derived.Test.YtlaibimdkamcfaaE8
section
/-
  slices.Grow of nil, Concat of two slices of strings; Algebra.Meet.
-/
namespace Go.Proofs.Ytlaibimdkamcfaa
open Go.RowKit Go.Maps

theorem run_append_src {w : World} {base B2 n : Nat} {v vp : Value} {xs : List Value} {l : List ByteArray} (ty : TypeId) (hown : w.ownsRow base 9 1 v n xs) (hsrc : w.ownsRow B2 9 1 vp l.length (l.map Value.string)) (h : n + l.length ≤ 2000) (hb : base ≤ w.heap.size) :
    ∃ v' w', (Builtin.append_ #[27, 27] ty #[v, vp]).run Try.prog w = .ok v' w' ∧ w'.ownsRow base 9 1 v' (n + l.length) (xs ++ l.map Value.string) ∧ w.grownBy w' v.ownBlock := by
  obtain ⟨i9, hi9, hx0, hx1, hxb⟩ := info_parts Try.info9'
  rcases hsrc.2 with ⟨rfl, h0⟩ | ⟨g, cap, cur, rfl, _, hg, hcap, _, hcs, ht⟩
  · have hl : l = [] := List.eq_nil_of_length_eq_zero h0
    subst hl
    exact ⟨v, w, run_append_owned_none (P := Try.prog) (w := w) base 27 ty 9 i9 1 Try.underlying27 hi9 v n xs hown, by simpa using hown, World.grownBy.refl w _⟩
  · obtain ⟨v', w', hr, h1, h2, _⟩ := run_append_own (P := Try.prog) w base 27 ty 9 i9 (.string ByteArray.empty) 1 16 Try.underlying27 hi9 hx0 hx1 hxb rfl (by decide) v n xs hown ⟨g, 0, none⟩ l.length cap (l.map Value.string) (by simp)
      (fun j u hu => by
        rw [Go.WideShapes.add_plain, Nat.zero_add]
        have hj : j < l.length := by
          rcases Nat.lt_or_ge j l.length with hj | hj
          · exact hj
          · rw [List.getElem?_eq_none (by simpa using hj)] at hu; cases hu
        exact own_get hsrc hj hu)
      (fun u hu => by
        obtain ⟨s, _, rfl⟩ := List.mem_map.1 hu
        rfl)
      (by unfold maxLen; omega) (by omega) hb
    exact ⟨v', w', hr, h1, h2⟩

theorem zeroCells_size (z : Value) (h : z.cells.size = 1) (n : Nat) : (Builtin.zeroCells z.cells n).size = n := by
  unfold Builtin.zeroCells
  simp [h]

set_option maxRecDepth 100000 in
set_option maxHeartbeats 2000000 in
theorem grow_nil (n : Nat) (w : World) (hn : n ≤ 2000) :
    Calls Try.prog 89 #[.slice none 0 0, .int .i64 (n : Int)] w fun e w' => ∃ v, e = .returned v ∧ w'.ownsRow w.heap.size 9 1 v 0 [] ∧ Below w.heap.size w w' := by
  by_cases h0 : n = 0
  · subst h0
    go_enter Try.func89, Try.ntmps89
    go_wp2_with fail
    go_ret
    exact ⟨_, rfl, World.ownsRow_nil _ _ _ _, Below.refl _ _⟩
  · obtain ⟨i9, hi9, hx0, hx1, hxb⟩ := info_parts Try.info9'
    have hrz : ∀ ty, (Builtin.append_ #[27, 3] ty #[.slice none 0 0, .int .i64 (n : Int)]).run Try.prog w = _ := fun ty =>
      Lib.run_append_grow_zeros w 27 3 ty 9 i9 (.string ByteArray.empty) .i64 .i64 Try.underlying27 Try.underlying3 hi9 hx0 none 0 0 [] (run_firstCells_none _ _ _ _ _) n (by omega) (by rw [hx1]; decide) (by omega) (by omega) (by rw [hxb]; omega) (by rw [hxb]; exact growslice_fits (by omega) (by omega))
    simp only [Nat.zero_add] at hrz
    have hG := grownCap_ge w n 0 9
    have hG2 := grownCap_le_maxLen w n 0 9 (by unfold maxLen; omega)
    obtain ⟨G, hGe⟩ : ∃ G, G = grownCap w n 0 9 := ⟨_, rfl⟩
    rw [← hGe] at hrz hG hG2
    have hG63 : G ≤ 9223372036854775807 := by unfold maxLen at hG2; omega
    have hC0 : (([] : List Value).toArray ++ Builtin.zeroCells (Value.string ByteArray.empty).cells n ++ Builtin.zeroCells (Value.string ByteArray.empty).cells (G - n)).size = G := by
      simp only [Array.size_append]; rw [zeroCells_size _ rfl, zeroCells_size _ rfl]; simp; omega
    obtain ⟨C, hC⟩ : ∃ C, (([] : List Value).toArray ++ Builtin.zeroCells (Value.string ByteArray.empty).cells n ++ Builtin.zeroCells (Value.string ByteArray.empty).cells (G - n)) = C := ⟨_, rfl⟩
    rw [hC] at hC0 hrz
    have hrow : (w.alloc (.cells C 9)).drew.ownsRow w.heap.size 9 1 (.slice (some ⟨w.heap.size, 0, none⟩) 0 G) 0 [] := World.ownsRow_made w C G (Nat.le_refl _) hG2 (by omega)
    have hbl : Below w.heap.size w (w.alloc (.cells C 9)).drew := ((Below.refl _ w).alloc (Nat.le_refl _) _).drew
    clear hC hC0
    have HR := Lib.hid hrow
    have HB := Lib.hid hbl
    have HRZ := Lib.hid hrz
    clear hrow hbl hrz hGe
    go_enter Try.func89, Try.ntmps89
    go_wp2_with (at_builtin; refine Lib.wpList_append_run _ rfl _ _ _ _ rfl _ _ rfl rfl _ _ (HRZ.out _) ?_)
    go_ret
    exact ⟨_, rfl, HR.out, HB.out⟩

set_option maxRecDepth 100000 in
set_option maxHeartbeats 4000000 in
/-- slices.Concat of two slices of strings that are owned. -/
theorem concat_any (g B1 B2 : Nat) (vp vq : Value) (p q : List ByteArray) (w : World) (h0 : w.heap[g]? = some (.cells #[vp, vq] 27 (0, 0))) (hp : w.ownsRow B1 9 1 vp p.length (p.map Value.string)) (hq : w.ownsRow B2 9 1 vq q.length (q.map Value.string)) (hl : p.length + q.length ≤ 1000) :
    Calls Try.prog 77 #[.slice (some ⟨g, 0, none⟩) 2 2] w fun e w' => ∃ v, e = .returned v ∧ w'.ownsRow w.heap.size 9 1 v (p ++ q).length ((p ++ q).map Value.string) ∧ Below w.heap.size w w' := by
  have c0 : w.cell? ⟨g, 0, none⟩ = some vp := by rw [Lib.cell_of_heap h0]; rfl
  have c1 : w.cell? ⟨g, 1, none⟩ = some vq := by rw [Lib.cell_of_heap h0]; rfl
  obtain ⟨pa, pc, rfl⟩ := own_slice hp
  obtain ⟨qa, qc, rfl⟩ := own_slice hq
  have H0 := Lib.hid h0
  have HP := Lib.hid hp
  have HQ := Lib.hid hq
  clear h0 hp hq
  go_enter Try.func77, Try.ntmps77
  go_wp2_with fail
  refine wp_loop_rounds 3 ?_
  rw [rounds_succ]
  go_wp2_with fail
  rw [rounds_succ]
  go_wp2_with fail
  rw [rounds_succ]
  go_wp2_with fail
  have hgr := grow_nil (p.length + q.length) w (by omega)
  rw [Int.natCast_add] at hgr
  refine hgr.mono ?_
  rintro e w2 ⟨v2, rfl, ho2, hb2⟩
  have hgl := (Array.getElem?_eq_some_iff.1 H0.out).1
  have k0 := (hb2.cell (p := ⟨g, 0, none⟩) hgl).trans c0
  have k1 := (hb2.cell (p := ⟨g, 1, none⟩) hgl).trans c1
  have HP2 := Lib.hid ((KeepT.below 0 hb2).own (by decide) HP.out)
  have HQ2 := Lib.hid ((KeepT.below 0 hb2).own (by decide) HQ.out)
  obtain ⟨a2, c2, rfl⟩ := own_slice ho2
  obtain ⟨v3, w3, hr3, ho3, hg3⟩ := run_append_src 27 ho2 HP2.out (by omega) hb2.size
  simp only [Nat.zero_add, List.nil_append] at ho3
  have hb3 : Below w.heap.size w w3 := hb2.grown hg3 hb2.size (fun k e => (ho2.lt k e).1)
  have l0 := (hb3.cell (p := ⟨g, 0, none⟩) hgl).trans c0
  have l1 := (hb3.cell (p := ⟨g, 1, none⟩) hgl).trans c1
  have HQ3 : w3.ownsRow B2 9 1 (.slice qa q.length qc) q.length (q.map Value.string) := by
    have h := HQ.out
    refine ⟨h.1, ?_⟩
    rcases h.2 with h0 | ⟨g', cap', cur, hv, hB, hh, rest⟩
    · exact .inl h0
    · exact .inr ⟨g', cap', cur, hv, hB, (hb3.block g' (Array.getElem?_eq_some_iff.1 hh).1).trans hh, rest⟩
  obtain ⟨v4, w4, hr4, ho4, hg4⟩ := run_append_src 27 ho3 HQ3 (by omega) hb3.size
  have hb4 : Below w.heap.size w w4 := hb3.grown hg4 hb3.size (fun k e => (ho3.lt k e).1)
  obtain ⟨a3, c3, rfl⟩ := own_slice ho3
  obtain ⟨a4, c4, rfl⟩ := own_slice ho4
  have HO4 := Lib.hid ho4
  have HB4 := Lib.hid hb4
  have HR3 := Lib.hid hr3
  have HR4 := Lib.hid hr4
  clear ho2 ho3 ho4 hb2 hb3 hb4 hr3 hr4 hg3 hg4 HQ3 hgr c0 c1 hgl
  go_wp2_with fail
  refine wp_loop_rounds 3 ?_
  rw [rounds_succ]
  go_wp2_with (at_builtin; refine Lib.wpList_append_run _ rfl _ _ _ _ rfl _ _ rfl rfl _ _ HR3.out ?_)
  rw [rounds_succ]
  go_wp2_with (at_builtin; refine Lib.wpList_append_run _ rfl _ _ _ _ rfl _ _ rfl rfl _ _ HR4.out ?_)
  rw [rounds_succ]
  go_wp2_with fail
  go_ret
  refine ⟨_, rfl, ?_, HB4.out⟩
  have h := HO4.out
  rw [List.length_append, List.map_append]
  exact h
end Go.Proofs.Ytlaibimdkamcfaa

/-
  Algebra.Meet.
-/
namespace Go.Proofs.Ytlaibimdkamcfaa
open Go.RowKit Go.Maps

/-- What Meet answers. -/
def MeetOut (K : ByteArray → Bool) (B : ByteArray → ByteArray → Bool) (x y : List ByteArray) (base : Nat) (e : Ending) (w' : World) : Prop :=
  (sortErr K x ≠ 0 ∧ e = .returned (.tuple #[.slice none 0 0, .int .i64 (sortErr K x)])) ∨
  (sortErr K x = 0 ∧ sortErr K y ≠ 0 ∧ e = .returned (.tuple #[.slice none 0 0, .int .i64 (sortErr K y)])) ∨
  (sortErr K x = 0 ∧ sortErr K y = 0 ∧ ∃ p q r, IsNormalOf ltS B x p ∧ IsNormalOf ltS B y q ∧ IsNormalOf ltS B (p ++ q) r ∧
    ((20 < r.length ∧ e = .returned (.tuple #[.slice none 0 0, .int .i64 5])) ∨ (r.length ≤ 20 ∧ ∃ v, e = .returned (.tuple #[v, .int .i64 0]) ∧ w'.ownsRow base 9 1 v r.length (r.map Value.string))))

theorem own_later {W W' : World} {B e n k : Nat} {v : Value} {xs : List Value} (h : W.ownsRow B e k v n xs) (hb : Below W.heap.size W W') : W'.ownsRow B e k v n xs := by
  refine ⟨h.1, ?_⟩
  rcases h.2 with h0 | ⟨g', cap', cur, hv, hB, hh, rest⟩
  · exact .inl h0
  · exact .inr ⟨g', cap', cur, hv, hB, (hb.block g' (Array.getElem?_eq_some_iff.1 hh).1).trans hh, rest⟩

set_option maxRecDepth 100000 in
set_option maxHeartbeats 4000000 in
theorem meet_any (A : Alg) (na ua aa ta : Option Addr) (nl nc ul uc bc tl tc mb nm ab ao : Nat) (tm sm : Option Nat) (D : DataW Unit) (xb xo xc yb yo yc : Nat) (xa ya : Option Addr) (x y : List ByteArray) (w : World) (h : AlgAt A w mb nm ab ao D) (haa : 0 < A.n → aa = some ⟨ab, ao, none⟩) (hm : mb < w.heap.size) (ha : ab < w.heap.size)
    (hxa : x ≠ [] → xa = some ⟨xb, xo, none⟩) (hx : StrsAt w xb xo x) (hlx : x.length ≤ 9223372036854775807) (hya : y ≠ [] → ya = some ⟨yb, yo, none⟩) (hy : StrsAt w yb yo y) (hly : y.length ≤ 9223372036854775807) :
    Calls Try.prog 53 #[.agg #[.slice na nl nc, .map (some mb), .slice ua ul uc, .slice aa A.n bc, .slice ta tl tc, .map tm, .map sm], .slice xa x.length xc, .slice ya y.length yc] w fun e w' => MeetOut A.known A.below x y w.heap.size e w' ∧ Below w.heap.size w w' := by
  have HX := Lib.hid hx
  have HXA := Lib.hid hxa
  have HY := Lib.hid hy
  have HYA := Lib.hid hya
  have HA := Lib.hid h
  have HAA := Lib.hid haa
  clear h hx hxa haa hy hya
  have hb0 : Below w.heap.size w (w.alloc (.cells #[.slice na nl nc, .map (some mb), .slice ua ul uc, .slice aa A.n bc, .slice ta tl tc, .map tm, .map sm] 70)) := (Below.refl _ w).alloc (Nat.le_refl _) _
  have hc0 := heap_alloc_new w (.cells #[.slice na nl nc, .map (some mb), .slice ua ul uc, .slice aa A.n bc, .slice ta tl tc, .map tm, .map sm] 70)
  have hs0 : (w.alloc (.cells #[.slice na nl nc, .map (some mb), .slice ua ul uc, .slice aa A.n bc, .slice ta tl tc, .map tm, .map sm] 70)).heap.size = w.heap.size + 1 := by simp
  have HB0 := Lib.hid hb0
  have HC0 := Lib.hid hc0
  have HS0 := Lib.hid hs0
  clear hb0 hc0 hs0
  go_enter Try.func53, Try.ntmps53
  go_wp2_with fail
  generalize (w.alloc (.cells #[.slice na nl nc, .map (some mb), .slice ua ul uc, .slice aa A.n bc, .slice ta tl tc, .map tm, .map sm] 70)) = w1 at *
  refine (normal_any A na ua aa ta nl nc ul uc bc tl tc mb nm ab ao tm sm D xb xo xc xa x w1 (HA.out.below HB0.out hm ha) HAA.out (Nat.lt_of_lt_of_le hm HB0.out.size) (Nat.lt_of_lt_of_le ha HB0.out.size) HXA.out (HX.out.later HB0.out) hlx).mono ?_
  rintro e w2 ⟨hN1, hb2⟩
  have HB12 := Lib.hid hb2
  have HB2 := Lib.hid (HB0.out.trans (hb2.mono HB0.out.size))
  have HC2 := Lib.hid ((hb2.block w.heap.size (by rw [HS0.out]; omega)).trans HC0.out)
  clear hb2
  rcases hN1 with ⟨hE1, rfl⟩ | ⟨hE1, v1, p, rfl, hp, ho1⟩
  · have q1 : (sortErr A.known x == 0) = false := by simpa using hE1
    have q2 : (sortErr A.known x != 0) = true := by simpa using hE1
    have HE1 := Lib.hid hE1
    obtain ⟨E1, hE1e⟩ : ∃ E, sortErr A.known x = E := ⟨_, rfl⟩
    have HEE := Lib.hid hE1e
    rw [hE1e] at q1 q2 ⊢
    clear hE1 hE1e
    go_wp2_with fail
    go_ret2
    exact ⟨.inl ⟨HE1.out, by rw [HEE.out]; rfl⟩, HB2.out⟩
  · have HE1 := Lib.hid hE1
    have HP := Lib.hid hp
    have HO1 := Lib.hid ho1
    obtain ⟨a1, c1, rfl⟩ := own_slice ho1
    obtain ⟨g0, g1, g2, g3, g4, g5, g6⟩ := alg_cells HC2.out
    clear hE1 hp ho1
    go_wp2_with fail
    refine (normal_any A na ua aa ta nl nc ul uc bc tl tc mb nm ab ao tm sm D yb yo yc ya y w2 (HA.out.below HB2.out hm ha) HAA.out (Nat.lt_of_lt_of_le hm HB2.out.size) (Nat.lt_of_lt_of_le ha HB2.out.size) HYA.out (HY.out.later HB2.out) hly).mono ?_
    rintro e w3 ⟨hN2, hb3⟩
    have HB3 := Lib.hid (HB2.out.trans (hb3.mono HB2.out.size))
    have HO13 := Lib.hid (own_later HO1.out hb3)
    have HG2 := Lib.hid (show w.heap.size < w2.heap.size from by have := HB12.out.size; have := HS0.out; omega)
    have HC3 := Lib.hid ((hb3.block w.heap.size HG2.out).trans HC2.out)
    have HG3 := Lib.hid (Nat.lt_of_lt_of_le HG2.out hb3.size)
    clear hb3 g0 g1 g2 g3 g4 g5 g6
    rcases hN2 with ⟨hE2, rfl⟩ | ⟨hE2, v2, q, rfl, hq, ho2⟩
    · have q1 : (sortErr A.known y == 0) = false := by simpa using hE2
      have q2 : (sortErr A.known y != 0) = true := by simpa using hE2
      have HE2 := Lib.hid hE2
      obtain ⟨E2, hE2e⟩ : ∃ E, sortErr A.known y = E := ⟨_, rfl⟩
      have HEE := Lib.hid hE2e
      rw [hE2e] at q1 q2 ⊢
      clear hE2 hE2e
      go_wp2_with fail
      go_ret2
      exact ⟨.inr (.inl ⟨HE1.out, HE2.out, by rw [HEE.out]; rfl⟩), HB3.out⟩
    · have HE2 := Lib.hid hE2
      have HQ := Lib.hid hq
      have HO2 := Lib.hid ho2
      obtain ⟨a2, c2, rfl⟩ := own_slice ho2
      obtain ⟨g0, g1, g2, g3, g4, g5, g6⟩ := alg_cells HC3.out
      have hlp : p.length ≤ 20 := by have := HP.out.len; have := (sortErr_zero HE1.out).1; omega
      have hlq : q.length ≤ 20 := by have := HQ.out.len; have := (sortErr_zero HE2.out).1; omega
      have hsz : ∀ z, z ∈ p ++ q → z.size ≤ maxLen := fun z hz => by
        rcases List.mem_append.1 hz with hz | hz
        · obtain ⟨i, hi, rfl⟩ := List.getElem_of_mem ((HP.out.mem z).1 hz).1
          exact HX.out.size i hi
        · obtain ⟨i, hi, rfl⟩ := List.getElem_of_mem ((HQ.out.mem z).1 hz).1
          exact HY.out.size i hi
      have hl40 : (p ++ q).length ≤ 40 := by rw [List.length_append]; omega
      obtain ⟨pq, hpq⟩ : ∃ s, p ++ q = s := ⟨_, rfl⟩
      rw [hpq] at hsz hl40
      have HSZ := Lib.hid hsz
      have HPQ := Lib.hid hpq
      clear hpq
      clear hE2 hq ho2 hsz
      go_wp2_with fail
      have k0 : w3.drew.cell? ⟨w.heap.size, 0, none⟩ = some (.slice na nl nc) := g0
      have k1 : w3.drew.cell? ⟨w.heap.size, 1, none⟩ = some (.map (some mb)) := g1
      have k2 : w3.drew.cell? ⟨w.heap.size, 2, none⟩ = some (.slice ua ul uc) := g2
      have k3 : w3.drew.cell? ⟨w.heap.size, 3, none⟩ = some (.slice aa A.n bc) := g3
      have k4 : w3.drew.cell? ⟨w.heap.size, 4, none⟩ = some (.slice ta tl tc) := g4
      have k5 : w3.drew.cell? ⟨w.heap.size, 5, none⟩ = some (.map tm) := g5
      have k6 : w3.drew.cell? ⟨w.heap.size, 6, none⟩ = some (.map sm) := g6
      have b4 : Below w3.heap.size w3 (w3.alloc (.cells #[.slice a1 p.length c1, .slice a2 q.length c2] 27)).drew := ((Below.refl _ _).alloc (Nat.le_refl _) _).drew
      have HB4 := Lib.hid (HB3.out.trans (b4.mono HB3.out.size))
      have HNB := Lib.hid (show (w3.alloc (.cells #[.slice a1 p.length c1, .slice a2 q.length c2] 27)).drew.heap[w3.heap.size]? = some (.cells #[.slice a1 p.length c1, .slice a2 q.length c2] 27 (0, 0)) from heap_alloc_new w3 _)
      have HPo := Lib.hid (own_later HO13.out b4)
      have HQo := Lib.hid (own_later HO2.out b4)
      have HC4 := Lib.hid ((b4.block w.heap.size HG3.out).trans HC3.out)
      have HG4 := Lib.hid (Nat.lt_of_lt_of_le HG3.out b4.size)
      clear b4
      obtain ⟨j0, j1, j2, j3, j4, j5, j6⟩ := alg_cells HC4.out
      go_region_held3 (fun W => W.cell? ⟨w.heap.size, 0, none⟩ = some (.slice na nl nc) ∧ W.cell? ⟨w.heap.size, 1, none⟩ = some (.map (some mb)) ∧ W.cell? ⟨w.heap.size, 2, none⟩ = some (.slice ua ul uc) ∧ W.cell? ⟨w.heap.size, 3, none⟩ = some (.slice aa A.n bc) ∧ W.cell? ⟨w.heap.size, 4, none⟩ = some (.slice ta tl tc) ∧ W.cell? ⟨w.heap.size, 5, none⟩ = some (.map tm) ∧ W.cell? ⟨w.heap.size, 6, none⟩ = some (.map sm))
        (refine ⟨?_, ?_, ?_, ?_, ?_, ?_, ?_⟩ <;> first | assumption | exact j0 | exact j1 | exact j2 | exact j3 | exact j4 | exact j5 | exact j6)
        ((first
          | (go_at_call 77
             refine (concat_any w3.heap.size w1.heap.size w2.heap.size _ _ p q (w3.alloc (.cells #[.slice a1 p.length c1, .slice a2 q.length c2] 27)).drew HNB.out HPo.out HQo.out (by omega)).mono ?_
             rintro e w5 ⟨v5, rfl, ho5, hb5⟩
             have HB5 := Lib.hid (HB4.out.trans (hb5.mono HB4.out.size))
             rw [HPQ.out] at ho5
             obtain ⟨a5, b5, c5, rfl, ha5, hs5⟩ := own_arg ho5 HSZ.out
             have HA5 := Lib.hid ha5
             have HS5 := Lib.hid hs5
             have HC5 := Lib.hid ((hb5.block w.heap.size HG4.out).trans HC4.out)
             have HG5 := Lib.hid (Nat.lt_of_lt_of_le HG4.out hb5.size)
             obtain ⟨l0, l1, l2, l3, l4, l5, l6⟩ := alg_cells HC5.out
             clear ho5 hb5 ha5 hs5)
          | (go_at_call 75
             refine (least_any A na ua aa ta nl nc ul uc bc tl tc mb nm ab ao tm sm D b5 0 c5 a5 pq w5 (HA.out.below HB5.out hm ha) HAA.out (Nat.lt_of_lt_of_le hm HB5.out.size) (Nat.lt_of_lt_of_le ha HB5.out.size) HA5.out HS5.out (by omega)).mono ?_
             rintro e w6 ⟨v6, r, rfl, hr, ho6, hb6⟩
             have HB6 := Lib.hid (HB5.out.trans (hb6.mono HB5.out.size))
             have HO6 := Lib.hid ho6
             have HR := Lib.hid hr
             have HW5 := Lib.hid HB5.out.size
             obtain ⟨a6, c6, rfl⟩ := own_slice ho6
             have hr40 : r.length ≤ 40 := by have := HR.out.len; omega
             obtain ⟨m0, m1, m2, m3, m4, m5, m6⟩ := alg_cells ((hb6.block w.heap.size HG5.out).trans HC5.out)
             clear ho6 hr hb6)))
      go_wp2_with fail
      · rename_i hl20
        go_ret2
        refine ⟨.inr (.inr ⟨HE1.out, HE2.out, p, q, r, HP.out, HQ.out, ?_, .inl ⟨by omega, rfl⟩⟩), HB6.out⟩
        rw [HPQ.out]; exact HR.out
      · rename_i hl20
        go_ret2
        refine ⟨.inr (.inr ⟨HE1.out, HE2.out, p, q, r, HP.out, HQ.out, ?_, .inr ⟨by omega, _, rfl, own_mono HO6.out HW5.out⟩⟩), HB6.out⟩
        rw [HPQ.out]; exact HR.out
end Go.Proofs.Ytlaibimdkamcfaa
end

section
/-
  sort.Meet of a theory.
-/
namespace Go.Proofs.Ytlaibimdkamcfaa
open Go.RowKit Go.Maps

set_option maxRecDepth 100000 in
set_option maxHeartbeats 2000000 in
theorem sortMeet_any (nm : ByteArray) (ca ta ra oa ya qa : Option Addr) (cc tn tc rn rc on oc yn yc qn qc cb co : Nat) (cs : List Cls) (xb xo xc yb yo yc' : Nat) (xa za : Option Addr) (x y : List ByteArray) (w : World)
    (hca : cs ≠ [] → ca = some ⟨cb, co, none⟩) (hcs : ClassesAt w cb co cs) (hcl : cs.length ≤ maxLen) (hxa : x ≠ [] → xa = some ⟨xb, xo, none⟩) (hx : StrsAt w xb xo x) (hlx : x.length ≤ 9223372036854775807)
    (hya : y ≠ [] → za = some ⟨yb, yo, none⟩) (hy : StrsAt w yb yo y) (hly : y.length ≤ 9223372036854775807) :
    Calls Try.prog 22 #[.agg #[.string nm, .slice ca cs.length cc, .slice ta tn tc, .slice ra rn rc, .slice oa on oc, .slice ya yn yc, .slice qa qn qc], .slice xa x.length xc, .slice za y.length yc'] w fun e w' =>
      ((openErr cs ≠ 0 ∧ e = .returned (.tuple #[.slice none 0 0, .int .i64 (openErr cs)])) ∨
       (openErr cs = 0 ∧ MeetOut (knownB cs) (belowB cs) x y w.heap.size e w')) ∧ Below w.heap.size w w' := by
  have HX := Lib.hid hx
  have HXA := Lib.hid hxa
  have HY := Lib.hid hy
  have HYA := Lib.hid hya
  have HCS := Lib.hid hcs
  have HCA := Lib.hid hca
  clear hx hxa hy hya hcs hca
  have hb0 : Below w.heap.size w (w.alloc (.cells #[.string nm, .slice ca cs.length cc, .slice ta tn tc, .slice ra rn rc, .slice oa on oc, .slice ya yn yc, .slice qa qn qc] 29)) := (Below.refl _ w).alloc (Nat.le_refl _) _
  have HB0 := Lib.hid hb0
  have HOP := Lib.hid (openClasses_opened cb co cc ca cs (w.alloc (.cells #[.string nm, .slice ca cs.length cc, .slice ta tn tc, .slice ra rn rc, .slice oa on oc, .slice ya yn yc, .slice qa qn qc] 29)) HCA.out (HCS.out.later hb0) hcl)
  clear hb0
  go_enter Try.func22, Try.ntmps22
  go_wp2_with fail
  generalize (w.alloc (.cells #[.string nm, .slice ca cs.length cc, .slice ta tn tc, .slice ra rn rc, .slice oa on oc, .slice ya yn yc, .slice qa qn qc] 29)) = w1 at *
  refine HOP.out.mono ?_
  rintro e w2 (⟨hE, rfl, hb2⟩ | ⟨v, rfl, hop⟩)
  · obtain ⟨E, hEE⟩ : ∃ E, openErr cs = E := ⟨_, rfl⟩
    rw [hEE]
    have hE1 : (openErr cs == 0) = false := by simpa using hE
    have hE2 : (openErr cs != 0) = true := by simpa using hE
    have HB2 := Lib.hid (HB0.out.trans (hb2.mono HB0.out.size))
    unfold zeroAlg
    rw [hEE] at hE1 hE2 hE
    have HNE := Lib.hid hE
    have HEE := Lib.hid hEE
    clear hE hb2 hEE
    have hb3 : Below w2.heap.size w2 (w2.alloc (.cells #[.slice none 0 0, .map none, .slice none 0 0, .slice none 0 0, .slice none 0 0, .map none, .map none] 70)) := (Below.refl _ _).alloc (Nat.le_refl _) _
    have HB3 := Lib.hid hb3
    clear hb3
    go_wp2_with fail
    go_ret2
    refine ⟨.inl ⟨fun h => HNE.out (HEE.out.symm.trans h), ?_⟩, HB2.out.trans (HB3.out.mono HB2.out.size)⟩
    rw [HEE.out]; rfl
  · obtain ⟨hO, ⟨A, na, ua, aa, nl, nc, ul, uc, bc, mb, nm', ab, D, rfl, hat, haa, hmb, hab, hk, hbl⟩, hb2⟩ := hop
    have hkk : A.known = knownB cs := funext hk
    have hbe : A.below = belowB cs := funext fun x => funext fun y => hbl x y
    have hb3 : Below w2.heap.size w2 (w2.alloc (.cells #[.slice na nl nc, .map (some mb), .slice ua ul uc, .slice aa A.n bc, .slice none 0 0, .map none, .map none] 70)) := (Below.refl _ _).alloc (Nat.le_refl _) _
    have HB03 := Lib.hid ((HB0.out.trans (hb2.mono HB0.out.size)).trans (hb3.mono (Nat.le_trans HB0.out.size hb2.size)))
    have HNO := Lib.hid (meet_any A na ua aa none nl nc ul uc bc 0 0 mb nm' ab 0 none none D xb xo xc yb yo yc' xa za x y _ (hat.below hb3 hmb hab) haa (Nat.lt_of_lt_of_le hmb hb3.size) (Nat.lt_of_lt_of_le hab hb3.size) HXA.out (HX.out.later HB03.out) hlx HYA.out (HY.out.later HB03.out) hly)
    rw [hkk, hbe] at HNO
    have HO := Lib.hid hO
    have HWS := Lib.hid HB03.out.size
    clear hbe hkk hb3 hb2 hO hat haa hmb hab hk hbl
    go_wp2_with fail
    generalize (w2.alloc (.cells #[.slice na nl nc, .map (some mb), .slice ua ul uc, .slice aa A.n bc, .slice none 0 0, .map none, .map none] 70)) = w3 at *
    refine HNO.out.mono ?_
    rintro e w4 ⟨hm, hb4⟩
    have HB4 := Lib.hid (HB03.out.trans (hb4.mono HWS.out))
    clear hb4
    rcases hm with ⟨hx1, rfl⟩ | ⟨hx1, hy1, rfl⟩ | ⟨hx1, hy1, p, q, r, hp, hq, hr, (⟨hlr, rfl⟩ | ⟨hlr, v, rfl, ho⟩)⟩
    · obtain ⟨E, hEE⟩ : ∃ E, sortErr (knownB cs) x = E := ⟨_, rfl⟩
      have HX1 := Lib.hid hx1
      have HEE := Lib.hid hEE
      rw [hEE]
      clear hx1 hEE
      go_wp2_with fail
      go_ret2
      refine ⟨.inr ⟨HO.out, .inl ⟨HX1.out, ?_⟩⟩, HB4.out⟩
      rw [HEE.out]; rfl
    · obtain ⟨E, hEE⟩ : ∃ E, sortErr (knownB cs) y = E := ⟨_, rfl⟩
      have HX1 := Lib.hid hx1
      have HY1 := Lib.hid hy1
      have HEE := Lib.hid hEE
      rw [hEE]
      clear hx1 hy1 hEE
      go_wp2_with fail
      go_ret2
      refine ⟨.inr ⟨HO.out, .inr (.inl ⟨HX1.out, HY1.out, ?_⟩)⟩, HB4.out⟩
      rw [HEE.out]; rfl
    · have H1 := Lib.hid hx1
      have H2 := Lib.hid hy1
      have H3 := Lib.hid hp
      have H4 := Lib.hid hq
      have H5 := Lib.hid hr
      have H6 := Lib.hid hlr
      clear hx1 hy1 hp hq hr hlr
      go_wp2_with fail
      go_ret2
      exact ⟨.inr ⟨HO.out, .inr (.inr ⟨H1.out, H2.out, p, q, r, H3.out, H4.out, H5.out, .inl ⟨H6.out, rfl⟩⟩)⟩, HB4.out⟩
    · have H1 := Lib.hid hx1
      have H2 := Lib.hid hy1
      have H3 := Lib.hid hp
      have H4 := Lib.hid hq
      have H5 := Lib.hid hr
      have H6 := Lib.hid hlr
      have H7 := Lib.hid ho
      obtain ⟨a6, c6, rfl⟩ := own_slice ho
      clear hx1 hy1 hp hq hr hlr ho
      go_wp2_with fail
      go_ret2
      exact ⟨.inr ⟨HO.out, .inr (.inr ⟨H1.out, H2.out, p, q, r, H3.out, H4.out, H5.out, .inr ⟨H6.out, _, rfl, own_mono H7.out HWS.out⟩⟩)⟩, HB4.out⟩
end Go.Proofs.Ytlaibimdkamcfaa
end

section
/-
  What a statement on a theory and sorts asks of Normal, Meet, Less and awake, at any later world.
-/
namespace Go.Proofs.Ytlaibimdkamcfaa
open Go.RowKit Go.Maps

/-- A slice of classes at hand. -/
def SortAt (W : World) (a : Option Addr) (x : List ByteArray) : Prop := ∃ b o, (x ≠ [] → a = some ⟨b, o, none⟩) ∧ StrsAt W b o x ∧ x.length ≤ 9223372036854775807

theorem SortAt.later {W W' : World} {a : Option Addr} {x : List ByteArray} (h : SortAt W a x) (hb : Below W.heap.size W W') : SortAt W' a x := by
  obtain ⟨b, o, h1, h2, h3⟩ := h
  exact ⟨b, o, h1, h2.later hb, h3⟩

theorem SortAt.size {W : World} {a : Option Addr} {x : List ByteArray} (h : SortAt W a x) : ∀ z, z ∈ x → z.size ≤ maxLen := by
  obtain ⟨b, o, _, h2, _⟩ := h
  intro z hz
  obtain ⟨i, hi, rfl⟩ := List.getElem_of_mem hz
  exact h2.size i hi

theorem sortAt_own {W : World} {B n : Nat} {v : Value} {l : List ByteArray} (h : W.ownsRow B 9 1 v n (l.map Value.string)) (hs : ∀ x, x ∈ l → x.size ≤ maxLen) (hl : l.length ≤ 9223372036854775807) : ∃ a c, v = .slice a l.length c ∧ SortAt W a l := by
  obtain ⟨a, b, c, e, h1, h2⟩ := own_arg h hs
  exact ⟨a, c, e, b, 0, h1, h2, hl⟩

section
variable (nm : ByteArray) (ca ta ra oa ya qa : Option Addr) (cc tn tc rn rc on oc yn yc qn qc cb co : Nat) (cs : List Cls)

def thyCells : Array Value := #[.string nm, .slice ca cs.length cc, .slice ta tn tc, .slice ra rn rc, .slice oa on oc, .slice ya yn yc, .slice qa qn qc]

/-- A theory at hand: its box, its classes. -/
structure ThyAt (g : Nat) (W : World) : Prop where
  thy : Thy cs cb co g (thyCells nm ca ta ra oa ya qa cc tn tc rn rc on oc yn yc qn qc cs) W
  cla : cs ≠ [] → ca = some ⟨cb, co, none⟩
  len : cs.length ≤ maxLen

variable {nm : ByteArray} {ca ta ra oa ya qa : Option Addr} {cc tn tc rn rc on oc yn yc qn qc cb co : Nat} {cs : List Cls} {g : Nat}

theorem ThyAt.later {W W' : World} (h : ThyAt nm ca ta ra oa ya qa cc tn tc rn rc on oc yn yc qn qc cb co cs g W) (hb : Below W.heap.size W W') : ThyAt nm ca ta ra oa ya qa cc tn tc rn rc on oc yn yc qn qc cb co cs g W' := ⟨h.thy.later hb, h.cla, h.len⟩

theorem ThyAt.cells {W : World} (h : ThyAt nm ca ta ra oa ya qa cc tn tc rn rc on oc yn yc qn qc cb co cs g W) :
    W.cell? ⟨g, 0, none⟩ = some (.string nm) ∧ W.cell? ⟨g, 1, none⟩ = some (.slice ca cs.length cc) ∧ W.cell? ⟨g, 2, none⟩ = some (.slice ta tn tc) ∧ W.cell? ⟨g, 3, none⟩ = some (.slice ra rn rc) ∧ W.cell? ⟨g, 4, none⟩ = some (.slice oa on oc) ∧ W.cell? ⟨g, 5, none⟩ = some (.slice ya yn yc) ∧ W.cell? ⟨g, 6, none⟩ = some (.slice qa qn qc) := thy_cells h.thy.box

theorem normal_uni {W : World} (h : ThyAt nm ca ta ra oa ya qa cc tn tc rn rc on oc yn yc qn qc cb co cs g W) {a : Option Addr} {x : List ByteArray} {c : Nat} (hx : SortAt W a x) :
    Calls Try.prog 20 #[.agg #[.string nm, .slice ca cs.length cc, .slice ta tn tc, .slice ra rn rc, .slice oa on oc, .slice ya yn yc, .slice qa qn qc], .slice a x.length c] W fun e W' =>
      ∃ (b : Option Addr) (r : List ByteArray) (d : Nat) (E : Int), e = .returned (.tuple #[.slice b r.length d, .int .i64 E]) ∧ (E = 0 → normErr cs x = 0 ∧ IsNormalOf ltS (belowB cs) x r ∧ SortAt W' b r) ∧ Below W.heap.size W W' := by
  obtain ⟨xb, xo, h1, h2, h3⟩ := hx
  refine (sortNormal_any nm ca ta ra oa ya qa cc tn tc rn rc on oc yn yc qn qc cb co cs xb xo c a x W h.cla h.thy.cls h.len h1 h2 h3).mono ?_
  rintro e W' ⟨(⟨hE, rfl⟩ | ⟨hE, v, r, rfl, hr, ho⟩), hb⟩
  · exact ⟨none, [], 0, _, rfl, fun e0 => absurd e0 hE, hb⟩
  · have hs : ∀ z, z ∈ r → z.size ≤ maxLen := fun z hz => SortAt.size ⟨xb, xo, h1, h2, h3⟩ z ((hr.mem z).1 hz).1
    obtain ⟨b, d, rfl, hS⟩ := sortAt_own ho hs (Nat.le_trans hr.len h3)
    exact ⟨b, r, d, 0, rfl, fun _ => ⟨hE, hr, hS⟩, hb⟩

theorem meet_uni {W : World} (h : ThyAt nm ca ta ra oa ya qa cc tn tc rn rc on oc yn yc qn qc cb co cs g W) {a a' : Option Addr} {x y : List ByteArray} {c c' : Nat} (hx : SortAt W a x) (hy : SortAt W a' y) :
    Calls Try.prog 22 #[.agg #[.string nm, .slice ca cs.length cc, .slice ta tn tc, .slice ra rn rc, .slice oa on oc, .slice ya yn yc, .slice qa qn qc], .slice a x.length c, .slice a' y.length c'] W fun e W' =>
      ∃ (b : Option Addr) (r : List ByteArray) (d : Nat) (E : Int), e = .returned (.tuple #[.slice b r.length d, .int .i64 E]) ∧ (E = 0 → ∃ p q, IsNormalOf ltS (belowB cs) x p ∧ IsNormalOf ltS (belowB cs) y q ∧ IsNormalOf ltS (belowB cs) (p ++ q) r ∧ SortAt W' b r) ∧ Below W.heap.size W W' := by
  obtain ⟨xb, xo, h1, h2, h3⟩ := hx
  obtain ⟨yb, yo, k1, k2, k3⟩ := hy
  refine (sortMeet_any nm ca ta ra oa ya qa cc tn tc rn rc on oc yn yc qn qc cb co cs xb xo c yb yo c' a a' x y W h.cla h.thy.cls h.len h1 h2 h3 k1 k2 k3).mono ?_
  rintro e W' ⟨(⟨hE, rfl⟩ | ⟨hO, (⟨hE, rfl⟩ | ⟨_, hE, rfl⟩ | ⟨_, _, p, q, r, hp, hq, hr, (⟨_, rfl⟩ | ⟨hl, v, rfl, ho⟩)⟩)⟩), hb⟩
  · exact ⟨none, [], 0, _, rfl, fun e0 => absurd e0 hE, hb⟩
  · exact ⟨none, [], 0, _, rfl, fun e0 => absurd e0 hE, hb⟩
  · exact ⟨none, [], 0, _, rfl, fun e0 => absurd e0 hE, hb⟩
  · exact ⟨none, [], 0, _, rfl, fun e0 => absurd e0 (by decide), hb⟩
  · have hs : ∀ z, z ∈ r → z.size ≤ maxLen := fun z hz => by
      rcases List.mem_append.1 ((hr.mem z).1 hz).1 with hz | hz
      · exact SortAt.size ⟨xb, xo, h1, h2, h3⟩ z ((hp.mem z).1 hz).1
      · exact SortAt.size ⟨yb, yo, k1, k2, k3⟩ z ((hq.mem z).1 hz).1
    obtain ⟨b, d, rfl, hS⟩ := sortAt_own ho hs (by omega)
    exact ⟨b, r, d, 0, rfl, fun _ => ⟨p, q, hp, hq, hr, hS⟩, hb⟩

theorem less_uni {W0 : World} (h : ThyAt nm ca ta ra oa ya qa cc tn tc rn rc on oc yn yc qn qc cb co cs g W0) (hO : openErr cs = 0) (W : World) {a a' : Option Addr} {x y : List ByteArray} {c c' : Nat} (hx : Hid (SortAt W0 a x)) (hy : Hid (SortAt W0 a' y)) (hb : Hid (Below W0.heap.size W0 W)) :
    Calls Try.prog 16 #[.agg #[.string nm, .slice ca cs.length cc, .slice ta tn tc, .slice ra rn rc, .slice oa on oc, .slice ya yn yc, .slice qa qn qc], .slice a x.length c, .slice a' y.length c'] W fun e W' =>
      ∃ L, e = .returned (.bool L) ∧ Hid (lessB (knownB cs) (belowB cs) x y = L) ∧ Hid (Below W0.heap.size W0 W') ∧ W'.cell? ⟨g, 0, none⟩ = some (.string nm) ∧ W'.cell? ⟨g, 1, none⟩ = some (.slice ca cs.length cc) ∧ W'.cell? ⟨g, 2, none⟩ = some (.slice ta tn tc) ∧ W'.cell? ⟨g, 3, none⟩ = some (.slice ra rn rc) ∧ W'.cell? ⟨g, 4, none⟩ = some (.slice oa on oc) ∧ W'.cell? ⟨g, 5, none⟩ = some (.slice ya yn yc) ∧ W'.cell? ⟨g, 6, none⟩ = some (.slice qa qn qc) := by
  obtain ⟨xb, xo, h1, h2, h3⟩ := hx.out.later hb.out
  obtain ⟨yb, yo, k1, k2, k3⟩ := hy.out.later hb.out
  have hT := h.later hb.out
  refine (sortLess_any nm ca ta ra oa ya qa cc tn tc rn rc on oc yn yc qn qc cb co cs xb xo c yb yo c' a a' x y W hT.cla hT.thy.cls hT.len h1 h2 (by unfold maxLen; omega) k1 k2 (by unfold maxLen; omega) hO).mono ?_
  rintro e W' ⟨rfl, hb'⟩
  exact ⟨_, rfl, Lib.hid rfl, Lib.hid (hb.out.trans (hb'.mono hb.out.size)), (hT.later hb').cells⟩

theorem awake_uni {W0 : World} (h : ThyAt nm ca ta ra oa ya qa cc tn tc rn rc on oc yn yc qn qc cb co cs g W0) (W : World) (hb : Hid (Below W0.heap.size W0 W)) :
    Calls Try.prog 11 #[] W fun e W' => e = .returned (.bool true) ∧ Hid (Below W0.heap.size W0 W') ∧ W'.cell? ⟨g, 0, none⟩ = some (.string nm) ∧ W'.cell? ⟨g, 1, none⟩ = some (.slice ca cs.length cc) ∧ W'.cell? ⟨g, 2, none⟩ = some (.slice ta tn tc) ∧ W'.cell? ⟨g, 3, none⟩ = some (.slice ra rn rc) ∧ W'.cell? ⟨g, 4, none⟩ = some (.slice oa on oc) ∧ W'.cell? ⟨g, 5, none⟩ = some (.slice ya yn yc) ∧ W'.cell? ⟨g, 6, none⟩ = some (.slice qa qn qc) := by
  have hT := h.later hb.out
  refine (awake_any W).mono ?_
  rintro e W' ⟨rfl, hb'⟩
  exact ⟨rfl, Lib.hid (hb.out.trans (hb'.mono hb.out.size)), (hT.later hb').cells⟩
end

theorem short_three {n m k : Nat} : shortB [n, m, k] = true ↔ n ≤ 25 ∧ m ≤ 25 ∧ k ≤ 25 := by
  unfold shortB
  simp [List.any_cons]
end Go.Proofs.Ytlaibimdkamcfaa
end

