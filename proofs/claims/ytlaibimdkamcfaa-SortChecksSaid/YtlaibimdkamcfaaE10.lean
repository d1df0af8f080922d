/-
  slices.Grow of nil, Concat of two slices of strings; Algebra.Meet.
-/
import Derived.Test.YtlaibimdkamcfaaE6
import Derived.Laws.AppendOwnNone
import Derived.Lib.AppendZerosOnto
import Derived.Deep.RegionHeld3
import Derived.LoopN
import Derived.Lib.Walk
import Derived.Outline
namespace Go.Proofs.Ytlaibimdkamcfaa
open Go.RowKit Go.Maps

theorem run_append_src {w : World} {base B2 n : Nat} {v vp : Value} {xs : List Value} {l : List ByteArray} (ty : TypeId) (hown : w.ownsRow base 9 1 v n xs) (hsrc : w.ownsRow B2 9 1 vp l.length (l.map Value.string)) (h : n + l.length ≤ 2000) (hb : base ≤ w.heap.size) :
    ∃ v' w', (Builtin.append_ #[27, 27] ty #[v, vp]).run Try.prog w = .ok v' w' ∧ w'.ownsRow base 9 1 v' (n + l.length) (xs ++ l.map Value.string) ∧ w.grownBy w' v.ownBlock := by
  obtain ⟨i9, hi9, hx0, hx1, hxb⟩ := info_parts Try.info9'
  rcases hsrc.2 with ⟨rfl, h0⟩ | ⟨g, cap, cur, rfl, _, hg, hcap, _, hcs, ht⟩
  · have hl : l = [] := List.eq_nil_of_length_eq_zero h0
    subst hl
    exact ⟨v, w, run_append_owned_none (P := Try.prog) (w := w) base 27 ty 9 i9 1 Try.underlying27 hi9 v n xs hown, by simpa using hown, World.grownBy.refl w _⟩
  · obtain ⟨v', w', hr, h1, h2, _⟩ := run_append_own (P := Try.prog) w base 27 ty 9 i9 (.string ByteArray.empty) 1 16 Try.underlying27 hi9 hx0 hx1 hxb rfl (by decide) v n xs hown ⟨g, 0, none⟩ l.length cap (l.map Value.string) (by simp)
      (fun j u hu => by
        rw [Go.WideShapes.add_plain, Nat.zero_add]
        have hj : j < l.length := by
          rcases Nat.lt_or_ge j l.length with hj | hj
          · exact hj
          · rw [List.getElem?_eq_none (by simpa using hj)] at hu; cases hu
        exact own_get hsrc hj hu)
      (fun u hu => by
        obtain ⟨s, _, rfl⟩ := List.mem_map.1 hu
        rfl)
      (by unfold maxLen; omega) (by omega) hb
    exact ⟨v', w', hr, h1, h2⟩

theorem zeroCells_size (z : Value) (h : z.cells.size = 1) (n : Nat) : (Builtin.zeroCells z.cells n).size = n := by
  unfold Builtin.zeroCells
  simp [h]

set_option maxRecDepth 100000 in
set_option maxHeartbeats 2000000 in
theorem grow_nil (n : Nat) (w : World) (hn : n ≤ 2000) :
    Calls Try.prog 89 #[.slice none 0 0, .int .i64 (n : Int)] w fun e w' => ∃ v, e = .returned v ∧ w'.ownsRow w.heap.size 9 1 v 0 [] ∧ Below w.heap.size w w' := by
  by_cases h0 : n = 0
  · subst h0
    go_enter Try.func89, Try.ntmps89
    go_wp2_with fail
    go_ret
    exact ⟨_, rfl, World.ownsRow_nil _ _ _ _, Below.refl _ _⟩
  · obtain ⟨i9, hi9, hx0, hx1, hxb⟩ := info_parts Try.info9'
    have hrz : ∀ ty, (Builtin.append_ #[27, 3] ty #[.slice none 0 0, .int .i64 (n : Int)]).run Try.prog w = _ := fun ty =>
      Lib.run_append_grow_zeros w 27 3 ty 9 i9 (.string ByteArray.empty) .i64 .i64 Try.underlying27 Try.underlying3 hi9 hx0 none 0 0 [] (run_firstCells_none _ _ _ _ _) n (by omega) (by rw [hx1]; decide) (by omega) (by omega) (by rw [hxb]; omega) (by rw [hxb]; exact growslice_fits (by omega) (by omega))
    simp only [Nat.zero_add] at hrz
    have hG := grownCap_ge w n 0 9
    have hG2 := grownCap_le_maxLen w n 0 9 (by unfold maxLen; omega)
    obtain ⟨G, hGe⟩ : ∃ G, G = grownCap w n 0 9 := ⟨_, rfl⟩
    rw [← hGe] at hrz hG hG2
    have hG63 : G ≤ 9223372036854775807 := by unfold maxLen at hG2; omega
    have hC0 : (([] : List Value).toArray ++ Builtin.zeroCells (Value.string ByteArray.empty).cells n ++ Builtin.zeroCells (Value.string ByteArray.empty).cells (G - n)).size = G := by
      simp only [Array.size_append]; rw [zeroCells_size _ rfl, zeroCells_size _ rfl]; simp; omega
    obtain ⟨C, hC⟩ : ∃ C, (([] : List Value).toArray ++ Builtin.zeroCells (Value.string ByteArray.empty).cells n ++ Builtin.zeroCells (Value.string ByteArray.empty).cells (G - n)) = C := ⟨_, rfl⟩
    rw [hC] at hC0 hrz
    have hrow : (w.alloc (.cells C 9)).drew.ownsRow w.heap.size 9 1 (.slice (some ⟨w.heap.size, 0, none⟩) 0 G) 0 [] := World.ownsRow_made w C G (Nat.le_refl _) hG2 (by omega)
    have hbl : Below w.heap.size w (w.alloc (.cells C 9)).drew := ((Below.refl _ w).alloc (Nat.le_refl _) _).drew
    clear hC hC0
    have HR := Lib.hid hrow
    have HB := Lib.hid hbl
    have HRZ := Lib.hid hrz
    clear hrow hbl hrz hGe
    go_enter Try.func89, Try.ntmps89
    go_wp2_with (at_builtin; refine Lib.wpList_append_run _ rfl _ _ _ _ rfl _ _ rfl rfl _ _ (HRZ.out _) ?_)
    go_ret
    exact ⟨_, rfl, HR.out, HB.out⟩

set_option maxRecDepth 100000 in
set_option maxHeartbeats 4000000 in
/-- slices.Concat of two slices of strings that are owned. -/
theorem concat_any (g B1 B2 : Nat) (vp vq : Value) (p q : List ByteArray) (w : World) (h0 : w.heap[g]? = some (.cells #[vp, vq] 27 (0, 0))) (hp : w.ownsRow B1 9 1 vp p.length (p.map Value.string)) (hq : w.ownsRow B2 9 1 vq q.length (q.map Value.string)) (hl : p.length + q.length ≤ 1000) :
    Calls Try.prog 77 #[.slice (some ⟨g, 0, none⟩) 2 2] w fun e w' => ∃ v, e = .returned v ∧ w'.ownsRow w.heap.size 9 1 v (p ++ q).length ((p ++ q).map Value.string) ∧ Below w.heap.size w w' := by
  have c0 : w.cell? ⟨g, 0, none⟩ = some vp := by rw [Lib.cell_of_heap h0]; rfl
  have c1 : w.cell? ⟨g, 1, none⟩ = some vq := by rw [Lib.cell_of_heap h0]; rfl
  obtain ⟨pa, pc, rfl⟩ := own_slice hp
  obtain ⟨qa, qc, rfl⟩ := own_slice hq
  have H0 := Lib.hid h0
  have HP := Lib.hid hp
  have HQ := Lib.hid hq
  clear h0 hp hq
  go_enter Try.func77, Try.ntmps77
  go_wp2_with fail
  refine wp_loop_rounds 3 ?_
  rw [rounds_succ]
  go_wp2_with fail
  rw [rounds_succ]
  go_wp2_with fail
  rw [rounds_succ]
  go_wp2_with fail
  have hgr := grow_nil (p.length + q.length) w (by omega)
  rw [Int.natCast_add] at hgr
  refine hgr.mono ?_
  rintro e w2 ⟨v2, rfl, ho2, hb2⟩
  have hgl := (Array.getElem?_eq_some_iff.1 H0.out).1
  have k0 := (hb2.cell (p := ⟨g, 0, none⟩) hgl).trans c0
  have k1 := (hb2.cell (p := ⟨g, 1, none⟩) hgl).trans c1
  have HP2 := Lib.hid ((KeepT.below 0 hb2).own (by decide) HP.out)
  have HQ2 := Lib.hid ((KeepT.below 0 hb2).own (by decide) HQ.out)
  obtain ⟨a2, c2, rfl⟩ := own_slice ho2
  obtain ⟨v3, w3, hr3, ho3, hg3⟩ := run_append_src 27 ho2 HP2.out (by omega) hb2.size
  simp only [Nat.zero_add, List.nil_append] at ho3
  have hb3 : Below w.heap.size w w3 := hb2.grown hg3 hb2.size (fun k e => (ho2.lt k e).1)
  have l0 := (hb3.cell (p := ⟨g, 0, none⟩) hgl).trans c0
  have l1 := (hb3.cell (p := ⟨g, 1, none⟩) hgl).trans c1
  have HQ3 : w3.ownsRow B2 9 1 (.slice qa q.length qc) q.length (q.map Value.string) := by
    have h := HQ.out
    refine ⟨h.1, ?_⟩
    rcases h.2 with h0 | ⟨g', cap', cur, hv, hB, hh, rest⟩
    · exact .inl h0
    · exact .inr ⟨g', cap', cur, hv, hB, (hb3.block g' (Array.getElem?_eq_some_iff.1 hh).1).trans hh, rest⟩
  obtain ⟨v4, w4, hr4, ho4, hg4⟩ := run_append_src 27 ho3 HQ3 (by omega) hb3.size
  have hb4 : Below w.heap.size w w4 := hb3.grown hg4 hb3.size (fun k e => (ho3.lt k e).1)
  obtain ⟨a3, c3, rfl⟩ := own_slice ho3
  obtain ⟨a4, c4, rfl⟩ := own_slice ho4
  have HO4 := Lib.hid ho4
  have HB4 := Lib.hid hb4
  have HR3 := Lib.hid hr3
  have HR4 := Lib.hid hr4
  clear ho2 ho3 ho4 hb2 hb3 hb4 hr3 hr4 hg3 hg4 HQ3 hgr c0 c1 hgl
  go_wp2_with fail
  refine wp_loop_rounds 3 ?_
  rw [rounds_succ]
  go_wp2_with (at_builtin; refine Lib.wpList_append_run _ rfl _ _ _ _ rfl _ _ rfl rfl _ _ HR3.out ?_)
  rw [rounds_succ]
  go_wp2_with (at_builtin; refine Lib.wpList_append_run _ rfl _ _ _ _ rfl _ _ rfl rfl _ _ HR4.out ?_)
  rw [rounds_succ]
  go_wp2_with fail
  go_ret
  refine ⟨_, rfl, ?_, HB4.out⟩
  have h := HO4.out
  rw [List.length_append, List.map_append]
  exact h
end Go.Proofs.Ytlaibimdkamcfaa

/-
  Algebra.Meet.
-/
namespace Go.Proofs.Ytlaibimdkamcfaa
open Go.RowKit Go.Maps

/-- What Meet answers. -/
def MeetOut (K : ByteArray → Bool) (B : ByteArray → ByteArray → Bool) (x y : List ByteArray) (base : Nat) (e : Ending) (w' : World) : Prop :=
  (sortErr K x ≠ 0 ∧ e = .returned (.tuple #[.slice none 0 0, .int .i64 (sortErr K x)])) ∨
  (sortErr K x = 0 ∧ sortErr K y ≠ 0 ∧ e = .returned (.tuple #[.slice none 0 0, .int .i64 (sortErr K y)])) ∨
  (sortErr K x = 0 ∧ sortErr K y = 0 ∧ ∃ p q r, IsNormalOf ltS B x p ∧ IsNormalOf ltS B y q ∧ IsNormalOf ltS B (p ++ q) r ∧
    ((20 < r.length ∧ e = .returned (.tuple #[.slice none 0 0, .int .i64 5])) ∨ (r.length ≤ 20 ∧ ∃ v, e = .returned (.tuple #[v, .int .i64 0]) ∧ w'.ownsRow base 9 1 v r.length (r.map Value.string))))

theorem own_later {W W' : World} {B e n k : Nat} {v : Value} {xs : List Value} (h : W.ownsRow B e k v n xs) (hb : Below W.heap.size W W') : W'.ownsRow B e k v n xs := by
  refine ⟨h.1, ?_⟩
  rcases h.2 with h0 | ⟨g', cap', cur, hv, hB, hh, rest⟩
  · exact .inl h0
  · exact .inr ⟨g', cap', cur, hv, hB, (hb.block g' (Array.getElem?_eq_some_iff.1 hh).1).trans hh, rest⟩

set_option maxRecDepth 100000 in
set_option maxHeartbeats 4000000 in
theorem meet_any (A : Alg) (na ua aa ta : Option Addr) (nl nc ul uc bc tl tc mb nm ab ao : Nat) (tm sm : Option Nat) (D : DataW Unit) (xb xo xc yb yo yc : Nat) (xa ya : Option Addr) (x y : List ByteArray) (w : World) (h : AlgAt A w mb nm ab ao D) (haa : 0 < A.n → aa = some ⟨ab, ao, none⟩) (hm : mb < w.heap.size) (ha : ab < w.heap.size)
    (hxa : x ≠ [] → xa = some ⟨xb, xo, none⟩) (hx : StrsAt w xb xo x) (hlx : x.length ≤ 9223372036854775807) (hya : y ≠ [] → ya = some ⟨yb, yo, none⟩) (hy : StrsAt w yb yo y) (hly : y.length ≤ 9223372036854775807) :
    Calls Try.prog 53 #[.agg #[.slice na nl nc, .map (some mb), .slice ua ul uc, .slice aa A.n bc, .slice ta tl tc, .map tm, .map sm], .slice xa x.length xc, .slice ya y.length yc] w fun e w' => MeetOut A.known A.below x y w.heap.size e w' ∧ Below w.heap.size w w' := by
  have HX := Lib.hid hx
  have HXA := Lib.hid hxa
  have HY := Lib.hid hy
  have HYA := Lib.hid hya
  have HA := Lib.hid h
  have HAA := Lib.hid haa
  clear h hx hxa haa hy hya
  have hb0 : Below w.heap.size w (w.alloc (.cells #[.slice na nl nc, .map (some mb), .slice ua ul uc, .slice aa A.n bc, .slice ta tl tc, .map tm, .map sm] 70)) := (Below.refl _ w).alloc (Nat.le_refl _) _
  have hc0 := heap_alloc_new w (.cells #[.slice na nl nc, .map (some mb), .slice ua ul uc, .slice aa A.n bc, .slice ta tl tc, .map tm, .map sm] 70)
  have hs0 : (w.alloc (.cells #[.slice na nl nc, .map (some mb), .slice ua ul uc, .slice aa A.n bc, .slice ta tl tc, .map tm, .map sm] 70)).heap.size = w.heap.size + 1 := by simp
  have HB0 := Lib.hid hb0
  have HC0 := Lib.hid hc0
  have HS0 := Lib.hid hs0
  clear hb0 hc0 hs0
  go_enter Try.func53, Try.ntmps53
  go_wp2_with fail
  generalize (w.alloc (.cells #[.slice na nl nc, .map (some mb), .slice ua ul uc, .slice aa A.n bc, .slice ta tl tc, .map tm, .map sm] 70)) = w1 at *
  refine (normal_any A na ua aa ta nl nc ul uc bc tl tc mb nm ab ao tm sm D xb xo xc xa x w1 (HA.out.below HB0.out hm ha) HAA.out (Nat.lt_of_lt_of_le hm HB0.out.size) (Nat.lt_of_lt_of_le ha HB0.out.size) HXA.out (HX.out.later HB0.out) hlx).mono ?_
  rintro e w2 ⟨hN1, hb2⟩
  have HB12 := Lib.hid hb2
  have HB2 := Lib.hid (HB0.out.trans (hb2.mono HB0.out.size))
  have HC2 := Lib.hid ((hb2.block w.heap.size (by rw [HS0.out]; omega)).trans HC0.out)
  clear hb2
  rcases hN1 with ⟨hE1, rfl⟩ | ⟨hE1, v1, p, rfl, hp, ho1⟩
  · have q1 : (sortErr A.known x == 0) = false := by simpa using hE1
    have q2 : (sortErr A.known x != 0) = true := by simpa using hE1
    have HE1 := Lib.hid hE1
    obtain ⟨E1, hE1e⟩ : ∃ E, sortErr A.known x = E := ⟨_, rfl⟩
    have HEE := Lib.hid hE1e
    rw [hE1e] at q1 q2 ⊢
    clear hE1 hE1e
    go_wp2_with fail
    go_ret2
    exact ⟨.inl ⟨HE1.out, by rw [HEE.out]; rfl⟩, HB2.out⟩
  · have HE1 := Lib.hid hE1
    have HP := Lib.hid hp
    have HO1 := Lib.hid ho1
    obtain ⟨a1, c1, rfl⟩ := own_slice ho1
    obtain ⟨g0, g1, g2, g3, g4, g5, g6⟩ := alg_cells HC2.out
    clear hE1 hp ho1
    go_wp2_with fail
    refine (normal_any A na ua aa ta nl nc ul uc bc tl tc mb nm ab ao tm sm D yb yo yc ya y w2 (HA.out.below HB2.out hm ha) HAA.out (Nat.lt_of_lt_of_le hm HB2.out.size) (Nat.lt_of_lt_of_le ha HB2.out.size) HYA.out (HY.out.later HB2.out) hly).mono ?_
    rintro e w3 ⟨hN2, hb3⟩
    have HB3 := Lib.hid (HB2.out.trans (hb3.mono HB2.out.size))
    have HO13 := Lib.hid (own_later HO1.out hb3)
    have HG2 := Lib.hid (show w.heap.size < w2.heap.size from by have := HB12.out.size; have := HS0.out; omega)
    have HC3 := Lib.hid ((hb3.block w.heap.size HG2.out).trans HC2.out)
    have HG3 := Lib.hid (Nat.lt_of_lt_of_le HG2.out hb3.size)
    clear hb3 g0 g1 g2 g3 g4 g5 g6
    rcases hN2 with ⟨hE2, rfl⟩ | ⟨hE2, v2, q, rfl, hq, ho2⟩
    · have q1 : (sortErr A.known y == 0) = false := by simpa using hE2
      have q2 : (sortErr A.known y != 0) = true := by simpa using hE2
      have HE2 := Lib.hid hE2
      obtain ⟨E2, hE2e⟩ : ∃ E, sortErr A.known y = E := ⟨_, rfl⟩
      have HEE := Lib.hid hE2e
      rw [hE2e] at q1 q2 ⊢
      clear hE2 hE2e
      go_wp2_with fail
      go_ret2
      exact ⟨.inr (.inl ⟨HE1.out, HE2.out, by rw [HEE.out]; rfl⟩), HB3.out⟩
    · have HE2 := Lib.hid hE2
      have HQ := Lib.hid hq
      have HO2 := Lib.hid ho2
      obtain ⟨a2, c2, rfl⟩ := own_slice ho2
      obtain ⟨g0, g1, g2, g3, g4, g5, g6⟩ := alg_cells HC3.out
      have hlp : p.length ≤ 20 := by have := HP.out.len; have := (sortErr_zero HE1.out).1; omega
      have hlq : q.length ≤ 20 := by have := HQ.out.len; have := (sortErr_zero HE2.out).1; omega
      have hsz : ∀ z, z ∈ p ++ q → z.size ≤ maxLen := fun z hz => by
        rcases List.mem_append.1 hz with hz | hz
        · obtain ⟨i, hi, rfl⟩ := List.getElem_of_mem ((HP.out.mem z).1 hz).1
          exact HX.out.size i hi
        · obtain ⟨i, hi, rfl⟩ := List.getElem_of_mem ((HQ.out.mem z).1 hz).1
          exact HY.out.size i hi
      have hl40 : (p ++ q).length ≤ 40 := by rw [List.length_append]; omega
      obtain ⟨pq, hpq⟩ : ∃ s, p ++ q = s := ⟨_, rfl⟩
      rw [hpq] at hsz hl40
      have HSZ := Lib.hid hsz
      have HPQ := Lib.hid hpq
      clear hpq
      clear hE2 hq ho2 hsz
      go_wp2_with fail
      have k0 : w3.drew.cell? ⟨w.heap.size, 0, none⟩ = some (.slice na nl nc) := g0
      have k1 : w3.drew.cell? ⟨w.heap.size, 1, none⟩ = some (.map (some mb)) := g1
      have k2 : w3.drew.cell? ⟨w.heap.size, 2, none⟩ = some (.slice ua ul uc) := g2
      have k3 : w3.drew.cell? ⟨w.heap.size, 3, none⟩ = some (.slice aa A.n bc) := g3
      have k4 : w3.drew.cell? ⟨w.heap.size, 4, none⟩ = some (.slice ta tl tc) := g4
      have k5 : w3.drew.cell? ⟨w.heap.size, 5, none⟩ = some (.map tm) := g5
      have k6 : w3.drew.cell? ⟨w.heap.size, 6, none⟩ = some (.map sm) := g6
      have b4 : Below w3.heap.size w3 (w3.alloc (.cells #[.slice a1 p.length c1, .slice a2 q.length c2] 27)).drew := ((Below.refl _ _).alloc (Nat.le_refl _) _).drew
      have HB4 := Lib.hid (HB3.out.trans (b4.mono HB3.out.size))
      have HNB := Lib.hid (show (w3.alloc (.cells #[.slice a1 p.length c1, .slice a2 q.length c2] 27)).drew.heap[w3.heap.size]? = some (.cells #[.slice a1 p.length c1, .slice a2 q.length c2] 27 (0, 0)) from heap_alloc_new w3 _)
      have HPo := Lib.hid (own_later HO13.out b4)
      have HQo := Lib.hid (own_later HO2.out b4)
      have HC4 := Lib.hid ((b4.block w.heap.size HG3.out).trans HC3.out)
      have HG4 := Lib.hid (Nat.lt_of_lt_of_le HG3.out b4.size)
      clear b4
      obtain ⟨j0, j1, j2, j3, j4, j5, j6⟩ := alg_cells HC4.out
      go_region_held3 (fun W => W.cell? ⟨w.heap.size, 0, none⟩ = some (.slice na nl nc) ∧ W.cell? ⟨w.heap.size, 1, none⟩ = some (.map (some mb)) ∧ W.cell? ⟨w.heap.size, 2, none⟩ = some (.slice ua ul uc) ∧ W.cell? ⟨w.heap.size, 3, none⟩ = some (.slice aa A.n bc) ∧ W.cell? ⟨w.heap.size, 4, none⟩ = some (.slice ta tl tc) ∧ W.cell? ⟨w.heap.size, 5, none⟩ = some (.map tm) ∧ W.cell? ⟨w.heap.size, 6, none⟩ = some (.map sm))
        (refine ⟨?_, ?_, ?_, ?_, ?_, ?_, ?_⟩ <;> first | assumption | exact j0 | exact j1 | exact j2 | exact j3 | exact j4 | exact j5 | exact j6)
        ((first
          | (go_at_call 77
             refine (concat_any w3.heap.size w1.heap.size w2.heap.size _ _ p q (w3.alloc (.cells #[.slice a1 p.length c1, .slice a2 q.length c2] 27)).drew HNB.out HPo.out HQo.out (by omega)).mono ?_
             rintro e w5 ⟨v5, rfl, ho5, hb5⟩
             have HB5 := Lib.hid (HB4.out.trans (hb5.mono HB4.out.size))
             rw [HPQ.out] at ho5
             obtain ⟨a5, b5, c5, rfl, ha5, hs5⟩ := own_arg ho5 HSZ.out
             have HA5 := Lib.hid ha5
             have HS5 := Lib.hid hs5
             have HC5 := Lib.hid ((hb5.block w.heap.size HG4.out).trans HC4.out)
             have HG5 := Lib.hid (Nat.lt_of_lt_of_le HG4.out hb5.size)
             obtain ⟨l0, l1, l2, l3, l4, l5, l6⟩ := alg_cells HC5.out
             clear ho5 hb5 ha5 hs5)
          | (go_at_call 75
             refine (least_any A na ua aa ta nl nc ul uc bc tl tc mb nm ab ao tm sm D b5 0 c5 a5 pq w5 (HA.out.below HB5.out hm ha) HAA.out (Nat.lt_of_lt_of_le hm HB5.out.size) (Nat.lt_of_lt_of_le ha HB5.out.size) HA5.out HS5.out (by omega)).mono ?_
             rintro e w6 ⟨v6, r, rfl, hr, ho6, hb6⟩
             have HB6 := Lib.hid (HB5.out.trans (hb6.mono HB5.out.size))
             have HO6 := Lib.hid ho6
             have HR := Lib.hid hr
             have HW5 := Lib.hid HB5.out.size
             obtain ⟨a6, c6, rfl⟩ := own_slice ho6
             have hr40 : r.length ≤ 40 := by have := HR.out.len; omega
             obtain ⟨m0, m1, m2, m3, m4, m5, m6⟩ := alg_cells ((hb6.block w.heap.size HG5.out).trans HC5.out)
             clear ho6 hr hb6)))
      go_wp2_with fail
      · rename_i hl20
        go_ret2
        refine ⟨.inr (.inr ⟨HE1.out, HE2.out, p, q, r, HP.out, HQ.out, ?_, .inl ⟨by omega, rfl⟩⟩), HB6.out⟩
        rw [HPQ.out]; exact HR.out
      · rename_i hl20
        go_ret2
        refine ⟨.inr (.inr ⟨HE1.out, HE2.out, p, q, r, HP.out, HQ.out, ?_, .inr ⟨by omega, _, rfl, own_mono HO6.out HW5.out⟩⟩), HB6.out⟩
        rw [HPQ.out]; exact HR.out
end Go.Proofs.Ytlaibimdkamcfaa
