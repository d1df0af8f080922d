/-
  Algebra.Meet.
-/
import Derived.Test.YtlaibimdkamcfaaE9
import Derived.Outline
namespace Go.Proofs.Ytlaibimdkamcfaa
open Go.RowKit Go.Maps

/-- What Meet answers. -/
def MeetOut (K : ByteArray → Bool) (B : ByteArray → ByteArray → Bool) (x y : List ByteArray) (base : Nat) (e : Ending) (w' : World) : Prop :=
  (sortErr K x ≠ 0 ∧ e = .returned (.tuple #[.slice none 0 0, .int .i64 (sortErr K x)])) ∨
  (sortErr K x = 0 ∧ sortErr K y ≠ 0 ∧ e = .returned (.tuple #[.slice none 0 0, .int .i64 (sortErr K y)])) ∨
  (sortErr K x = 0 ∧ sortErr K y = 0 ∧ ∃ p q r, IsNormalOf ltS B x p ∧ IsNormalOf ltS B y q ∧ IsNormalOf ltS B (p ++ q) r ∧
    ((20 < r.length ∧ e = .returned (.tuple #[.slice none 0 0, .int .i64 5])) ∨ (r.length ≤ 20 ∧ ∃ v, e = .returned (.tuple #[v, .int .i64 0]) ∧ w'.ownsRow base 9 1 v r.length (r.map Value.string))))

theorem own_later {W W' : World} {B e n k : Nat} {v : Value} {xs : List Value} (h : W.ownsRow B e k v n xs) (hb : Below W.heap.size W W') : W'.ownsRow B e k v n xs := by
  refine ⟨h.1, ?_⟩
  rcases h.2 with h0 | ⟨g', cap', cur, hv, hB, hh, rest⟩
  · exact .inl h0
  · exact .inr ⟨g', cap', cur, hv, hB, (hb.block g' (Array.getElem?_eq_some_iff.1 hh).1).trans hh, rest⟩

set_option maxRecDepth 100000 in
set_option maxHeartbeats 4000000 in
theorem meet_any (A : Alg) (na ua aa ta : Option Addr) (nl nc ul uc bc tl tc mb nm ab ao : Nat) (tm sm : Option Nat) (D : DataW Unit) (xb xo xc yb yo yc : Nat) (xa ya : Option Addr) (x y : List ByteArray) (w : World) (h : AlgAt A w mb nm ab ao D) (haa : 0 < A.n → aa = some ⟨ab, ao, none⟩) (hm : mb < w.heap.size) (ha : ab < w.heap.size)
    (hxa : x ≠ [] → xa = some ⟨xb, xo, none⟩) (hx : StrsAt w xb xo x) (hlx : x.length ≤ 9223372036854775807) (hya : y ≠ [] → ya = some ⟨yb, yo, none⟩) (hy : StrsAt w yb yo y) (hly : y.length ≤ 9223372036854775807) :
    Calls Try.prog 53 #[.agg #[.slice na nl nc, .map (some mb), .slice ua ul uc, .slice aa A.n bc, .slice ta tl tc, .map tm, .map sm], .slice xa x.length xc, .slice ya y.length yc] w fun e w' => MeetOut A.known A.below x y w.heap.size e w' ∧ Below w.heap.size w w' := by
  have HX := Lib.hid hx
  have HXA := Lib.hid hxa
  have HY := Lib.hid hy
  have HYA := Lib.hid hya
  have HA := Lib.hid h
  have HAA := Lib.hid haa
  clear h hx hxa haa hy hya
  have hb0 : Below w.heap.size w (w.alloc (.cells #[.slice na nl nc, .map (some mb), .slice ua ul uc, .slice aa A.n bc, .slice ta tl tc, .map tm, .map sm] 70)) := (Below.refl _ w).alloc (Nat.le_refl _) _
  have hc0 := heap_alloc_new w (.cells #[.slice na nl nc, .map (some mb), .slice ua ul uc, .slice aa A.n bc, .slice ta tl tc, .map tm, .map sm] 70)
  have hs0 : (w.alloc (.cells #[.slice na nl nc, .map (some mb), .slice ua ul uc, .slice aa A.n bc, .slice ta tl tc, .map tm, .map sm] 70)).heap.size = w.heap.size + 1 := by simp
  have HB0 := Lib.hid hb0
  have HC0 := Lib.hid hc0
  have HS0 := Lib.hid hs0
  clear hb0 hc0 hs0
  go_enter Try.func53, Try.ntmps53
  go_wp2_with fail
  generalize (w.alloc (.cells #[.slice na nl nc, .map (some mb), .slice ua ul uc, .slice aa A.n bc, .slice ta tl tc, .map tm, .map sm] 70)) = w1 at *
  refine (normal_any A na ua aa ta nl nc ul uc bc tl tc mb nm ab ao tm sm D xb xo xc xa x w1 (HA.out.below HB0.out hm ha) HAA.out (Nat.lt_of_lt_of_le hm HB0.out.size) (Nat.lt_of_lt_of_le ha HB0.out.size) HXA.out (HX.out.later HB0.out) hlx).mono ?_
  rintro e w2 ⟨hN1, hb2⟩
  have HB12 := Lib.hid hb2
  have HB2 := Lib.hid (HB0.out.trans (hb2.mono HB0.out.size))
  have HC2 := Lib.hid ((hb2.block w.heap.size (by rw [HS0.out]; omega)).trans HC0.out)
  clear hb2
  rcases hN1 with ⟨hE1, rfl⟩ | ⟨hE1, v1, p, rfl, hp, ho1⟩
  · have q1 : (sortErr A.known x == 0) = false := by simpa using hE1
    have q2 : (sortErr A.known x != 0) = true := by simpa using hE1
    have HE1 := Lib.hid hE1
    obtain ⟨E1, hE1e⟩ : ∃ E, sortErr A.known x = E := ⟨_, rfl⟩
    have HEE := Lib.hid hE1e
    rw [hE1e] at q1 q2 ⊢
    clear hE1 hE1e
    go_wp2_with fail
    go_ret2
    exact ⟨.inl ⟨HE1.out, by rw [HEE.out]; rfl⟩, HB2.out⟩
  · have HE1 := Lib.hid hE1
    have HP := Lib.hid hp
    have HO1 := Lib.hid ho1
    obtain ⟨a1, c1, rfl⟩ := own_slice ho1
    obtain ⟨g0, g1, g2, g3, g4, g5, g6⟩ := alg_cells HC2.out
    clear hE1 hp ho1
    go_wp2_with fail
    refine (normal_any A na ua aa ta nl nc ul uc bc tl tc mb nm ab ao tm sm D yb yo yc ya y w2 (HA.out.below HB2.out hm ha) HAA.out (Nat.lt_of_lt_of_le hm HB2.out.size) (Nat.lt_of_lt_of_le ha HB2.out.size) HYA.out (HY.out.later HB2.out) hly).mono ?_
    rintro e w3 ⟨hN2, hb3⟩
    have HB3 := Lib.hid (HB2.out.trans (hb3.mono HB2.out.size))
    have HO13 := Lib.hid (own_later HO1.out hb3)
    have HG2 := Lib.hid (show w.heap.size < w2.heap.size from by have := HB12.out.size; have := HS0.out; omega)
    have HC3 := Lib.hid ((hb3.block w.heap.size HG2.out).trans HC2.out)
    have HG3 := Lib.hid (Nat.lt_of_lt_of_le HG2.out hb3.size)
    clear hb3 g0 g1 g2 g3 g4 g5 g6
    rcases hN2 with ⟨hE2, rfl⟩ | ⟨hE2, v2, q, rfl, hq, ho2⟩
    · have q1 : (sortErr A.known y == 0) = false := by simpa using hE2
      have q2 : (sortErr A.known y != 0) = true := by simpa using hE2
      have HE2 := Lib.hid hE2
      obtain ⟨E2, hE2e⟩ : ∃ E, sortErr A.known y = E := ⟨_, rfl⟩
      have HEE := Lib.hid hE2e
      rw [hE2e] at q1 q2 ⊢
      clear hE2 hE2e
      go_wp2_with fail
      go_ret2
      exact ⟨.inr (.inl ⟨HE1.out, HE2.out, by rw [HEE.out]; rfl⟩), HB3.out⟩
    · have HE2 := Lib.hid hE2
      have HQ := Lib.hid hq
      have HO2 := Lib.hid ho2
      obtain ⟨a2, c2, rfl⟩ := own_slice ho2
      obtain ⟨g0, g1, g2, g3, g4, g5, g6⟩ := alg_cells HC3.out
      have hlp : p.length ≤ 20 := by have := HP.out.len; have := (sortErr_zero HE1.out).1; omega
      have hlq : q.length ≤ 20 := by have := HQ.out.len; have := (sortErr_zero HE2.out).1; omega
      have hsz : ∀ z, z ∈ p ++ q → z.size ≤ maxLen := fun z hz => by
        rcases List.mem_append.1 hz with hz | hz
        · obtain ⟨i, hi, rfl⟩ := List.getElem_of_mem ((HP.out.mem z).1 hz).1
          exact HX.out.size i hi
        · obtain ⟨i, hi, rfl⟩ := List.getElem_of_mem ((HQ.out.mem z).1 hz).1
          exact HY.out.size i hi
      have hl40 : (p ++ q).length ≤ 40 := by rw [List.length_append]; omega
      obtain ⟨pq, hpq⟩ : ∃ s, p ++ q = s := ⟨_, rfl⟩
      rw [hpq] at hsz hl40
      have HSZ := Lib.hid hsz
      have HPQ := Lib.hid hpq
      clear hpq
      clear hE2 hq ho2 hsz
      go_wp2_with fail
      have k0 : w3.drew.cell? ⟨w.heap.size, 0, none⟩ = some (.slice na nl nc) := g0
      have k1 : w3.drew.cell? ⟨w.heap.size, 1, none⟩ = some (.map (some mb)) := g1
      have k2 : w3.drew.cell? ⟨w.heap.size, 2, none⟩ = some (.slice ua ul uc) := g2
      have k3 : w3.drew.cell? ⟨w.heap.size, 3, none⟩ = some (.slice aa A.n bc) := g3
      have k4 : w3.drew.cell? ⟨w.heap.size, 4, none⟩ = some (.slice ta tl tc) := g4
      have k5 : w3.drew.cell? ⟨w.heap.size, 5, none⟩ = some (.map tm) := g5
      have k6 : w3.drew.cell? ⟨w.heap.size, 6, none⟩ = some (.map sm) := g6
      have b4 : Below w3.heap.size w3 (w3.alloc (.cells #[.slice a1 p.length c1, .slice a2 q.length c2] 27)).drew := ((Below.refl _ _).alloc (Nat.le_refl _) _).drew
      have HB4 := Lib.hid (HB3.out.trans (b4.mono HB3.out.size))
      have HNB := Lib.hid (show (w3.alloc (.cells #[.slice a1 p.length c1, .slice a2 q.length c2] 27)).drew.heap[w3.heap.size]? = some (.cells #[.slice a1 p.length c1, .slice a2 q.length c2] 27 (0, 0)) from heap_alloc_new w3 _)
      have HPo := Lib.hid (own_later HO13.out b4)
      have HQo := Lib.hid (own_later HO2.out b4)
      have HC4 := Lib.hid ((b4.block w.heap.size HG3.out).trans HC3.out)
      have HG4 := Lib.hid (Nat.lt_of_lt_of_le HG3.out b4.size)
      clear b4
      obtain ⟨j0, j1, j2, j3, j4, j5, j6⟩ := alg_cells HC4.out
      go_region_held3 (fun W => W.cell? ⟨w.heap.size, 0, none⟩ = some (.slice na nl nc) ∧ W.cell? ⟨w.heap.size, 1, none⟩ = some (.map (some mb)) ∧ W.cell? ⟨w.heap.size, 2, none⟩ = some (.slice ua ul uc) ∧ W.cell? ⟨w.heap.size, 3, none⟩ = some (.slice aa A.n bc) ∧ W.cell? ⟨w.heap.size, 4, none⟩ = some (.slice ta tl tc) ∧ W.cell? ⟨w.heap.size, 5, none⟩ = some (.map tm) ∧ W.cell? ⟨w.heap.size, 6, none⟩ = some (.map sm))
        (refine ⟨?_, ?_, ?_, ?_, ?_, ?_, ?_⟩ <;> first | assumption | exact j0 | exact j1 | exact j2 | exact j3 | exact j4 | exact j5 | exact j6)
        ((first
          | (go_at_call 77
             refine (concat_any w3.heap.size w1.heap.size w2.heap.size _ _ p q (w3.alloc (.cells #[.slice a1 p.length c1, .slice a2 q.length c2] 27)).drew HNB.out HPo.out HQo.out (by omega)).mono ?_
             rintro e w5 ⟨v5, rfl, ho5, hb5⟩
             have HB5 := Lib.hid (HB4.out.trans (hb5.mono HB4.out.size))
             rw [HPQ.out] at ho5
             obtain ⟨a5, b5, c5, rfl, ha5, hs5⟩ := own_arg ho5 HSZ.out
             have HA5 := Lib.hid ha5
             have HS5 := Lib.hid hs5
             have HC5 := Lib.hid ((hb5.block w.heap.size HG4.out).trans HC4.out)
             have HG5 := Lib.hid (Nat.lt_of_lt_of_le HG4.out hb5.size)
             obtain ⟨l0, l1, l2, l3, l4, l5, l6⟩ := alg_cells HC5.out
             clear ho5 hb5 ha5 hs5)
          | (go_at_call 75
             refine (least_any A na ua aa ta nl nc ul uc bc tl tc mb nm ab ao tm sm D b5 0 c5 a5 pq w5 (HA.out.below HB5.out hm ha) HAA.out (Nat.lt_of_lt_of_le hm HB5.out.size) (Nat.lt_of_lt_of_le ha HB5.out.size) HA5.out HS5.out (by omega)).mono ?_
             rintro e w6 ⟨v6, r, rfl, hr, ho6, hb6⟩
             have HB6 := Lib.hid (HB5.out.trans (hb6.mono HB5.out.size))
             have HO6 := Lib.hid ho6
             have HR := Lib.hid hr
             have HW5 := Lib.hid HB5.out.size
             obtain ⟨a6, c6, rfl⟩ := own_slice ho6
             have hr40 : r.length ≤ 40 := by have := HR.out.len; omega
             obtain ⟨m0, m1, m2, m3, m4, m5, m6⟩ := alg_cells ((hb6.block w.heap.size HG5.out).trans HC5.out)
             clear ho6 hr hb6)))
      go_wp2_with fail
      · rename_i hl20
        go_ret2
        refine ⟨.inr (.inr ⟨HE1.out, HE2.out, p, q, r, HP.out, HQ.out, ?_, .inl ⟨by omega, rfl⟩⟩), HB6.out⟩
        rw [HPQ.out]; exact HR.out
      · rename_i hl20
        go_ret2
        refine ⟨.inr (.inr ⟨HE1.out, HE2.out, p, q, r, HP.out, HQ.out, ?_, .inr ⟨by omega, _, rfl, own_mono HO6.out HW5.out⟩⟩), HB6.out⟩
        rw [HPQ.out]; exact HR.out
end Go.Proofs.Ytlaibimdkamcfaa
