import Derived.Test.YtlaibimdkamcfaaK14
import Derived.Test.YtlaibimdkamcfaaK9
import Derived.Test.YtlaibimdkamcfaaK13
section
namespace Go.Proofs.Ytlaibimdkamcfaa
open Go.RowKit Go.Maps Go.WideMaps

set_option maxRecDepth 100000 in
set_option maxHeartbeats 4000000 in
/-- slices.EqualFunc of two equal slices of sorts. -/
theorem equalSorts_any {U : List (List ByteArray)} (hl : U.length ≤ 1000) {a a' : Option Addr} {b o b' o' c c' : Nat} (w : World) (ha : U ≠ [] → a = some ⟨b, o, none⟩) (hs : SortsAt w b o U) (ha' : U ≠ [] → a' = some ⟨b', o', none⟩) (hs' : SortsAt w b' o' U) :
    Calls Try.prog 28 #[.slice a U.length c, .slice a' U.length c', .func (.func 24) #[] #[]] w fun e w' => e = .returned (.bool true) ∧ Below w.heap.size w w' := by
  go_enter Try.func28, Try.ntmps28
  go_wp2_with fail
  go_loopw [17] (fun t wr => ∃ i : Nat, t = .int .i64 i ∧ i ≤ U.length ∧ Below w.heap.size w wr) (fun t _ => U.length - (intOf t).toNat)
  case atStart => exact ⟨0, rfl, Nat.zero_le _, Below.refl _ _⟩
  case round =>
    obtain ⟨i, rfl, hi, hbr⟩ := hrel
    have HB := Lib.hid hbr
    clear hbr
    by_cases hlt : i < U.length
    · have hne : U ≠ [] := by intro e; subst e; simp at hlt
      have e := ha hne
      subst e
      have e' := ha' hne
      subst e'
      obtain ⟨hlb, x, cx, c1, hX⟩ := (hs.later HB.out) i hlt
      obtain ⟨hlb', y, cy, d1, hY⟩ := (hs'.later HB.out) i hlt
      obtain ⟨u, hu⟩ : ∃ q, U[i] = q := ⟨_, rfl⟩
      rw [hu] at c1 hX d1 hY
      have HE := Lib.hid (equal_full (c := cx) (c' := cy) hX hY)
      clear hX hY hu hlb hlb'
      go_wp2_with fail
      refine HE.out.mono ?_
      rintro e w2 ⟨rfl, hb2⟩
      have HB2 := Lib.hid (HB.out.trans (hb2.mono HB.out.size))
      clear hb2 c1 d1
      go_wp2_with fail
      refine ⟨⟨i + 1, by simp only [Int.natCast_add, Int.natCast_one], by omega, HB2.out⟩, ?_⟩
      show U.length - ((i:Int)+1).toNat < U.length - ((i:Nat):Int).toNat
      omega
    · go_wp2_with fail
      go_ret
      exact ⟨rfl, HB.out⟩

/-- same serves two types of a depth for a sort. -/
def SameOK (cs : List Cls) (ts : List TD) (l : List Ari) (d : Nat) : Prop :=
  ∀ (S S' : Nat → Prop) (s : List ByteArray) (v v' : Value) (W : World), Rep cs ts l S W d s v → Rep cs ts l S' W d s v' →
    Calls Try.prog 31 #[v, v'] W fun e w' => e = .returned (.bool true) ∧ Below W.heap.size W w'

/-- The arguments of a constructor in memory. -/
def KidsAt (cs : List Cls) (ts : List TD) (l : List Ari) (d : Nat) (S : Nat → Prop) (w : World) (aa : Option Addr) (U : List (List ByteArray)) : Prop :=
  ∀ i (h : i < U.length), ∃ (b o : Nat) (v0 v1 v2 v3 v4 : Value), S b ∧ aa = some ⟨b, o, none⟩ ∧ w.cell? ⟨b, o + i * 5, none⟩ = some v0 ∧ w.cell? ⟨b, o + i * 5 + 1, none⟩ = some v1 ∧ w.cell? ⟨b, o + i * 5 + 2, none⟩ = some v2 ∧ w.cell? ⟨b, o + i * 5 + 3, none⟩ = some v3 ∧ w.cell? ⟨b, o + i * 5 + 4, none⟩ = some v4 ∧ Rep cs ts l S w d U[i] (.agg #[v0, v1, v2, v3, v4])

theorem KidsAt.later {cs : List Cls} {ts : List TD} {l : List Ari} {d : Nat} {S : Nat → Prop} {w w' : World} {aa : Option Addr} {U : List (List ByteArray)} (h : KidsAt cs ts l d S w aa U) (hb : Below w.heap.size w w') : KidsAt cs ts l d S w' aa U := fun i hi => by
  obtain ⟨b, o, v0, v1, v2, v3, v4, hS, e, q0, q1, q2, q3, q4, hr⟩ := h i hi
  exact ⟨b, o, v0, v1, v2, v3, v4, hS, e, (hb.cell (p := ⟨b, _, none⟩) (lt_of_cell q0)).trans q0, (hb.cell (p := ⟨b, _, none⟩) (lt_of_cell q1)).trans q1, (hb.cell (p := ⟨b, _, none⟩) (lt_of_cell q2)).trans q2, (hb.cell (p := ⟨b, _, none⟩) (lt_of_cell q3)).trans q3, (hb.cell (p := ⟨b, _, none⟩) (lt_of_cell q4)).trans q4, hr.keep (SameIn.below hb) fun _ h _ => h⟩

set_option maxRecDepth 100000 in
set_option maxHeartbeats 4000000 in
/-- slices.EqualFunc of the arguments of two types. -/
theorem equalTypes_any {cs : List Cls} {ts : List TD} {l : List Ari} {d : Nat} (hC : SameOK cs ts l d) {U : List (List ByteArray)} (hl : U.length ≤ 1000) {S S' : Nat → Prop} {aa aa' : Option Addr} {c c' : Nat} (w : World)
    (h : KidsAt cs ts l d S w aa U) (h' : KidsAt cs ts l d S' w aa' U) :
    Calls Try.prog 60 #[.slice aa U.length c, .slice aa' U.length c', .func (.func 31) #[] #[]] w fun e w' => e = .returned (.bool true) ∧ Below w.heap.size w w' := by
  have HE := Lib.hid h
  have HE' := Lib.hid h'
  clear h h'
  go_enter Try.func60, Try.ntmps60
  go_wp2_with fail
  go_loopw [17] (fun t wr => ∃ i : Nat, t = .int .i64 i ∧ i ≤ U.length ∧ Below w.heap.size w wr) (fun t _ => U.length - (intOf t).toNat)
  case atStart => exact ⟨0, rfl, Nat.zero_le _, Below.refl _ _⟩
  case round =>
    obtain ⟨i, rfl, hi, hbr⟩ := hrel
    have HB := Lib.hid hbr
    clear hbr
    by_cases hlt : i < U.length
    · obtain ⟨b, o, v0, v1, v2, v3, v4, _, rfl, g0, g1, g2, g3, g4, hr⟩ := HE.out i hlt
      obtain ⟨b', o', y0, y1, y2, y3, y4, _, rfl, k0, k1, k2, k3, k4, hr'⟩ := HE'.out i hlt
      have hlb := lt_of_cell g0
      have hlb' := lt_of_cell k0
      have u0 := (HB.out.cell (p := ⟨b, o + i * 5, none⟩) hlb).trans g0
      have u1 := (HB.out.cell (p := ⟨b, o + i * 5 + 1, none⟩) hlb).trans g1
      have u2 := (HB.out.cell (p := ⟨b, o + i * 5 + 2, none⟩) hlb).trans g2
      have u3 := (HB.out.cell (p := ⟨b, o + i * 5 + 3, none⟩) hlb).trans g3
      have u4 := (HB.out.cell (p := ⟨b, o + i * 5 + 4, none⟩) hlb).trans g4
      have t0 := (HB.out.cell (p := ⟨b', o' + i * 5, none⟩) hlb').trans k0
      have t1 := (HB.out.cell (p := ⟨b', o' + i * 5 + 1, none⟩) hlb').trans k1
      have t2 := (HB.out.cell (p := ⟨b', o' + i * 5 + 2, none⟩) hlb').trans k2
      have t3 := (HB.out.cell (p := ⟨b', o' + i * 5 + 3, none⟩) hlb').trans k3
      have t4 := (HB.out.cell (p := ⟨b', o' + i * 5 + 4, none⟩) hlb').trans k4
      obtain ⟨n1, aa1, sc1, m1, ac1, hform⟩ := hr.form
      simp only [Value.agg.injEq, Array.mk.injEq, List.cons.injEq, and_true] at hform
      obtain ⟨rfl, rfl, rfl, rfl, rfl⟩ := hform
      obtain ⟨n2, aa2, sc2, m2, ac2, hform⟩ := hr'.form
      simp only [Value.agg.injEq, Array.mk.injEq, List.cons.injEq, and_true] at hform
      obtain ⟨rfl, rfl, rfl, rfl, rfl⟩ := hform
      have b1 : Below wr.heap.size wr ((wr.alloc (.cells #[.int .i64 1, .string n1, .int .i64 0, .slice none 0 sc1, .slice aa1 m1 ac1] 50)).alloc (.cells #[.int .i64 1, .string n2, .int .i64 0, .slice none 0 sc2, .slice aa2 m2 ac2] 50)) := ((Below.refl _ _).alloc (Nat.le_refl _) _).alloc (by simp) _
      have HC := Lib.hid (hC S S' U[i] _ _ ((wr.alloc (.cells #[.int .i64 1, .string n1, .int .i64 0, .slice none 0 sc1, .slice aa1 m1 ac1] 50)).alloc (.cells #[.int .i64 1, .string n2, .int .i64 0, .slice none 0 sc2, .slice aa2 m2 ac2] 50)) (hr.keep (SameIn.below (HB.out.trans (b1.mono HB.out.size))) fun _ h _ => h) (hr'.keep (SameIn.below (HB.out.trans (b1.mono HB.out.size))) fun _ h _ => h))
      have t0' : (wr.alloc (.cells #[.int .i64 1, .string n1, .int .i64 0, .slice none 0 sc1, .slice aa1 m1 ac1] 50)).cell? ⟨b', o' + i * 5, none⟩ = some (.int .i64 1) := (((Below.refl wr.heap.size wr).alloc (Nat.le_refl _) _).cell (p := ⟨b', o' + i * 5, none⟩) (lt_of_cell t0)).trans t0
      have t1' : (wr.alloc (.cells #[.int .i64 1, .string n1, .int .i64 0, .slice none 0 sc1, .slice aa1 m1 ac1] 50)).cell? ⟨b', o' + i * 5 + 1, none⟩ = some (.string n2) := (((Below.refl wr.heap.size wr).alloc (Nat.le_refl _) _).cell (p := ⟨b', o' + i * 5 + 1, none⟩) (lt_of_cell t1)).trans t1
      have t2' : (wr.alloc (.cells #[.int .i64 1, .string n1, .int .i64 0, .slice none 0 sc1, .slice aa1 m1 ac1] 50)).cell? ⟨b', o' + i * 5 + 2, none⟩ = some (.int .i64 0) := (((Below.refl wr.heap.size wr).alloc (Nat.le_refl _) _).cell (p := ⟨b', o' + i * 5 + 2, none⟩) (lt_of_cell t2)).trans t2
      have t3' : (wr.alloc (.cells #[.int .i64 1, .string n1, .int .i64 0, .slice none 0 sc1, .slice aa1 m1 ac1] 50)).cell? ⟨b', o' + i * 5 + 3, none⟩ = some (.slice none 0 sc2) := (((Below.refl wr.heap.size wr).alloc (Nat.le_refl _) _).cell (p := ⟨b', o' + i * 5 + 3, none⟩) (lt_of_cell t3)).trans t3
      have t4' : (wr.alloc (.cells #[.int .i64 1, .string n1, .int .i64 0, .slice none 0 sc1, .slice aa1 m1 ac1] 50)).cell? ⟨b', o' + i * 5 + 4, none⟩ = some (.slice aa2 m2 ac2) := (((Below.refl wr.heap.size wr).alloc (Nat.le_refl _) _).cell (p := ⟨b', o' + i * 5 + 4, none⟩) (lt_of_cell t4)).trans t4
      have HB1 := Lib.hid (HB.out.trans (b1.mono HB.out.size))
      clear g0 g1 g2 g3 g4 k0 k1 k2 k3 k4 hr hr' hlb hlb' b1 t0 t1 t2 t3 t4
      go_wp2_with fail
      refine HC.out.mono ?_
      rintro e w2 ⟨rfl, hb2⟩
      have HB2 := Lib.hid (HB1.out.trans (hb2.mono HB1.out.size))
      clear hb2 u0 u1 u2 u3 u4 t0' t1' t2' t3' t4'
      go_wp2_with fail
      refine ⟨⟨i + 1, by simp only [Int.natCast_add, Int.natCast_one], by omega, HB2.out⟩, ?_⟩
      show U.length - ((i:Int)+1).toNat < U.length - ((i:Nat):Int).toNat
      omega
    · go_wp2_with fail
      go_ret
      exact ⟨rfl, HB.out⟩

set_option maxRecDepth 100000 in
set_option maxHeartbeats 4000000 in
theorem same_any {cs : List Cls} {ts : List TD} {l : List Ari} (hT : typesErr ts = 0) {d : Nat} (hC : SameOK cs ts l d) : SameOK cs ts l (d + 1) := by
  intro S S' s v v' W hR hR'
  obtain ⟨k, hk1, hk2, hk3, aa, sc, ac, _, rfl, hel⟩ := hR
  obtain ⟨k', hk1', hk2', hk3', aa', sc', ac', _, rfl, hel'⟩ := hR'
  have hkk : k' = k := by
    rcases Nat.lt_trichotomy k k' with h | h | h
    · exact absurd hk2 (hk3' k h)
    · exact h.symm
    · exact absurd hk2' (hk3 k' h)
  subst hkk
  have hten := argsU_ten (cs := cs) hT hk2.1
  obtain ⟨U, hU⟩ : ∃ U, argsU cs ts l (tdAt ts k').name s = U := ⟨_, rfl⟩
  obtain ⟨n, hn⟩ : ∃ n, (tdAt ts k').name = n := ⟨_, rfl⟩
  rw [hU] at hten hel hel' ⊢
  rw [hn]
  clear hk1 hk2 hk3 hk1' hk2' hk3' hU hn
  have b1 : Below W.heap.size W ((W.alloc (.cells #[.int .i64 1, .string n, .int .i64 0, .slice none 0 sc, .slice aa U.length ac] 50)).alloc (.cells #[.int .i64 1, .string n, .int .i64 0, .slice none 0 sc', .slice aa' U.length ac'] 50)) := ((Below.refl _ W).alloc (Nat.le_refl _) _).alloc (by simp) _
  have n0 : ((W.alloc (.cells #[.int .i64 1, .string n, .int .i64 0, .slice none 0 sc, .slice aa U.length ac] 50)).alloc (.cells #[.int .i64 1, .string n, .int .i64 0, .slice none 0 sc', .slice aa' U.length ac'] 50)).heap[W.heap.size]? = some (.cells #[.int .i64 1, .string n, .int .i64 0, .slice none 0 sc, .slice aa U.length ac] 50 (0, 0)) := by rw [Below.heap_alloc _ _ _ (by simp)]; exact heap_alloc_new W _
  have n1 : ((W.alloc (.cells #[.int .i64 1, .string n, .int .i64 0, .slice none 0 sc, .slice aa U.length ac] 50)).alloc (.cells #[.int .i64 1, .string n, .int .i64 0, .slice none 0 sc', .slice aa' U.length ac'] 50)).heap[W.heap.size + 1]? = some (.cells #[.int .i64 1, .string n, .int .i64 0, .slice none 0 sc', .slice aa' U.length ac'] 50 (0, 0)) := Go.heap_alloc2_new W _ _
  obtain ⟨c0, c1, c2, c3, c4, cf⟩ := cells5 n0
  obtain ⟨d0, d1, d2, d3, d4, df⟩ := cells5 n1
  have HB1 := Lib.hid b1
  have hne : ∀ w : World, Calls Try.prog 24 #[.slice none 0 sc, .slice none 0 sc'] w fun e w' => e = .returned (.bool true) ∧ Below w.heap.size w w' := fun w => equal_full (x := []) (sortAt_nil w none) (sortAt_nil w none)
  have HEQ := Lib.hid hne
  have k1 : KidsAt cs ts l d S W aa U := hel
  have k2 : KidsAt cs ts l d S' W aa' U := hel'
  have HEL := Lib.hid (show ∀ w', Below W.heap.size W w' → Calls Try.prog 60 #[.slice aa U.length ac, .slice aa' U.length ac', .func (.func 31) #[] #[]] w' fun e w2 => e = .returned (.bool true) ∧ Below w'.heap.size w' w2 from fun w' hb => equalTypes_any hC (by omega) w' (k1.later hb) (k2.later hb))
  clear k1 k2
  have HN0 := Lib.hid n0
  have HN1 := Lib.hid n1
  clear b1 n0 n1 hne hel hel' cf df
  go_enter Try.func31, Try.ntmps31
  obtain ⟨m, hm⟩ : ∃ m, U.length = m := ⟨_, rfl⟩
  rw [hm] at c0 c1 c2 c3 c4 d0 d1 d2 d3 d4 hten HB1 HN0 HN1 HEL ⊢
  clear hm
  go_wp2_with fail
  generalize ((W.alloc (.cells #[.int .i64 1, .string n, .int .i64 0, .slice none 0 sc, .slice aa m ac] 50)).alloc (.cells #[.int .i64 1, .string n, .int .i64 0, .slice none 0 sc', .slice aa' m ac'] 50)) = w1 at *
  refine (HEQ.out w1).mono ?_
  rintro e w2 ⟨rfl, hb2⟩
  have HB2 := Lib.hid (HB1.out.trans (hb2.mono HB1.out.size))
  obtain ⟨f0, f1, f2, f3, f4, ff⟩ := cells5 ((hb2.block W.heap.size (lt_of_cell c0)).trans HN0.out)
  obtain ⟨k0, k1, k2, k3, k4, kk⟩ := cells5 ((hb2.block (W.heap.size + 1) (lt_of_cell d0)).trans HN1.out)
  clear c0 c1 c2 c3 c4 d0 d1 d2 d3 d4 hb2 f0 f1 f2 f3 ff k0 k1 k2 k3 kk
  go_wp2_with fail
  refine (HEL.out w2 HB2.out).mono ?_
  rintro e w3 ⟨rfl, hb3⟩
  have HB3 := Lib.hid (HB2.out.trans (hb3.mono HB2.out.size))
  clear hb3 f4 k4
  go_wp2_with fail
  go_ret
  exact ⟨rfl, HB3.out⟩

theorem same_all {cs : List Cls} {ts : List TD} {l : List Ari} (hT : typesErr ts = 0) : ∀ d, SameOK cs ts l d
  | 0 => fun _ _ _ _ _ _ h _ => h.elim
  | d + 1 => same_any hT (same_all hT d)

set_option maxRecDepth 100000 in
set_option maxHeartbeats 4000000 in
/-- same of two zero types. -/
theorem same_zero (W : World) : Calls Try.prog 31 #[zeroT, zeroT] W fun e w' => e = .returned (.bool true) ∧ Below W.heap.size W w' := by
  have b1 : Below W.heap.size W ((W.alloc (.cells #[.int .i64 0, .string ⟨#[]⟩, .int .i64 0, .slice none 0 0, .slice none 0 0] 50)).alloc (.cells #[.int .i64 0, .string ⟨#[]⟩, .int .i64 0, .slice none 0 0, .slice none 0 0] 50)) := ((Below.refl _ W).alloc (Nat.le_refl _) _).alloc (by simp) _
  have n0 : ((W.alloc (.cells #[.int .i64 0, .string ⟨#[]⟩, .int .i64 0, .slice none 0 0, .slice none 0 0] 50)).alloc (.cells #[.int .i64 0, .string ⟨#[]⟩, .int .i64 0, .slice none 0 0, .slice none 0 0] 50)).heap[W.heap.size]? = some (.cells #[.int .i64 0, .string ⟨#[]⟩, .int .i64 0, .slice none 0 0, .slice none 0 0] 50 (0, 0)) := by rw [Below.heap_alloc _ _ _ (by simp)]; exact heap_alloc_new W _
  have n1 : ((W.alloc (.cells #[.int .i64 0, .string ⟨#[]⟩, .int .i64 0, .slice none 0 0, .slice none 0 0] 50)).alloc (.cells #[.int .i64 0, .string ⟨#[]⟩, .int .i64 0, .slice none 0 0, .slice none 0 0] 50)).heap[W.heap.size + 1]? = some (.cells #[.int .i64 0, .string ⟨#[]⟩, .int .i64 0, .slice none 0 0, .slice none 0 0] 50 (0, 0)) := Go.heap_alloc2_new W _ _
  obtain ⟨c0, c1, c2, c3, c4, cf⟩ := cells5 n0
  obtain ⟨d0, d1, d2, d3, d4, df⟩ := cells5 n1
  have HB1 := Lib.hid b1
  have HEQ := Lib.hid (show ∀ w : World, Calls Try.prog 24 #[.slice none 0 0, .slice none 0 0] w fun e w' => e = .returned (.bool true) ∧ Below w.heap.size w w' from fun w => equal_full (x := []) (sortAt_nil w none) (sortAt_nil w none))
  have HEL := Lib.hid (show ∀ w' : World, Calls Try.prog 60 #[.slice none 0 0, .slice none 0 0, .func (.func 31) #[] #[]] w' fun e w2 => e = .returned (.bool true) ∧ Below w'.heap.size w' w2 from fun w' => equalTypes_any (cs := []) (ts := []) (l := []) (d := 0) (S := fun _ => True) (S' := fun _ => True) (U := []) (fun _ _ _ _ _ _ h _ => h.elim) (by simp) w' (fun i hi => absurd hi (by simp)) (fun i hi => absurd hi (by simp)))
  have HN0 := Lib.hid n0
  have HN1 := Lib.hid n1
  clear b1 n0 n1 cf df
  unfold zeroT
  go_enter Try.func31, Try.ntmps31
  go_wp2_with fail
  generalize ((W.alloc (.cells #[.int .i64 0, .string ⟨#[]⟩, .int .i64 0, .slice none 0 0, .slice none 0 0] 50)).alloc (.cells #[.int .i64 0, .string ⟨#[]⟩, .int .i64 0, .slice none 0 0, .slice none 0 0] 50)) = w1 at *
  refine (HEQ.out w1).mono ?_
  rintro e w2 ⟨rfl, hb2⟩
  have HB2 := Lib.hid (HB1.out.trans (hb2.mono HB1.out.size))
  obtain ⟨f0, f1, f2, f3, f4, ff⟩ := cells5 ((hb2.block W.heap.size (lt_of_cell c0)).trans HN0.out)
  obtain ⟨k0, k1, k2, k3, k4, kk⟩ := cells5 ((hb2.block (W.heap.size + 1) (lt_of_cell d0)).trans HN1.out)
  clear c0 c1 c2 c3 c4 d0 d1 d2 d3 d4 hb2 f0 f1 f2 f3 ff k0 k1 k2 k3 kk
  go_wp2_with fail
  refine (HEL.out w2).mono ?_
  rintro e w3 ⟨rfl, hb3⟩
  have HB3 := Lib.hid (HB2.out.trans (hb3.mono HB2.out.size))
  clear hb3 f4 k4
  go_wp2_with fail
  go_ret
  exact ⟨rfl, HB3.out⟩

end Go.Proofs.Ytlaibimdkamcfaa
end

section
namespace Go.Proofs.Ytlaibimdkamcfaa
open Go.RowKit Go.Maps Go.WideMaps

variable {cs : List Cls} {ts : List TD} {l : List Ari}

/-- What Args answers. -/
def ArgsIs (cs : List Cls) (ts : List TD) (l : List Ari) (name : ByteArray) (s : List ByteArray) (E : Int) (U : List (List ByteArray)) : Prop :=
  (checkErr cs ts l ≠ 0 ∧ E = checkErr cs ts l ∧ U = []) ∨
  (checkErr cs ts l = 0 ∧ name ∉ tnames ts ∧ E = 9 ∧ U = []) ∨
  (checkErr cs ts l = 0 ∧ name ∈ tnames ts ∧ sortErr (knownB cs) s ≠ 0 ∧ E = sortErr (knownB cs) s ∧ U = []) ∨
  (checkErr cs ts l = 0 ∧ name ∈ tnames ts ∧ sortErr (knownB cs) s = 0 ∧ ¬ CanU ts l name s ∧ E = 14 ∧ U = []) ∨
  (checkErr cs ts l = 0 ∧ name ∈ tnames ts ∧ sortErr (knownB cs) s = 0 ∧ CanU ts l name s ∧ (∃ u, u ∈ argsU cs ts l name s ∧ 20 < u.length) ∧ E = 5 ∧ U = []) ∨
  (checkErr cs ts l = 0 ∧ name ∈ tnames ts ∧ sortErr (knownB cs) s = 0 ∧ CanU ts l name s ∧ ¬ (∃ u, u ∈ argsU cs ts l name s ∧ 20 < u.length) ∧ E = 0 ∧ U = argsU cs ts l name s)

theorem ArgsIs.unique {name : ByteArray} {s : List ByteArray} {E E' : Int} {U U' : List (List ByteArray)} (h : ArgsIs cs ts l name s E U) (h' : ArgsIs cs ts l name s E' U') : E = E' ∧ U = U' := by
  unfold ArgsIs at h h'
  by_cases c0 : checkErr cs ts l = 0
  · by_cases c1 : name ∈ tnames ts
    · by_cases c2 : sortErr (knownB cs) s = 0
      · by_cases c3 : CanU ts l name s
        · by_cases c4 : ∃ u, u ∈ argsU cs ts l name s ∧ 20 < u.length
          · simp only [c0, c1, c2, c3, c4, ne_eq, not_true_eq_false, false_and, true_and, false_or, or_false, not_false_eq_true] at h h'
            exact ⟨h.1.trans h'.1.symm, h.2.trans h'.2.symm⟩
          · simp only [c0, c1, c2, c3, c4, ne_eq, not_true_eq_false, false_and, true_and, false_or, or_false, not_false_eq_true] at h h'
            exact ⟨h.1.trans h'.1.symm, h.2.trans h'.2.symm⟩
        · simp only [c0, c1, c2, c3, ne_eq, not_true_eq_false, false_and, true_and, false_or, or_false, not_false_eq_true] at h h'
          exact ⟨h.1.trans h'.1.symm, h.2.trans h'.2.symm⟩
      · simp only [c0, c1, c2, ne_eq, not_true_eq_false, false_and, true_and, false_or, or_false, not_false_eq_true] at h h'
        exact ⟨h.1.trans h'.1.symm, h.2.trans h'.2.symm⟩
    · simp only [c0, c1, ne_eq, not_true_eq_false, false_and, true_and, false_or, or_false, not_false_eq_true] at h h'
      exact ⟨h.1.trans h'.1.symm, h.2.trans h'.2.symm⟩
  · simp only [c0, ne_eq, false_and, true_and, or_false, not_false_eq_true] at h h'
    exact ⟨h.1.trans h'.1.symm, h.2.trans h'.2.symm⟩

theorem sortsV_nil (W : World) : SortsV W [] (.slice none 0 0) := ⟨none, 0, 0, 0, rfl, fun h => absurd rfl h, fun i hi => absurd hi (by simp)⟩

/-- A row of sorts of its own, as a slice. -/
theorem RowsAt.sorts {W : World} {B R : Nat} {U : List (List ByteArray)} {vals : List Value} (h : RowsAt W B R U vals) (hs : ∀ u, u ∈ U → (∀ x, x ∈ u → x.size ≤ maxLen) ∧ u.length ≤ 9223372036854775807) : SortsV W U (.slice (some ⟨R, 0, none⟩) U.length U.length) :=
  ⟨_, R, 0, _, rfl, fun _ => rfl, fun j hj => by
    obtain ⟨v, h1, h2⟩ := h.row j hj
    have hu := hs U[j] (List.getElem_mem hj)
    obtain ⟨a, c, rfl, hS⟩ := sortAt_own h2 hu.1 hu.2
    refine ⟨(Array.getElem?_eq_some_iff.1 h.box).1, a, c, ?_, hS⟩
    rw [Nat.zero_add]
    exact h.cell h1⟩

theorem ArgsIs.len {name : ByteArray} {s : List ByteArray} {E : Int} {U : List (List ByteArray)} (h : ArgsIs cs ts l name s E U) : U.length ≤ 1000 := by
  rcases h with ⟨_, _, rfl⟩ | ⟨_, _, _, rfl⟩ | ⟨_, _, _, _, rfl⟩ | ⟨_, _, _, _, _, rfl⟩ | ⟨_, _, _, _, _, _, rfl⟩ | ⟨h0, _, _, hc, _, _, rfl⟩
  · simp
  · simp
  · simp
  · simp
  · simp
  · exact Nat.le_trans (argsU_ten (check_zero h0).2.1 hc) (by decide)

section
variable {nm : ByteArray} {ca ta ra oa ya qa : Option Addr} {cc tc rc on oc yn yc qn qc cb co tb to rb ro g : Nat} {W0 : World}

theorem sortArgs_is (h : ThyF nm ca ta ra oa ya qa cc tc rc on oc yn yc qn qc cb co tb to rb ro cs ts l g W0) (name : ByteArray) (sa : Option Addr) (s : List ByteArray) (sc : Nat) (w : World) (hb : Below W0.heap.size W0 w)
    (hz : name.size ≤ maxLen) (hs : SortAt w sa s) :
    Calls Try.prog 26 #[.agg #[.string nm, .slice ca cs.length cc, .slice ta ts.length tc, .slice ra l.length rc, .slice oa on oc, .slice ya yn yc, .slice qa qn qc], .string name, .slice sa s.length sc] w fun e w' => ∃ (a : Option Addr) (c b o : Nat) (E : Int) (U : List (List ByteArray)),
      e = .returned (.tuple #[.slice a U.length c, .int .i64 E]) ∧ ArgsIs cs ts l name s E U ∧ (U ≠ [] → a = some ⟨b, o, none⟩) ∧ SortsAt w' b o U ∧ Below w.heap.size w w' := by
  refine (sortArgs_any h name sa s sc w hb hz hs).mono ?_
  rintro e w' ⟨hb', hh⟩
  have key : ∃ (v : Value) (E : Int) (U : List (List ByteArray)), e = .returned (.tuple #[v, .int .i64 E]) ∧ ArgsIs cs ts l name s E U ∧ SortsV w' U v := by
    rcases hh with ⟨h0, rfl⟩ | ⟨h0, hh⟩
    · exact ⟨_, _, [], rfl, .inl ⟨h0, rfl, rfl⟩, sortsV_nil _⟩
    rcases hh with ⟨h1, rfl⟩ | ⟨h1, h2, rfl⟩ | ⟨h1, h2, h3, rfl⟩ | ⟨h1, h2, h3, R, U, vals, hR, hl, hn, hh⟩
    · exact ⟨_, _, [], rfl, .inr (.inl ⟨h0, h1, rfl, rfl⟩), sortsV_nil _⟩
    · exact ⟨_, _, [], rfl, .inr (.inr (.inl ⟨h0, h1, h2, rfl, rfl⟩)), sortsV_nil _⟩
    · exact ⟨_, _, [], rfl, .inr (.inr (.inr (.inl ⟨h0, h1, h2, fun hc => h3 hc.2, rfl, rfl⟩))), sortsV_nil _⟩
    · obtain rfl := argsU_eq hl hn
      have hc : CanU ts l name s := ⟨h1, h3⟩
      rcases hh with ⟨⟨i, hi, hi2⟩, rfl⟩ | ⟨hi, rfl⟩
      · exact ⟨_, _, [], rfl, .inr (.inr (.inr (.inr (.inl ⟨h0, h1, h2, hc, ⟨_, List.getElem_mem hi, hi2⟩, rfl, rfl⟩)))), sortsV_nil _⟩
      · have hu : ∀ u, u ∈ argsU cs ts l name s → u.length ≤ 20 := fun u hu => by
          obtain ⟨i, hi1, rfl⟩ := List.mem_iff_getElem.1 hu
          exact hi i hi1
        refine ⟨_, _, argsU cs ts l name s, rfl, .inr (.inr (.inr (.inr (.inr ⟨h0, h1, h2, hc, fun ⟨u, hu1, hu2⟩ => (by have := hu u hu1; omega), rfl, rfl⟩)))), hR.sorts fun u hu1 => ⟨fun x hx => known_size h.at_.thy.cls ((argsU_known (check_zero h0).2.2.1 hc hu1).1 x hx), by have := hu u hu1; omega⟩⟩
  obtain ⟨v, E, U, rfl, hi, sa', sb', so', sc', rfl, k1, k2⟩ := key
  exact ⟨sa', sc', sb', so', E, U, rfl, hi, k1, k2, hb'⟩

theorem refArgs_is (h : ThyF nm ca ta ra oa ya qa cc tc rc on oc yn yc qn qc cb co tb to rb ro cs ts l g W0) (name : ByteArray) (sa : Option Addr) (s : List ByteArray) (sc : Nat) (w : World) (hb : Below W0.heap.size W0 w)
    (hz : name.size ≤ maxLen) (hs : SortAt w sa s) (hl25 : s.length ≤ 25) :
    Calls Try.prog 27 #[.agg #[.string nm, .slice ca cs.length cc, .slice ta ts.length tc, .slice ra l.length rc, .slice oa on oc, .slice ya yn yc, .slice qa qn qc], .string name, .slice sa s.length sc] w fun e w' => ∃ (a : Option Addr) (c b o : Nat) (E : Int) (U : List (List ByteArray)),
      e = .returned (.tuple #[.slice a U.length c, .int .i64 E]) ∧ ArgsIs cs ts l name s E U ∧ (U ≠ [] → a = some ⟨b, o, none⟩) ∧ SortsAt w' b o U ∧ Below w.heap.size w w' := by
  refine (refArgs_any h name sa s sc w hb hz hs hl25).mono ?_
  rintro e w' ⟨hb', hh⟩
  have key : ∃ (v : Value) (E : Int) (U : List (List ByteArray)), e = .returned (.tuple #[v, .int .i64 E]) ∧ ArgsIs cs ts l name s E U ∧ SortsV w' U v := by
    rcases hh with ⟨h0, rfl⟩ | ⟨h0, h1, rfl⟩ | ⟨h0, h1, h2, rfl⟩ | ⟨h0, h1, h2, h3, rfl⟩ | ⟨h0, h2, hc, hh⟩
    · exact ⟨_, _, [], rfl, .inl ⟨h0, rfl, rfl⟩, sortsV_nil _⟩
    · exact ⟨_, _, [], rfl, .inr (.inl ⟨h0, h1, rfl, rfl⟩), sortsV_nil _⟩
    · exact ⟨_, _, [], rfl, .inr (.inr (.inl ⟨h0, h1, h2, rfl, rfl⟩)), sortsV_nil _⟩
    · exact ⟨_, _, [], rfl, .inr (.inr (.inr (.inl ⟨h0, h1, h2, h3, rfl, rfl⟩))), sortsV_nil _⟩
    · rcases hh with ⟨hb, rfl⟩ | ⟨hb, v, rfl, hS⟩
      · exact ⟨_, _, [], rfl, .inr (.inr (.inr (.inr (.inl ⟨h0, hc.1, h2, hc, hb, rfl, rfl⟩)))), sortsV_nil _⟩
      · exact ⟨v, _, argsU cs ts l name s, rfl, .inr (.inr (.inr (.inr (.inr ⟨h0, hc.1, h2, hc, fun ⟨u, hu1, hu2⟩ => (by have := hb u hu1; omega), rfl, rfl⟩)))), hS⟩
  obtain ⟨v, E, U, rfl, hi, sa', sb', so', sc', rfl, k1, k2⟩ := key
  exact ⟨sa', sc', sb', so', E, U, rfl, hi, k1, k2, hb'⟩
end

/-- What Ground answers: whether there is a type, and the code. -/
def GroundIs (cs : List Cls) (ts : List TD) (l : List Ari) (s : List ByteArray) (D : Int) (f : Bool) (E : Int) : Prop :=
  (checkErr cs ts l ≠ 0 ∧ f = false ∧ E = checkErr cs ts l) ∨
  (checkErr cs ts l = 0 ∧ sortErr (knownB cs) s ≠ 0 ∧ f = false ∧ E = sortErr (knownB cs) s) ∨
  (checkErr cs ts l = 0 ∧ sortErr (knownB cs) s = 0 ∧ (D < 0 ∨ 5 < D) ∧ f = false ∧ E = 4) ∨
  (checkErr cs ts l = 0 ∧ sortErr (knownB cs) s = 0 ∧ 0 ≤ D ∧ D ≤ 5 ∧ (f = true ↔ Gr cs ts l D.toNat s) ∧ E = 0)

theorem GroundIs.unique {s : List ByteArray} {D : Int} {f f' : Bool} {E E' : Int} (h : GroundIs cs ts l s D f E) (h' : GroundIs cs ts l s D f' E') : f = f' ∧ E = E' := by
  rcases h with ⟨h0, rfl, rfl⟩ | ⟨h0, h1, rfl, rfl⟩ | ⟨h0, h1, h2, rfl, rfl⟩ | ⟨h0, h1, h2, h3, h4, rfl⟩ <;>
  rcases h' with ⟨k0, rfl, rfl⟩ | ⟨k0, k1, rfl, rfl⟩ | ⟨k0, k1, k2, rfl, rfl⟩ | ⟨k0, k1, k2, k3, k4, rfl⟩ <;>
  first
    | exact absurd k0 h0
    | exact absurd h0 k0
    | exact absurd k1 h1
    | exact absurd h1 k1
    | exact ⟨rfl, rfl⟩
    | (exfalso; omega)
    | (refine ⟨?_, rfl⟩; rw [Bool.eq_iff_iff]; exact h4.trans k4.symm)

/-- The type that Ground answers. -/
def TypeIs (cs : List Cls) (ts : List TD) (l : List Ari) (s : List ByteArray) (D : Int) (f : Bool) (S : Nat → Prop) (W : World) (v : Value) : Prop :=
  (f = false ∧ v = zeroT) ∨ (f = true ∧ typesErr ts = 0 ∧ Rep cs ts l S W D.toNat s v)

theorem TypeIs.later {s : List ByteArray} {D : Int} {f : Bool} {S : Nat → Prop} {W W' : World} {v : Value} (h : TypeIs cs ts l s D f S W v) (hb : Below W.heap.size W W') : TypeIs cs ts l s D f S W' v := by
  rcases h with ⟨h1, h2⟩ | ⟨h1, h2, h3⟩
  · exact .inl ⟨h1, h2⟩
  · exact .inr ⟨h1, h2, h3.keep (SameIn.below hb) fun _ h _ => h⟩

theorem TypeIs.form {s : List ByteArray} {D : Int} {f : Bool} {S : Nat → Prop} {W : World} {v : Value} (h : TypeIs cs ts l s D f S W v) : ∃ (k : Int) (n : ByteArray) (aa : Option Addr) (sc m ac : Nat), v = .agg #[.int .i64 k, .string n, .int .i64 0, .slice none 0 sc, .slice aa m ac] := by
  rcases h with ⟨_, rfl⟩ | ⟨_, _, h3⟩
  · exact ⟨0, ⟨#[]⟩, none, 0, 0, 0, rfl⟩
  · obtain ⟨n, aa, sc, m, ac, e⟩ := h3.form
    exact ⟨1, n, aa, sc, m, ac, e⟩

theorem TypeIs.same {s : List ByteArray} {D : Int} {f : Bool} {S S' : Nat → Prop} {W : World} {v v' : Value} (h : TypeIs cs ts l s D f S W v) (h' : TypeIs cs ts l s D f S' W v') : Calls Try.prog 31 #[v, v'] W fun e w' => e = .returned (.bool true) ∧ Below W.heap.size W w' := by
  rcases h with ⟨h1, rfl⟩ | ⟨h1, h2, h3⟩
  · rcases h' with ⟨_, rfl⟩ | ⟨k1, _, _⟩
    · exact same_zero W
    · exact absurd (h1.symm.trans k1) (by decide)
  · rcases h' with ⟨k1, _⟩ | ⟨_, _, k3⟩
    · exact absurd (k1.symm.trans h1) (by decide)
    · exact same_all h2 _ S S' s v v' W h3 k3

theorem GroundOut.is {s : List ByteArray} {D : Int} {S : Nat → Prop} {e : Ending} {w : World} (h : GroundOut cs ts l s D S e w) : ∃ (v : Value) (f : Bool) (E : Int), e = .returned (.tuple #[v, .bool f, .int .i64 E]) ∧ GroundIs cs ts l s D f E ∧ TypeIs cs ts l s D f S w v := by
  rcases h with ⟨h0, rfl⟩ | ⟨h0, h1, rfl⟩ | ⟨h0, h1, h2, rfl⟩ | ⟨h0, h1, d, rfl, hd, ⟨v, rfl, hR⟩ | ⟨hn, rfl⟩⟩
  · exact ⟨_, _, _, rfl, .inl ⟨h0, rfl, rfl⟩, .inl ⟨rfl, rfl⟩⟩
  · exact ⟨_, _, _, rfl, .inr (.inl ⟨h0, h1, rfl, rfl⟩), .inl ⟨rfl, rfl⟩⟩
  · exact ⟨_, _, _, rfl, .inr (.inr (.inl ⟨h0, h1, h2, rfl, rfl⟩)), .inl ⟨rfl, rfl⟩⟩
  · exact ⟨_, _, _, rfl, .inr (.inr (.inr ⟨h0, h1, by omega, by omega, ⟨fun _ => hR.gr, fun _ => rfl⟩, rfl⟩)), .inr ⟨rfl, (check_zero h0).2.1, hR⟩⟩
  · exact ⟨_, _, _, rfl, .inr (.inr (.inr ⟨h0, h1, by omega, by omega, ⟨fun h => (by cases h), fun h => absurd h hn⟩, rfl⟩)), .inl ⟨rfl, rfl⟩⟩
end Go.Proofs.Ytlaibimdkamcfaa
end

