import Derived.Test.YtlaibimdkamcfaaB3
section
/-
  slices.ContainsFunc of strings, at any function that keeps what lay there; Algebra.Less of any sorts.
-/
namespace Go.Proofs.Ytlaibimdkamcfaa
open Go.RowKit Go.Maps

/-- A slice of strings in block b, from o on. -/
structure StrsAt (w : World) (b o : Nat) (l : List ByteArray) : Prop where
  lt : l ≠ [] → b < w.heap.size
  cell : ∀ i (h : i < l.length), w.cell? ⟨b, o + i, none⟩ = some (.string l[i])
  size : ∀ i (h : i < l.length), l[i].size ≤ maxLen

theorem StrsAt.later {w w' : World} {b o : Nat} {l : List ByteArray} (h : StrsAt w b o l) (hb : Below w.heap.size w w') : StrsAt w' b o l :=
  ⟨fun hn => Nat.lt_of_lt_of_le (h.lt hn) hb.size, fun i hi => (hb.cell (p := ⟨b, o + i, none⟩) (h.lt (by intro e; subst e; simp at hi))).trans (h.cell i hi), h.size⟩

/-- A function of a string that answers p and keeps what lay there when the world was w. -/
def Asks (w : World) (k : Nat) (cap : Array Value) (p : ByteArray → Bool) : Prop :=
  ∀ (s : ByteArray) (W : World), s.size ≤ maxLen → Below w.heap.size w W → Calls Try.prog k (#[.string s] ++ cap) W fun e W' => e = .returned (.bool (p s)) ∧ Below W.heap.size W W'

set_option maxRecDepth 100000 in
set_option maxHeartbeats 2000000 in
theorem indexFunc_any (b o c k : Nat) (a : Option Addr) (cap : Array Value) (p : ByteArray → Bool) (l : List ByteArray) (w : World) (ha : l ≠ [] → a = some ⟨b, o, none⟩) (h : StrsAt w b o l) (hl : l.length ≤ maxLen) (hk : Asks w k cap p)
    (ek : ∀ args W, (callFunc k args).run Try.prog W = .ok (.enter k args) W) :
    Calls Try.prog 84 #[.slice a l.length c, .func (.func k) #[] cap] w fun e w' => (∃ i : Int, e = .returned (.int .i64 i) ∧ decide (0 ≤ i) = l.any p) ∧ Below w.heap.size w w' := by
  have HK := Lib.hid hk
  have HS := Lib.hid h
  have HA := Lib.hid ha
  clear hk h ha
  go_enter Try.func84, Try.ntmps84
  go_wp2_with fail
  go_loopw [8] (fun t wr => ∃ i : Nat, t = .int .i64 i ∧ i ≤ l.length ∧ (l.take i).any p = false ∧ Below w.heap.size w wr) (fun t _ => l.length - (intOf t).toNat)
  case atStart => exact ⟨0, rfl, Nat.zero_le _, by simp, Below.refl _ _⟩
  case round =>
    obtain ⟨i, rfl, hi, hp, hb⟩ := hrel
    by_cases hlt : i < l.length
    · have e := HA.out (by intro e; subst e; simp at hlt)
      subst e
      have hc := (HS.out.later hb).cell i hlt
      have hc2 := Lib.hid (HK.out l[i] wr (HS.out.size i hlt) hb)
      go_wp2_with fail
      refine hc2.out.mono ?_
      rintro e W' ⟨rfl, hb'⟩
      rcases hpe : p l[i] with _ | _
      · have HPE := Lib.hid hpe
        clear hpe
        go_wp2_with fail
        have hw : wrap64 ((i : Int) + 1) = ((i + 1 : Nat) : Int) := by
          simp only [maxLen] at hl
          unfold wrap64
          omega
        rw [hw]
        refine ⟨⟨i + 1, rfl, by omega, ?_, hb.trans (hb'.mono hb.size)⟩, ?_⟩
        · rw [← List.take_append_getElem hlt, List.any_append, hp, List.any_cons, HPE.out]; rfl
        · show l.length - (((i + 1 : Nat) : Int)).toNat < l.length - ((i : Nat) : Int).toNat
          omega
      · have HPE := Lib.hid hpe
        clear hpe
        go_wp2_with fail
        go_ret
        refine ⟨⟨i, rfl, ?_⟩, hb.trans (hb'.mono hb.size)⟩
        rw [List.any_eq_true.mpr ⟨l[i], List.getElem_mem hlt, HPE.out⟩]
        simp
    · have ht : l.take i = l := List.take_of_length_le (by omega)
      rw [ht] at hp
      have HP := Lib.hid hp
      clear hp ht
      go_wp2_with fail
      go_ret
      exact ⟨⟨-1, rfl, by rw [HP.out]; rfl⟩, hb⟩

set_option maxRecDepth 100000 in
set_option maxHeartbeats 2000000 in
theorem containsFunc_any (b o c k : Nat) (a : Option Addr) (cap : Array Value) (p : ByteArray → Bool) (l : List ByteArray) (w : World) (ha : l ≠ [] → a = some ⟨b, o, none⟩) (h : StrsAt w b o l) (hl : l.length ≤ maxLen) (hk : Asks w k cap p)
    (ek : ∀ args W, (callFunc k args).run Try.prog W = .ok (.enter k args) W) :
    Calls Try.prog 72 #[.slice a l.length c, .func (.func k) #[] cap] w fun e w' => e = .returned (.bool (l.any p)) ∧ Below w.heap.size w w' := by
  have HI := Lib.hid (indexFunc_any b o c k a cap p l w ha h hl hk ek)
  clear hk h ha
  go_enter Try.func72, Try.ntmps72
  go_wp2_with fail
  refine HI.out.mono ?_
  rintro e w' ⟨⟨i, rfl, hi⟩, hb⟩
  have HIi := Lib.hid hi
  clear hi
  go_wp2_with fail
  go_ret
  exact ⟨congrArg (fun x => Ending.returned (.bool x)) HIi.out, hb⟩

set_option maxRecDepth 100000 in
set_option maxHeartbeats 2000000 in
theorem asks_below (A : Alg) (na ua aa ta : Option Addr) (nl nc ul uc bc tl tc mb nm ab ao : Nat) (tm sm : Option Nat) (D : DataW Unit) (ga gc : Nat) (y : ByteArray) (w : World) (h : AlgAt A w mb nm ab ao D) (haa : 0 < A.n → aa = some ⟨ab, ao, none⟩) (hm : mb < w.heap.size) (ha : ab < w.heap.size) (hga : ga < w.heap.size) (hgc : gc < w.heap.size)
    (ca : w.heap[ga]? = some (.cells #[.slice na nl nc, .map (some mb), .slice ua ul uc, .slice aa A.n bc, .slice ta tl tc, .map tm, .map sm] 70 (0, 0)))
    (cc : w.cell? ⟨gc, 0, none⟩ = some (.string y)) (hy : y.size ≤ maxLen) :
    Asks w 73 #[.pointer (some ⟨ga, 0, none⟩), .pointer (some ⟨gc, 0, none⟩)] (fun d => A.below d y) := by
  intro x W hx hb
  have HB := Lib.hid (below_any A na ua aa ta nl nc ul uc bc tl tc mb nm ab ao tm sm D x y W (h.below hb hm ha) haa (Nat.lt_of_lt_of_le hm hb.size) (Nat.lt_of_lt_of_le ha hb.size) hx hy)
  have c1 := (hb.block ga hga).trans ca
  have d0 : W.cell? ⟨ga, 0, none⟩ = some (.slice na nl nc) := by simp [World.cell?, c1]
  have d1 : W.cell? ⟨ga, 1, none⟩ = some (.map (some mb)) := by simp [World.cell?, c1]
  have d2 : W.cell? ⟨ga, 2, none⟩ = some (.slice ua ul uc) := by simp [World.cell?, c1]
  have d3 : W.cell? ⟨ga, 3, none⟩ = some (.slice aa A.n bc) := by simp [World.cell?, c1]
  have d4 : W.cell? ⟨ga, 4, none⟩ = some (.slice ta tl tc) := by simp [World.cell?, c1]
  have d5 : W.cell? ⟨ga, 5, none⟩ = some (.map tm) := by simp [World.cell?, c1]
  have d6 : W.cell? ⟨ga, 6, none⟩ = some (.map sm) := by simp [World.cell?, c1]
  have c2 := (hb.cell (p := ⟨gc, 0, none⟩) hgc).trans cc
  clear h ca cc c1
  show Calls Try.prog 73 #[.string x, .pointer (some ⟨ga, 0, none⟩), .pointer (some ⟨gc, 0, none⟩)] W _
  go_enter Try.func73, Try.ntmps73
  go_wp2_with fail
  refine HB.out.mono ?_
  rintro e w' ⟨rfl, hb'⟩
  go_wp2_with fail
  go_ret
  exact ⟨rfl, hb'⟩
end Go.Proofs.Ytlaibimdkamcfaa
end

section
/-
  Algebra.Less of any sorts.
-/
namespace Go.Proofs.Ytlaibimdkamcfaa
open Go.RowKit Go.Maps

set_option maxRecDepth 100000 in
set_option maxHeartbeats 2000000 in
theorem less_any (A : Alg) (na ua aa ta : Option Addr) (nl nc ul uc bc tl tc mb nm ab ao : Nat) (tm sm : Option Nat) (D : DataW Unit) (xb xo xc yb yo yc : Nat) (xa ya : Option Addr) (x y : List ByteArray) (w : World) (h : AlgAt A w mb nm ab ao D) (haa : 0 < A.n → aa = some ⟨ab, ao, none⟩) (hm : mb < w.heap.size) (ha : ab < w.heap.size)
    (hxa : x ≠ [] → xa = some ⟨xb, xo, none⟩) (hya : y ≠ [] → ya = some ⟨yb, yo, none⟩) (hx : StrsAt w xb xo x) (hy : StrsAt w yb yo y) (hlx : x.length ≤ maxLen) (hly : y.length ≤ maxLen) :
    Calls Try.prog 45 #[.agg #[.slice na nl nc, .map (some mb), .slice ua ul uc, .slice aa A.n bc, .slice ta tl tc, .map tm, .map sm], .slice xa x.length xc, .slice ya y.length yc] w fun e w' => e = .returned (.bool (x.all A.known && y.all (fun c => x.any (fun d => A.below d c)))) ∧ Below w.heap.size w w' := by
  have HX := Lib.hid hx
  have HAA := Lib.hid haa
  clear haa
  have HY := Lib.hid hy
  have HXA := Lib.hid hxa
  have HYA := Lib.hid hya
  have HA := Lib.hid h
  clear h hx hy hxa hya
  go_enter Try.func45, Try.ntmps45
  have hb0 : Below w.heap.size w (w.alloc (.cells #[.slice na nl nc, .map (some mb), .slice ua ul uc, .slice aa A.n bc, .slice ta tl tc, .map tm, .map sm] 70)) := (Below.refl _ w).alloc (Nat.le_refl _) _
  have hc0 : (w.alloc (.cells #[.slice na nl nc, .map (some mb), .slice ua ul uc, .slice aa A.n bc, .slice ta tl tc, .map tm, .map sm] 70)).heap[w.heap.size]? = some (.cells #[.slice na nl nc, .map (some mb), .slice ua ul uc, .slice aa A.n bc, .slice ta tl tc, .map tm, .map sm] 70 (0, 0)) := heap_alloc_new w _
  have hs0 : w.heap.size < (w.alloc (.cells #[.slice na nl nc, .map (some mb), .slice ua ul uc, .slice aa A.n bc, .slice ta tl tc, .map tm, .map sm] 70)).heap.size := by simp
  obtain ⟨w1, hw1⟩ : ∃ q, w.alloc (.cells #[.slice na nl nc, .map (some mb), .slice ua ul uc, .slice aa A.n bc, .slice ta tl tc, .map tm, .map sm] 70) = q := ⟨_, rfl⟩
  rw [hw1] at hb0 hc0 hs0
  have HW1 := Lib.hid hw1
  have HB0 := Lib.hid hb0
  have HC0 := Lib.hid hc0
  have HS0 := Lib.hid hs0
  clear hb0 hc0 hs0 hw1
  go_wp2_with fail
  rw [HW1.out]
  obtain ⟨ga, hga⟩ : ∃ q, w.heap.size = q := ⟨_, rfl⟩
  rw [hga] at HC0 HS0 ⊢
  have HGA := Lib.hid hga
  clear hga
  go_loopw [13] (fun t wr => ∃ i : Nat, t = .int .i64 i ∧ i ≤ x.length ∧ (x.take i).all A.known = true ∧ Below w1.heap.size w1 wr) (fun t _ => x.length - (intOf t).toNat)
  case atStart => exact ⟨0, rfl, Nat.zero_le _, by simp, Below.refl _ _⟩
  case round =>
    obtain ⟨i, rfl, hi, hp, hb⟩ := hrel
    by_cases hlt : i < x.length
    · have e := HXA.out (by intro e; subst e; simp at hlt)
      subst e
      have hbw : Below w.heap.size w wr := HB0.out.trans (hb.mono HB0.out.size)
      have HHB := Lib.hid hbw
      have hc := (HX.out.later hbw).cell i hlt
      have HAr := Lib.hid (HA.out.below hbw hm ha)
      have HH := Lib.hid (hasClass_any na ua aa ta nl nc ul uc A.n bc tl tc mb nm tm sm D x[i] wr HAr.out.map (HX.out.size i hlt))
      have c1 := (hb.block ga HS0.out).trans HC0.out
      have d0 : wr.cell? ⟨ga, 0, none⟩ = some (.slice na nl nc) := by simp [World.cell?, c1]
      have d1 : wr.cell? ⟨ga, 1, none⟩ = some (.map (some mb)) := by simp [World.cell?, c1]
      have d2 : wr.cell? ⟨ga, 2, none⟩ = some (.slice ua ul uc) := by simp [World.cell?, c1]
      have d3 : wr.cell? ⟨ga, 3, none⟩ = some (.slice aa A.n bc) := by simp [World.cell?, c1]
      have d4 : wr.cell? ⟨ga, 4, none⟩ = some (.slice ta tl tc) := by simp [World.cell?, c1]
      have d5 : wr.cell? ⟨ga, 5, none⟩ = some (.map tm) := by simp [World.cell?, c1]
      have d6 : wr.cell? ⟨ga, 6, none⟩ = some (.map sm) := by simp [World.cell?, c1]
      have hkn := HAr.out.has x[i]
      rw [hkn] at HH
      clear c1 hkn hbw
      go_wp2_with fail
      refine HH.out.mono ?_
      rintro e W' ⟨rfl, hb'⟩
      rcases hpe : A.known x[i] with _ | _
      · have HPE := Lib.hid hpe
        clear hpe
        go_wp2_with fail
        go_ret
        refine ⟨?_, HHB.out.trans (hb'.mono HHB.out.size)⟩
        have hall : x.all A.known = false := by
          rw [Bool.eq_false_iff]
          intro hh
          have := List.all_eq_true.mp hh x[i] (List.getElem_mem hlt)
          rw [HPE.out] at this
          cases this
        rw [hall]
        rfl
      · have HPE := Lib.hid hpe
        clear hpe
        go_wp2_with fail
        have hw : wrap64 ((i : Int) + 1) = ((i + 1 : Nat) : Int) := by
          simp only [maxLen] at hlx
          unfold wrap64
          omega
        rw [hw]
        refine ⟨⟨i + 1, rfl, by omega, ?_, hb.trans (hb'.mono hb.size)⟩, ?_⟩
        · rw [← List.take_append_getElem hlt, List.all_append, hp, List.all_cons, HPE.out]; rfl
        · show x.length - (((i + 1 : Nat) : Int)).toNat < x.length - ((i : Nat) : Int).toNat
          omega
    · have ht : x.take i = x := List.take_of_length_le (by omega)
      rw [ht] at hp
      have HP := Lib.hid hp
      clear hp ht
      go_wp2_with fail
      have HBR := Lib.hid hb
      clear hb hlt hi
      go_loopw [24] (fun t wr2 => ∃ j : Nat, t = .int .i64 j ∧ j ≤ y.length ∧ (y.take j).all (fun c => x.any (fun d => A.below d c)) = true ∧ Below w1.heap.size w1 wr2) (fun t _ => y.length - (intOf t).toNat)
      case atStart => exact ⟨0, rfl, Nat.zero_le _, by simp, HBR.out⟩
      case round =>
        obtain ⟨j, rfl, hj, hq, hb⟩ := hrel
        by_cases hlt : j < y.length
        · have e := HYA.out (by intro e; subst e; simp at hlt)
          subst e
          have hbw : Below w.heap.size w wr := HB0.out.trans (hb.mono HB0.out.size)
          have HHB := Lib.hid hbw
          have hc := (HY.out.later hbw).cell j hlt
          clear hbw
          have h3 : Below wr.heap.size wr (wr.alloc (.cells #[.string y[j]] 9)) := (Below.refl _ wr).alloc (Nat.le_refl _) _
          have hc3 : (wr.alloc (.cells #[.string y[j]] 9)).cell? ⟨wr.heap.size, 0, none⟩ = some (.string y[j]) := by
            have hn := heap_alloc_new wr (.cells #[.string y[j]] 9)
            simp only [World.cell?, hn]
            rfl
          have hs3 : wr.heap.size < (wr.alloc (.cells #[.string y[j]] 9)).heap.size := by simp
          obtain ⟨w3, hw3⟩ : ∃ q, wr.alloc (.cells #[.string y[j]] 9) = q := ⟨_, rfl⟩
          rw [hw3] at h3 hc3 hs3
          have HW3 := Lib.hid hw3
          have H3 := Lib.hid h3
          have HC3 := Lib.hid hc3
          have HS3 := Lib.hid hs3
          clear hw3 h3 hc3 hs3
          have H03 := Lib.hid (HHB.out.trans (H3.out.mono HHB.out.size))
          have H13 := Lib.hid (hb.trans (H3.out.mono hb.size))
          have HK := Lib.hid (containsFunc_any xb xo xc 73 xa #[.pointer (some ⟨ga, 0, none⟩), .pointer (some ⟨wr.heap.size, 0, none⟩)] (fun d => A.below d y[j]) x w3 HXA.out (HX.out.later H03.out) hlx
            (asks_below A na ua aa ta nl nc ul uc bc tl tc mb nm ab ao tm sm D ga wr.heap.size y[j] w3 (HA.out.below H03.out hm ha) HAA.out (Nat.lt_of_lt_of_le hm H03.out.size) (Nat.lt_of_lt_of_le ha H03.out.size) (Nat.lt_of_lt_of_le HS0.out H13.out.size) HS3.out ((H13.out.block ga HS0.out).trans HC0.out) HC3.out (HY.out.size j hlt))
            (fun _ _ => rfl))
          go_wp2_with fail
          rw [HW3.out]
          refine HK.out.mono ?_
          rintro e W' ⟨rfl, hb'⟩
          rcases hpe : x.any (fun d => A.below d y[j]) with _ | _
          · have HPE := Lib.hid hpe
            clear hpe
            go_wp2_with fail
            go_ret
            refine ⟨?_, H03.out.trans (hb'.mono H03.out.size)⟩
            have hall : y.all (fun c => x.any (fun d => A.below d c)) = false := by
              rw [Bool.eq_false_iff]
              intro hh
              have := List.all_eq_true.mp hh y[j] (List.getElem_mem hlt)
              rw [HPE.out] at this
              cases this
            rw [hall, Bool.and_false]
            rfl
          · have HPE := Lib.hid hpe
            clear hpe
            go_wp2_with fail
            have hw : wrap64 ((j : Int) + 1) = ((j + 1 : Nat) : Int) := by
              simp only [maxLen] at hly
              unfold wrap64
              omega
            rw [hw]
            refine ⟨⟨j + 1, rfl, by omega, ?_, H13.out.trans (hb'.mono H13.out.size)⟩, ?_⟩
            · rw [← List.take_append_getElem hlt, List.all_append, hq, List.all_cons, HPE.out]; rfl
            · show y.length - (((j + 1 : Nat) : Int)).toNat < y.length - ((j : Nat) : Int).toNat
              omega
        · have ht : y.take j = y := List.take_of_length_le (by omega)
          rw [ht] at hq
          have HQ := Lib.hid hq
          clear hq ht
          go_wp2_with fail
          go_ret
          refine ⟨?_, HB0.out.trans (hb.mono HB0.out.size)⟩
          rw [HP.out, HQ.out]
          rfl
end Go.Proofs.Ytlaibimdkamcfaa

/-
  The question of least: whether a class is another one and below it.
-/
namespace Go.Proofs.Ytlaibimdkamcfaa
open Go.RowKit Go.Maps

set_option maxRecDepth 100000 in
set_option maxHeartbeats 2000000 in
theorem asks_under (A : Alg) (na ua aa ta : Option Addr) (nl nc ul uc bc tl tc mb nm ab ao : Nat) (tm sm : Option Nat) (D : DataW Unit) (ga gc : Nat) (y : ByteArray) (w : World) (h : AlgAt A w mb nm ab ao D) (haa : 0 < A.n → aa = some ⟨ab, ao, none⟩) (hm : mb < w.heap.size) (ha : ab < w.heap.size) (hga : ga < w.heap.size) (hgc : gc < w.heap.size)
    (ca : w.heap[ga]? = some (.cells #[.slice na nl nc, .map (some mb), .slice ua ul uc, .slice aa A.n bc, .slice ta tl tc, .map tm, .map sm] 70 (0, 0)))
    (cc : w.cell? ⟨gc, 0, none⟩ = some (.string y)) (hy : y.size ≤ maxLen) :
    Asks w 88 #[.pointer (some ⟨gc, 0, none⟩), .pointer (some ⟨ga, 0, none⟩)] (fun d => !(d.toList == y.toList) && A.below d y) := by
  intro x W hx hb
  have HB := Lib.hid (below_any A na ua aa ta nl nc ul uc bc tl tc mb nm ab ao tm sm D x y W (h.below hb hm ha) haa (Nat.lt_of_lt_of_le hm hb.size) (Nat.lt_of_lt_of_le ha hb.size) hx hy)
  have c1 := (hb.block ga hga).trans ca
  have d0 : W.cell? ⟨ga, 0, none⟩ = some (.slice na nl nc) := by simp [World.cell?, c1]
  have d1 : W.cell? ⟨ga, 1, none⟩ = some (.map (some mb)) := by simp [World.cell?, c1]
  have d2 : W.cell? ⟨ga, 2, none⟩ = some (.slice ua ul uc) := by simp [World.cell?, c1]
  have d3 : W.cell? ⟨ga, 3, none⟩ = some (.slice aa A.n bc) := by simp [World.cell?, c1]
  have d4 : W.cell? ⟨ga, 4, none⟩ = some (.slice ta tl tc) := by simp [World.cell?, c1]
  have d5 : W.cell? ⟨ga, 5, none⟩ = some (.map tm) := by simp [World.cell?, c1]
  have d6 : W.cell? ⟨ga, 6, none⟩ = some (.map sm) := by simp [World.cell?, c1]
  have c2 := (hb.cell (p := ⟨gc, 0, none⟩) hgc).trans cc
  clear h ca cc c1
  show Calls Try.prog 88 #[.string x, .pointer (some ⟨gc, 0, none⟩), .pointer (some ⟨ga, 0, none⟩)] W _
  go_enter Try.func88, Try.ntmps88
  rcases hne : (!(x.toList == y.toList)) with _ | _
  · go_wp2_with fail
    go_ret
    exact ⟨rfl, Below.refl _ _⟩
  · go_wp2_with fail
    refine HB.out.mono ?_
    rintro e w' ⟨rfl, hb'⟩
    go_wp2_with fail
    go_ret
    exact ⟨rfl, hb'⟩
end Go.Proofs.Ytlaibimdkamcfaa
end

