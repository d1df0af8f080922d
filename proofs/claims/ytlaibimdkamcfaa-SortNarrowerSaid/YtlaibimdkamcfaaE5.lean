import Derived.Test.YtlaibimdkamcfaaE4
/-
  The statements' own Few and fewSorts: they answer, and leave all as it was.
-/
namespace Go.Proofs.Ytlaibimdkamcfaa
open Go.RowKit Go.Maps

/-- A slice of slices of strings, as far as the lengths go. -/
def LensAt (W : World) (b o : Nat) (ns : List Nat) : Prop := ∀ i (h : i < ns.length), b < W.heap.size ∧ ns[i] ≤ 9223372036854775807 ∧ ∃ (a : Option Addr) (c : Nat), W.cell? ⟨b, o + i, none⟩ = some (.slice a ns[i] c)

theorem LensAt.later {W W' : World} {b o : Nat} {ns : List Nat} (h : LensAt W b o ns) (hb : Below W.heap.size W W') : LensAt W' b o ns := fun i hi => by
  obtain ⟨h1, h2, a, c, h3⟩ := h i hi
  exact ⟨Nat.lt_of_lt_of_le h1 hb.size, h2, a, c, (hb.cell (p := ⟨b, o + i, none⟩) h1).trans h3⟩

set_option maxHeartbeats 1000000 in
theorem few1_any (a : Option Addr) (n c : Nat) (w : World) (hn : n ≤ 9223372036854775807) : Calls Try.prog 35 #[.slice a n c] w fun e w' => e = .returned (.bool (decide (25 < n))) ∧ w = w' := by
  go_enter Try.func35, Try.ntmps35
  go_wp2_with fail
  go_ret
  refine ⟨?_, rfl⟩
  exact congrArg (fun x => Ending.returned (.bool x)) (by rw [Bool.eq_iff_iff]; simp; omega)

set_option maxRecDepth 100000 in
set_option maxHeartbeats 2000000 in
theorem fewIndex_any (b o c : Nat) (a : Option Addr) (ns : List Nat) (w : World) (ha : ns ≠ [] → a = some ⟨b, o, none⟩) (h : LensAt w b o ns) (hl : ns.length ≤ 9223372036854775807) :
    Calls Try.prog 61 #[.slice a ns.length c, .func (.func 35) #[] #[]] w fun e w' => (∃ i : Int, e = .returned (.int .i64 i) ∧ decide (0 ≤ i) = ns.any (fun n => decide (25 < n))) ∧ w = w' := by
  have HS := Lib.hid h
  have HA := Lib.hid ha
  clear h ha
  go_enter Try.func61, Try.ntmps61
  go_wp2_with fail
  go_loop [8] (fun t => ∃ i : Nat, t = .int .i64 i ∧ i ≤ ns.length ∧ (ns.take i).any (fun n => decide (25 < n)) = false) (fun t => ns.length - (intOf t).toNat)
  case atStart => exact ⟨0, rfl, Nat.zero_le _, by simp⟩
  case round =>
    obtain ⟨i, rfl, hi, hp⟩ := hrel
    by_cases hlt : i < ns.length
    · have e := HA.out (by intro e; subst e; simp at hlt)
      subst e
      obtain ⟨h1, h2, a', c', hc⟩ := HS.out i hlt
      have HP := Lib.hid hp
      have hts : (ns.take (i + 1)).any (fun n => decide (25 < n)) = decide (25 < ns[i]) := by
        rw [← List.take_append_getElem hlt, List.any_append, hp, List.any_cons]; simp
      have HTS := Lib.hid hts
      have hmem := Lib.hid (List.getElem_mem hlt)
      obtain ⟨n, hn⟩ : ∃ n, ns[i] = n := ⟨_, rfl⟩
      rw [hn] at h2 hc HTS hmem
      have hf := Lib.hid (few1_any a' n c' w h2)
      clear hp hts hn
      cases hd : decide (25 < n) with
      | true =>
        rw [hd] at hf
        have hany : ns.any (fun n => decide (25 < n)) = true := List.any_eq_true.2 ⟨n, hmem.out, hd⟩
        have HANY := Lib.hid hany
        clear hany hd
        go_wp2_with (go_at_call 35; refine hf.out.mono ?_; rintro e w' ⟨rfl, rfl⟩)
        go_ret
        exact ⟨⟨i, rfl, by rw [HANY.out]; simp⟩, rfl⟩
      | false =>
        rw [hd] at hf HTS
        clear hd
        go_wp2_with (go_at_call 35; refine hf.out.mono ?_; rintro e w' ⟨rfl, rfl⟩)
        go_round
        case rel => exact ⟨i + 1, by go_num, by omega, HTS.out⟩
        case measure => simp [intOf]; omega
    · have ht : ns.take i = ns := List.take_of_length_le (by omega)
      rw [ht] at hp
      have HP := Lib.hid hp
      clear hp ht
      go_wp2_with fail
      go_ret
      exact ⟨⟨-1, rfl, by rw [HP.out]; rfl⟩, rfl⟩

set_option maxRecDepth 100000 in
set_option maxHeartbeats 2000000 in
theorem fewContains_any (b o c : Nat) (a : Option Addr) (ns : List Nat) (w : World) (ha : ns ≠ [] → a = some ⟨b, o, none⟩) (h : LensAt w b o ns) (hl : ns.length ≤ 9223372036854775807) :
    Calls Try.prog 34 #[.slice a ns.length c, .func (.func 35) #[] #[]] w fun e w' => e = .returned (.bool (ns.any (fun n => decide (25 < n)))) ∧ w = w' := by
  have HI := Lib.hid (fewIndex_any b o c a ns w ha h hl)
  clear h ha
  go_enter Try.func34, Try.ntmps34
  go_wp2_with fail
  refine HI.out.mono ?_
  rintro e w' ⟨⟨i, rfl, hi⟩, rfl⟩
  have HIi := Lib.hid hi
  clear hi
  go_wp2_with fail
  go_ret
  exact ⟨congrArg (fun x => Ending.returned (.bool x)) HIi.out, rfl⟩

/-- Are all sorts short? -/
def shortB (ns : List Nat) : Bool := !(ns.any fun n => decide (25 < n))

set_option maxRecDepth 100000 in
set_option maxHeartbeats 2000000 in
theorem fewSorts_any (b o c : Nat) (a : Option Addr) (ns : List Nat) (w : World) (ha : ns ≠ [] → a = some ⟨b, o, none⟩) (h : LensAt w b o ns) (hl : ns.length ≤ 9223372036854775807) :
    Calls Try.prog 10 #[.slice a ns.length c] w fun e w' => e = .returned (.bool (shortB ns)) ∧ w = w' := by
  have HI := Lib.hid (fewContains_any b o c a ns w ha h hl)
  unfold shortB
  clear h ha
  go_enter Try.func10, Try.ntmps10
  go_wp2_with fail
  refine HI.out.mono ?_
  rintro e w' ⟨rfl, rfl⟩
  go_wp2_with fail
  go_ret
  exact ⟨rfl, rfl⟩

/-- The arities of a theory, as far as Few looks at them. -/
def AritiesAt (W : World) (b o : Nat) (l : List (List Nat)) : Prop :=
  ∀ i (h : i < l.length), b < W.heap.size ∧ l[i].length ≤ 9223372036854775807 ∧ ∃ (t k : ByteArray) (a : Option Addr) (sb so c : Nat), W.cell? ⟨b, o + i * 3, none⟩ = some (.string t) ∧ W.cell? ⟨b, o + i * 3 + 1, none⟩ = some (.string k) ∧
    W.cell? ⟨b, o + i * 3 + 2, none⟩ = some (.slice a l[i].length c) ∧ (l[i] ≠ [] → a = some ⟨sb, so, none⟩) ∧ LensAt W sb so l[i]

theorem AritiesAt.later {W W' : World} {b o : Nat} {l : List (List Nat)} (h : AritiesAt W b o l) (hb : Below W.heap.size W W') : AritiesAt W' b o l := fun i hi => by
  obtain ⟨h1, h2, t, k, a, sb, so, c, c0, c1, c2, h3, h4⟩ := h i hi
  exact ⟨Nat.lt_of_lt_of_le h1 hb.size, h2, t, k, a, sb, so, c, (hb.cell (p := ⟨b, _, none⟩) h1).trans c0, (hb.cell (p := ⟨b, _, none⟩) h1).trans c1, (hb.cell (p := ⟨b, _, none⟩) h1).trans c2, h3, h4.later hb⟩

/-- Some bool came back, and all is as it was. -/
def SomeBool (w : World) (e : Ending) (w' : World) : Prop := ∃ x : Bool, e = .returned (.bool x) ∧ Below w.heap.size w w'

set_option maxRecDepth 100000 in
set_option maxHeartbeats 4000000 in
theorem few_any (nm : ByteArray) (ca ta ra oa ya qa : Option Addr) (cc tn tc rc on oc yn yc qn qc cb co rb ro : Nat) (cs : List Cls) (ars : List (List Nat)) (w : World)
    (hca : cs ≠ [] → ca = some ⟨cb, co, none⟩) (hcs : ClassesAt w cb co cs) (hcl : cs.length ≤ 9223372036854775807) (htn : tn ≤ 9223372036854775807) (hra : ars ≠ [] → ra = some ⟨rb, ro, none⟩) (has : AritiesAt w rb ro ars) (hal : ars.length ≤ 9223372036854775807) :
    Calls Try.prog 9 #[.agg #[.string nm, .slice ca cs.length cc, .slice ta tn tc, .slice ra ars.length rc, .slice oa on oc, .slice ya yn yc, .slice qa qn qc]] w (SomeBool w) := by
  have HCS := Lib.hid hcs
  have HCA := Lib.hid hca
  have HAS := Lib.hid has
  have HRA := Lib.hid hra
  clear hcs hca has hra
  have hb0 : Below w.heap.size w (w.alloc (.cells #[.string nm, .slice ca cs.length cc, .slice ta tn tc, .slice ra ars.length rc, .slice oa on oc, .slice ya yn yc, .slice qa qn qc] 29)) := (Below.refl _ w).alloc (Nat.le_refl _) _
  have hc0 := heap_alloc_new w (.cells #[.string nm, .slice ca cs.length cc, .slice ta tn tc, .slice ra ars.length rc, .slice oa on oc, .slice ya yn yc, .slice qa qn qc] 29)
  have hs0 : (w.alloc (.cells #[.string nm, .slice ca cs.length cc, .slice ta tn tc, .slice ra ars.length rc, .slice oa on oc, .slice ya yn yc, .slice qa qn qc] 29)).heap.size = w.heap.size + 1 := by simp
  have HB0 := Lib.hid hb0
  have HC0 := Lib.hid hc0
  have HS0 := Lib.hid hs0
  clear hb0 hc0 hs0
  go_enter Try.func9, Try.ntmps9
  by_cases h1 : 14 < cs.length
  · go_wp2_with fail
    go_ret
    exact ⟨_, rfl, HB0.out⟩
  · by_cases h2 : 16 < tn
    · go_wp2_with fail
      go_ret
      exact ⟨_, rfl, HB0.out⟩
    · by_cases h3 : 40 < ars.length
      · go_wp2_with fail
        go_ret
        exact ⟨_, rfl, HB0.out⟩
      · go_wp2_with fail
        generalize (w.alloc (.cells #[.string nm, .slice ca cs.length cc, .slice ta tn tc, .slice ra ars.length rc, .slice oa on oc, .slice ya yn yc, .slice qa qn qc] 29)) = w1 at *
        obtain ⟨ga, hga⟩ : ∃ q, w.heap.size = q := ⟨_, rfl⟩
        rw [hga] at HC0 HS0 ⊢
        have HGA := Lib.hid hga
        clear hga
        go_loopw [26] (fun t wr => ∃ i : Nat, t = .int .i64 i ∧ i ≤ cs.length ∧ Below w1.heap.size w1 wr) (fun t _ => cs.length - (intOf t).toNat)
        case atStart => exact ⟨0, rfl, Nat.zero_le _, Below.refl _ _⟩
        case round =>
          obtain ⟨i, rfl, hi, hb⟩ := hrel
          have HB := Lib.hid hb
          have HBW := Lib.hid (HB0.out.trans (hb.mono HB0.out.size))
          clear hb
          by_cases hlt : i < cs.length
          · have e := HCA.out (by intro e; subst e; simp at hlt)
            subst e
            obtain ⟨hcb, sa, sb, so, sc, c0, c1, c2, c3, c4, c5⟩ := (HCS.out.later HBW.out) i hlt
            obtain ⟨c, hc⟩ : ∃ c, cs[i] = c := ⟨_, rfl⟩
            rw [hc] at c0 c1 c2 c3 c4 c5
            have b1 : Below wr.heap.size wr (wr.alloc (.cells #[.string c.name, .slice sa c.sups.length sc] 60)) := (Below.refl _ wr).alloc (Nat.le_refl _) _
            have H1 := Lib.hid b1
            clear hc c2 c3 b1 c4
            unfold maxLen at c5
            by_cases h25 : 25 < c.sups.length
            · go_wp2_with fail
              go_ret
              exact ⟨_, rfl, HBW.out.trans (H1.out.mono HBW.out.size)⟩
            · go_wp2_with fail
              refine ⟨⟨i + 1, by simp only [Int.natCast_add, Int.natCast_one], by omega, HB.out.trans (H1.out.mono HB.out.size)⟩, ?_⟩
              show cs.length - ((i : Int) + 1).toNat < cs.length - ((i : Nat) : Int).toNat
              omega
          · have g3 : wr.cell? ⟨ga, 3, none⟩ = some (.slice ra ars.length rc) := by
              rw [Lib.cell_of_heap ((HB.out.block ga (by rw [HS0.out]; omega)).trans HC0.out)]; rfl
            go_wp2_with fail
            clear hlt hi
            have HBR := Lib.hid HBW.out
            clear HB HBW g3
            obtain ⟨wo, rfl⟩ : ∃ wo : World, wo = wr := ⟨_, rfl⟩
            go_loopw [38] (fun t wr => ∃ i : Nat, t = .int .i64 i ∧ i ≤ ars.length ∧ Below w.heap.size w wr) (fun t _ => ars.length - (intOf t).toNat)
            case atStart => exact ⟨0, rfl, Nat.zero_le _, HBR.out⟩
            case round =>
              obtain ⟨j, rfl, hj, hb⟩ := hrel
              have HB := Lib.hid hb
              clear hb
              by_cases hlt : j < ars.length
              · have e := HRA.out (by intro e; subst e; simp at hlt)
                subst e
                obtain ⟨hrb, hl9, t, k, sa, sb, so, sc, c0, c1, c2, c3, c4⟩ := (HAS.out.later HB.out) j hlt
                obtain ⟨ns, hns⟩ : ∃ ns, ars[j] = ns := ⟨_, rfl⟩
                rw [hns] at hl9 c2 c3 c4
                have b1 : Below wr.heap.size wr (wr.alloc (.cells #[.string t, .string k, .slice sa ns.length sc] 62)) := (Below.refl _ wr).alloc (Nat.le_refl _) _
                have H1 := Lib.hid (HB.out.trans (b1.mono HB.out.size))
                have HF := Lib.hid (fewSorts_any sb so sc sa ns (wr.alloc (.cells #[.string t, .string k, .slice sa ns.length sc] 62)) c3 (c4.later b1) hl9)
                obtain ⟨f, hf⟩ : ∃ f, shortB ns = f := ⟨_, rfl⟩
                rw [hf] at HF
                clear hns c3 c4 b1 hf
                by_cases h12 : 12 < ns.length
                · go_wp2_with fail
                  go_ret
                  exact ⟨_, rfl, H1.out⟩
                · cases f with
                  | false =>
                    go_wp2_with (go_at_call 10; refine HF.out.mono ?_; rintro e w' ⟨rfl, rfl⟩)
                    go_ret
                    exact ⟨_, rfl, H1.out⟩
                  | true =>
                    go_wp2_with (go_at_call 10; refine HF.out.mono ?_; rintro e w' ⟨rfl, rfl⟩)
                    refine ⟨⟨j + 1, by simp only [Int.natCast_add, Int.natCast_one], by omega, H1.out⟩, ?_⟩
                    show ars.length - ((j : Int) + 1).toNat < ars.length - ((j : Nat) : Int).toNat
                    omega
              · go_wp2_with fail
                go_ret
                exact ⟨_, rfl, HB.out⟩
end Go.Proofs.Ytlaibimdkamcfaa
