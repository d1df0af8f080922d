/-
  Algebra.least, Normal and Meet.
-/
import Derived.Test.YtlaibimdkamcfaaE2
import Derived.Test.YtlaibimdkamcfaaB6
import Derived.Laws.AppendOwn
namespace Go.Proofs.Ytlaibimdkamcfaa
open Go.RowKit Go.Maps

/-- Is a class kept by least? -/
def keptB (A : Alg) (all : List ByteArray) (c : ByteArray) : Bool := !(all.any fun d => !(d.toList == c.toList) && A.below d c)

theorem keptB_iff {A : Alg} {all : List ByteArray} {c : ByteArray} : keptB A all c = true ↔ ∀ d, d ∈ all → A.below d c = true → d = c := by
  unfold keptB
  rw [Bool.not_eq_true', ← Bool.not_eq_true, List.any_eq_true]
  constructor
  · intro h d hd hb
    refine Classical.byContradiction fun hne => h ⟨d, hd, ?_⟩
    rw [toList_beq, decide_eq_false hne, hb]; rfl
  · rintro h ⟨d, hd, hb⟩
    rw [toList_beq, Bool.and_eq_true, Bool.not_eq_true', decide_eq_false_iff_not] at hb
    exact hb.1 (h d hd hb.2)

theorem normal_of {A : Alg} {s all : List ByteArray} (hm : ∀ x, x ∈ all ↔ x ∈ s) (ha : all.Pairwise ltS) (hl : all.length ≤ s.length) : IsNormalOf ltS A.below s (all.filter (keptB A all)) := by
  refine ⟨ha.filter _, fun c => ?_, Nat.le_trans (List.length_filter_le _ _) hl⟩
  rw [List.mem_filter, keptB_iff, hm]
  exact ⟨fun ⟨h1, h2⟩ => ⟨h1, fun d hd hb => h2 d ((hm d).2 hd) hb⟩, fun ⟨h1, h2⟩ => ⟨h1, fun d hd hb => h2 d ((hm d).1 hd) hb⟩⟩

theorem strs_of_own {W : World} {B n g cap : Nat} {l : List ByteArray} (h : W.ownsRow B 9 1 (.slice (some ⟨g, 0, none⟩) n cap) n (l.map Value.string)) (hs : ∀ x, x ∈ l → x.size ≤ maxLen) : StrsAt W g 0 l := by
  have hl : l.length = n := by have := h.1; simpa using this
  obtain ⟨cur, hg⟩ := own_block h
  refine ⟨fun _ => (Array.getElem?_eq_some_iff.1 hg).1, fun i hi => ?_, fun i hi => hs _ (List.getElem_mem hi)⟩
  rw [Nat.zero_add]
  exact own_get h (by omega) (by simp [hi])

/-- A slice of strings that owns them, as an argument. -/
theorem own_arg {W : World} {B n : Nat} {v : Value} {l : List ByteArray} (h : W.ownsRow B 9 1 v n (l.map Value.string)) (hs : ∀ x, x ∈ l → x.size ≤ maxLen) : ∃ (a : Option Addr) (b c : Nat), v = .slice a l.length c ∧ (l ≠ [] → a = some ⟨b, 0, none⟩) ∧ StrsAt W b 0 l := by
  have hl : l.length = n := by have := h.1; simpa using this
  rcases h.2 with ⟨rfl, h0⟩ | ⟨g, cap, cur, rfl, hb, hg, rest⟩
  · have : l = [] := List.eq_nil_of_length_eq_zero (by omega)
    subst this
    exact ⟨none, 0, 0, rfl, fun h => absurd rfl h, fun h => absurd rfl h, fun i hi => by simp at hi, fun i hi => by simp at hi⟩
  · subst hl
    exact ⟨_, g, cap, rfl, fun _ => rfl, strs_of_own h hs⟩

theorem Try.info9' : (Try.prog.info? 9).map (fun i => (i.zero, i.size, i.bytes)) = some (some (.string ByteArray.empty), 1, 16) := by kernel_rfl

set_option maxRecDepth 100000 in
set_option maxHeartbeats 2000000 in
theorem least_any (A : Alg) (na ua aa ta : Option Addr) (nl nc ul uc bc tl tc mb nm ab ao : Nat) (tm sm : Option Nat) (D : DataW Unit) (xb xo xc : Nat) (xa : Option Addr) (s : List ByteArray) (w : World) (h : AlgAt A w mb nm ab ao D) (haa : 0 < A.n → aa = some ⟨ab, ao, none⟩) (hm : mb < w.heap.size) (ha : ab < w.heap.size)
    (hxa : s ≠ [] → xa = some ⟨xb, xo, none⟩) (hx : StrsAt w xb xo s) (hl : s.length ≤ 1000) :
    Calls Try.prog 75 #[.agg #[.slice na nl nc, .map (some mb), .slice ua ul uc, .slice aa A.n bc, .slice ta tl tc, .map tm, .map sm], .slice xa s.length xc] w fun e w' => ∃ (v : Value) (r : List ByteArray), e = .returned v ∧ IsNormalOf ltS A.below s r ∧ w'.ownsRow w.heap.size 9 1 v r.length (r.map Value.string) ∧ Below w.heap.size w w' := by
  have HX := Lib.hid hx
  have HXA := Lib.hid hxa
  have HA := Lib.hid h
  have HAA := Lib.hid haa
  clear h hx hxa haa
  go_enter Try.func75, Try.ntmps75
  have hb0 : Below w.heap.size w (w.alloc (.cells #[.slice na nl nc, .map (some mb), .slice ua ul uc, .slice aa A.n bc, .slice ta tl tc, .map tm, .map sm] 70)) := (Below.refl _ w).alloc (Nat.le_refl _) _
  have hc0 := heap_alloc_new w (.cells #[.slice na nl nc, .map (some mb), .slice ua ul uc, .slice aa A.n bc, .slice ta tl tc, .map tm, .map sm] 70)
  have hs0 : (w.alloc (.cells #[.slice na nl nc, .map (some mb), .slice ua ul uc, .slice aa A.n bc, .slice ta tl tc, .map tm, .map sm] 70)).heap.size = w.heap.size + 1 := by simp
  obtain ⟨w1, hw1⟩ : ∃ q, w.alloc (.cells #[.slice na nl nc, .map (some mb), .slice ua ul uc, .slice aa A.n bc, .slice ta tl tc, .map tm, .map sm] 70) = q := ⟨_, rfl⟩
  rw [hw1] at hb0 hc0 hs0
  have HW1 := Lib.hid hw1
  have HB0 := Lib.hid hb0
  have HC0 := Lib.hid hc0
  have HS0 := Lib.hid hs0
  clear hb0 hc0 hs0 hw1
  go_wp2_with fail
  rw [HW1.out]
  refine (clone_any xb xo xc xa s w1 HXA.out (HX.out.later HB0.out) hl).mono ?_
  rintro e w2 ⟨v2, rfl, ho2, hb2⟩
  have HB2 := Lib.hid hb2
  have HO2 := Lib.hid ho2
  obtain ⟨a2, c2, rfl⟩ := own_slice ho2
  clear ho2 hb2
  go_wp2_with fail
  refine (sort_any w1.heap.size _ s w2 HO2.out hl).mono ?_
  rintro e w3 ⟨rfl, zs, hzl, ho3, hmem, hso, hb3⟩
  have HB3 := Lib.hid hb3
  rw [← hzl] at ho3
  have HO3 := Lib.hid ho3
  have HSO := Lib.hid hso
  have HMEM := Lib.hid hmem
  have HZL := Lib.hid hzl
  clear ho3 hb3 hso hmem hzl
  go_wp2_with fail
  rw [← HZL.out]
  refine (compact_any w1.heap.size _ zs w3 (HO3.out) (by rw [HZL.out]; exact hl) HSO.out).mono ?_
  rintro e w4 ⟨v4, all, rfl, ho4, hm4, hp4, hl4, hb4⟩
  have hma : ∀ x, x ∈ all ↔ x ∈ s := fun x => by rw [hm4, HMEM.out, toB_data]
  have hsz4 : ∀ x, x ∈ all → x.size ≤ maxLen := fun x hx => by
    obtain ⟨i, hi, rfl⟩ := List.getElem_of_mem ((hma x).1 hx)
    exact HX.out.size i hi
  obtain ⟨a4, b4, c4, rfl, ha4, hst4⟩ := own_arg ho4 hsz4
  have hN := normal_of (A := A) hma hp4 (by rw [← HZL.out]; exact hl4)
  have hall : all.length ≤ 1000 := by rw [HZL.out] at hl4; omega
  have hb14 : Below w1.heap.size w1 w4 := (HB2.out.trans (HB3.out.mono (Nat.le_refl _))).trans hb4
  have HB14 := Lib.hid hb14
  have HB04 := Lib.hid (HB0.out.trans (hb14.mono HB0.out.size))
  have HST4 := Lib.hid hst4
  have HA4 := Lib.hid ha4
  have HNN := Lib.hid hN
  have HSZ4 := Lib.hid hsz4
  have hc4 := (hb14.block w.heap.size (by rw [HS0.out]; omega)).trans HC0.out
  have HC4 := Lib.hid hc4
  have HG4 := Lib.hid (show w.heap.size < w4.heap.size from by have := HS0.out; have := hb14.size; omega)
  clear ho4 hm4 hp4 hl4 hb4 hma hsz4 hst4 ha4 hN hb14 hc4
  obtain ⟨i9, hi9, hx0, hx1, hxb⟩ := info_parts Try.info9'
  have HW := Lib.hid (show w.heap.size ≤ w1.heap.size from by have := HS0.out; omega)
  have HW14 := Lib.hid HB14.out.size
  obtain ⟨ga, hga⟩ : ∃ q, w.heap.size = q := ⟨_, rfl⟩
  rw [hga] at HC4 HG4
  have HGA := Lib.hid hga
  clear hga
  go_wp2_with fail
  rw [HGA.out]
  go_loopw [6, 17] (fun t q wr => ∃ i : Nat, q = .int .i64 i ∧ i ≤ all.length ∧ wr.ownsRow w4.heap.size 9 1 t ((all.take i).filter (keptB A all)).length (((all.take i).filter (keptB A all)).map Value.string) ∧ Below w4.heap.size w4 wr) (fun _ q _ => all.length - (intOf q).toNat)
  case atStart => exact ⟨0, rfl, Nat.zero_le _, World.ownsRow_nil _ _ _ _, Below.refl _ _⟩
  case round =>
    obtain ⟨i, rfl, hi, ho, hb⟩ := hrel
    have HO := Lib.hid ho
    have HB := Lib.hid hb
    clear ho hb
    by_cases hlt : i < all.length
    · have e := HA4.out (by intro e; subst e; simp at hlt)
      subst e
      have hc := (HST4.out.later HB.out).cell i hlt
      rw [Nat.zero_add] at hc
      have h3 : Below wr.heap.size wr (wr.alloc (.cells #[.string all[i]] 9)) := (Below.refl _ wr).alloc (Nat.le_refl _) _
      have hn3 := heap_alloc_new wr (.cells #[.string all[i]] 9)
      have hc3 : (wr.alloc (.cells #[.string all[i]] 9)).cell? ⟨wr.heap.size, 0, none⟩ = some (.string all[i]) := by rw [Lib.cell_of_heap hn3]; rfl
      have hs3 : (wr.alloc (.cells #[.string all[i]] 9)).heap.size = wr.heap.size + 1 := by simp
      obtain ⟨w5, hw5⟩ : ∃ q, wr.alloc (.cells #[.string all[i]] 9) = q := ⟨_, rfl⟩
      have HO5 := Lib.hid (HO.out.alloc (.cells #[.string all[i]] 9))
      rw [hw5] at h3 hn3 hc3 hs3 HO5
      have HW5 := Lib.hid hw5
      have H3 := Lib.hid h3
      have HC3 := Lib.hid hc3
      have HS3 := Lib.hid hs3
      clear h3 hn3 hc3 hs3 hw5
      have H45 := Lib.hid (HB.out.trans (H3.out.mono HB.out.size))
      have H05 := Lib.hid (HB04.out.trans (H45.out.mono HB04.out.size))
      have HK := Lib.hid (containsFunc_any b4 0 c4 88 (some ⟨b4, 0, none⟩) #[.pointer (some ⟨wr.heap.size, 0, none⟩), .pointer (some ⟨ga, 0, none⟩)] (fun d => !(d.toList == all[i].toList) && A.below d all[i]) all w5 (fun _ => rfl) (HST4.out.later H45.out) (by unfold maxLen; omega)
        (asks_under A na ua aa ta nl nc ul uc bc tl tc mb nm ab ao tm sm D ga wr.heap.size all[i] w5 (HA.out.below H05.out hm ha) HAA.out (Nat.lt_of_lt_of_le hm H05.out.size) (Nat.lt_of_lt_of_le ha H05.out.size) (Nat.lt_of_lt_of_le HG4.out H45.out.size) (by rw [HS3.out]; omega) ((H45.out.block ga HG4.out).trans HC4.out) HC3.out (HSZ4.out _ (List.getElem_mem hlt)))
        (fun _ _ => rfl))
      have htk : (all.take (i + 1)).filter (keptB A all) = (all.take i).filter (keptB A all) ++ (if keptB A all all[i] = true then [all[i]] else []) := by
        rw [← List.take_append_getElem hlt, List.filter_append]
        congr 1
        cases hk : keptB A all all[i]
        · rw [List.filter_cons_of_neg (by simp [hk])]; rfl
        · rw [List.filter_cons_of_pos hk]; rfl
      have hkb : keptB A all all[i] = !(all.any fun d => !(d.toList == all[i].toList) && A.below d all[i]) := rfl
      have HTK := Lib.hid htk
      have HKB := Lib.hid hkb
      clear htk hkb
      have hlf : ((all.take i).filter (keptB A all)).length ≤ i := Nat.le_trans (List.length_filter_le _ _) (List.length_take_le _ _)
      go_wp2_with fail
      rw [HW5.out]
      refine HK.out.mono ?_
      rintro e w6 ⟨rfl, hb6⟩
      have H46 := Lib.hid (H45.out.trans (hb6.mono H45.out.size))
      have hc6 := (hb6.cell (p := ⟨wr.heap.size, 0, none⟩) (by rw [HS3.out]; show wr.heap.size < _; omega)).trans HC3.out
      have HO6 := Lib.hid ((KeepT.below 0 hb6).own (by decide) HO5.out)
      have HS6 := Lib.hid hb6.size
      clear hb6 hc
      cases hany : all.any fun d => !(d.toList == all[i].toList) && A.below d all[i] with
      | true =>
        have hnk : keptB A all all[i] = false := by rw [HKB.out, hany]; rfl
        have HNK := Lib.hid hnk
        clear hany hnk
        go_wp2_with fail
        refine ⟨⟨i + 1, by simp only [Int.natCast_add, Int.natCast_one], by omega, ?_, H46.out⟩, ?_⟩
        · rw [HTK.out, HNK.out]
          simpa using HO6.out
        · show all.length - ((i : Int) + 1).toNat < all.length - ((i : Nat) : Int).toNat
          omega
      | false =>
        have hnk : keptB A all all[i] = true := by rw [HKB.out, hany]; rfl
        have HNK := Lib.hid hnk
        clear hany hnk
        go_wp2_with (at_builtin; refine wpList_append_own _ rfl _ _ 27 rfl w4.heap.size 9 i9 (.string ByteArray.empty) 1 16 Try.underlying27 hi9 hx0 hx1 hxb rfl (by decide) _ _ _ rfl (HO6.out.alloc _) ⟨w6.heap.size, 0, none⟩ 1 1 [.string all[i]] rfl rfl (cell_one_new _ _ _) (by simp [Value.oneCell']) (by unfold maxLen; omega) (by omega) (by have := H46.out.size; simp; omega) ?_; intro v' w7 hown7 hgrow7 _)
        have hb7 : Below w4.heap.size w6 w7 := ((Below.refl w4.heap.size w6).alloc H46.out.size _).grown hgrow7 (by have := H46.out.size; simp; omega) (fun q e => (HO6.out.lt q e).1)
        refine ⟨⟨i + 1, by simp only [Int.natCast_add, Int.natCast_one], by omega, ?_, H46.out.trans hb7⟩, ?_⟩
        · rw [HTK.out, HNK.out, if_pos rfl, List.map_append, List.length_append]
          exact hown7
        · show all.length - ((i : Int) + 1).toNat < all.length - ((i : Nat) : Int).toNat
          omega
    · have ht : all.take i = all := List.take_of_length_le (by omega)
      have ho := HO.out
      rw [ht] at ho
      have HO2 := Lib.hid ho
      clear ho ht
      obtain ⟨a6, c6, hv6⟩ := own_slice HO.out
      subst hv6
      go_wp2_with fail
      go_ret
      refine ⟨_, all.filter (keptB A all), rfl, HNN.out, own_mono HO2.out ?_, HB04.out.trans (HB.out.mono HB04.out.size)⟩
      exact Nat.le_trans HW.out HW14.out

/-- The error of a sort. -/
def sortErr (K : ByteArray → Bool) (s : List ByteArray) : Int := if 20 < s.length then 5 else if s.all K then 0 else 9

theorem sortErr_zero {K : ByteArray → Bool} {s : List ByteArray} (h : sortErr K s = 0) : s.length ≤ 20 ∧ ∀ c, c ∈ s → K c = true := by
  unfold sortErr at h
  split at h
  · simp at h
  · split at h
    · rename_i h1 h2
      exact ⟨by omega, fun c hc => List.all_eq_true.1 h2 c hc⟩
    · simp at h

set_option maxRecDepth 100000 in
set_option maxHeartbeats 2000000 in
theorem normal_any (A : Alg) (na ua aa ta : Option Addr) (nl nc ul uc bc tl tc mb nm ab ao : Nat) (tm sm : Option Nat) (D : DataW Unit) (xb xo xc : Nat) (xa : Option Addr) (s : List ByteArray) (w : World) (h : AlgAt A w mb nm ab ao D) (haa : 0 < A.n → aa = some ⟨ab, ao, none⟩) (hm : mb < w.heap.size) (ha : ab < w.heap.size)
    (hxa : s ≠ [] → xa = some ⟨xb, xo, none⟩) (hx : StrsAt w xb xo s) (hl : s.length ≤ 9223372036854775807) :
    Calls Try.prog 50 #[.agg #[.slice na nl nc, .map (some mb), .slice ua ul uc, .slice aa A.n bc, .slice ta tl tc, .map tm, .map sm], .slice xa s.length xc] w fun e w' =>
      ((sortErr A.known s ≠ 0 ∧ e = .returned (.tuple #[.slice none 0 0, .int .i64 (sortErr A.known s)])) ∨
       (sortErr A.known s = 0 ∧ ∃ (v : Value) (r : List ByteArray), e = .returned (.tuple #[v, .int .i64 0]) ∧ IsNormalOf ltS A.below s r ∧ w'.ownsRow w.heap.size 9 1 v r.length (r.map Value.string))) ∧ Below w.heap.size w w' := by
  have HX := Lib.hid hx
  have HXA := Lib.hid hxa
  have HA := Lib.hid h
  have HAA := Lib.hid haa
  clear h hx hxa haa
  go_enter Try.func50, Try.ntmps50
  have hb0 : Below w.heap.size w (w.alloc (.cells #[.slice na nl nc, .map (some mb), .slice ua ul uc, .slice aa A.n bc, .slice ta tl tc, .map tm, .map sm] 70)) := (Below.refl _ w).alloc (Nat.le_refl _) _
  have hc0 := heap_alloc_new w (.cells #[.slice na nl nc, .map (some mb), .slice ua ul uc, .slice aa A.n bc, .slice ta tl tc, .map tm, .map sm] 70)
  have hs0 : (w.alloc (.cells #[.slice na nl nc, .map (some mb), .slice ua ul uc, .slice aa A.n bc, .slice ta tl tc, .map tm, .map sm] 70)).heap.size = w.heap.size + 1 := by simp
  obtain ⟨w1, hw1⟩ : ∃ q, w.alloc (.cells #[.slice na nl nc, .map (some mb), .slice ua ul uc, .slice aa A.n bc, .slice ta tl tc, .map tm, .map sm] 70) = q := ⟨_, rfl⟩
  rw [hw1] at hb0 hc0 hs0
  have HW1 := Lib.hid hw1
  have HB0 := Lib.hid hb0
  have HC0 := Lib.hid hc0
  have HS0 := Lib.hid hs0
  clear hb0 hc0 hs0 hw1
  by_cases h20 : 20 < s.length
  · have he : sortErr A.known s = 5 := by unfold sortErr; rw [if_pos h20]
    have HE := Lib.hid he
    clear he
    go_wp2_with fail
    rw [HW1.out]
    go_ret2
    exact ⟨.inl ⟨by rw [HE.out]; decide, by rw [HE.out]; rfl⟩, HB0.out⟩
  · go_wp2_with fail
    rw [HW1.out]
    obtain ⟨ga, hga⟩ : ∃ q, w.heap.size = q := ⟨_, rfl⟩
    rw [hga] at HC0 HS0 ⊢
    have HGA := Lib.hid hga
    clear hga
    go_loopw [13] (fun t wr => ∃ i : Nat, t = .int .i64 i ∧ i ≤ s.length ∧ (s.take i).all A.known = true ∧ Below w1.heap.size w1 wr) (fun t _ => s.length - (intOf t).toNat)
    case atStart => exact ⟨0, rfl, Nat.zero_le _, by simp, Below.refl _ _⟩
    case round =>
      obtain ⟨i, rfl, hi, hp, hb⟩ := hrel
      have HP := Lib.hid hp
      have HB := Lib.hid hb
      have HBW := Lib.hid (HB0.out.trans (hb.mono HB0.out.size))
      obtain ⟨d0, d1, d2, d3, d4, d5, d6⟩ := alg_cells ((hb.block ga (by rw [HS0.out]; omega)).trans HC0.out)
      clear hp hb
      by_cases hlt : i < s.length
      · have e := HXA.out (by intro e; subst e; simp at hlt)
        subst e
        have hc := (HX.out.later HBW.out).cell i hlt
        have hsz := HX.out.size i hlt
        have HAr := Lib.hid (HA.out.below HBW.out hm ha)
        have HH := Lib.hid (hasClass_any na ua aa ta nl nc ul uc A.n bc tl tc mb nm tm sm D s[i] wr HAr.out.map hsz)
        rw [HAr.out.has s[i]] at HH
        have hmem := Lib.hid (List.getElem_mem hlt)
        cases hk : A.known s[i] with
        | false =>
          rw [hk] at HH
          have he : sortErr A.known s = 9 := by
            unfold sortErr
            rw [if_neg h20, if_neg]
            intro hall
            have := List.all_eq_true.1 hall _ hmem.out
            rw [hk] at this
            cases this
          have HE := Lib.hid he
          clear he hk
          go_wp2_with fail
          refine HH.out.mono ?_
          rintro e w2 ⟨rfl, hb2⟩
          go_wp2_with fail
          go_ret2
          exact ⟨.inl ⟨by rw [HE.out]; decide, by rw [HE.out]; rfl⟩, HBW.out.trans (hb2.mono HBW.out.size)⟩
        | true =>
          rw [hk] at HH
          have HK := Lib.hid hk
          clear hk
          have hts : (s.take (i + 1)).all A.known = true := by rw [← List.take_append_getElem hlt, List.all_append, HP.out, List.all_cons, HK.out]; rfl
          have HTS := Lib.hid hts
          clear hts
          go_wp2_with fail
          refine HH.out.mono ?_
          rintro e w2 ⟨rfl, hb2⟩
          go_wp2_with fail
          refine ⟨⟨i + 1, by simp only [Int.natCast_add, Int.natCast_one], by omega, HTS.out, HB.out.trans (hb2.mono HB.out.size)⟩, ?_⟩
          show s.length - ((i : Int) + 1).toNat < s.length - ((i : Nat) : Int).toNat
          omega
      · have ht : s.take i = s := List.take_of_length_le (by omega)
        have he : sortErr A.known s = 0 := by
          unfold sortErr
          rw [if_neg h20, if_pos]
          have := HP.out
          rwa [ht] at this
        have HE := Lib.hid he
        have HL := Lib.hid (least_any A na ua aa ta nl nc ul uc bc tl tc mb nm ab ao tm sm D xb xo xc xa s wr (HA.out.below HBW.out hm ha) HAA.out (Nat.lt_of_lt_of_le hm HBW.out.size) (Nat.lt_of_lt_of_le ha HBW.out.size) HXA.out (HX.out.later HBW.out) (by omega))
        clear he ht
        go_wp2_with fail
        refine HL.out.mono ?_
        rintro e w2 ⟨v, r, rfl, hn, ho, hb2⟩
        have HN := Lib.hid hn
        have HO := Lib.hid ho
        have HB2 := Lib.hid hb2
        obtain ⟨a6, c6, rfl⟩ := own_slice ho
        clear hn ho hb2
        go_wp2_with fail
        go_ret2
        exact ⟨.inr ⟨HE.out, _, r, rfl, HN.out, own_mono HO.out HBW.out.size⟩, HBW.out.trans (HB2.out.mono HBW.out.size)⟩
end Go.Proofs.Ytlaibimdkamcfaa
