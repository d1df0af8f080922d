import Derived.Test.YtlaibimdkamcfaaH5
import Derived.Test.YtlaibimdkamcfaaD4
import Derived.Sort.QuietIn
section
/-
  Algebra.addArities.
-/
namespace Go.Proofs.Ytlaibimdkamcfaa
open Go.RowKit Go.Maps Go.WideMaps

theorem below_butX {B x : Nat} {W0 w w' : World} (h : Below B W0 w) (k : ButX x w w') (hx : B ≤ x) (hB : B ≤ w.heap.size) : Below B W0 w' :=
  ⟨k.os.trans h.os, k.tape.trans h.tape, k.output.trans h.output, Nat.le_trans h.size k.size, fun i hi => (k.block i (by omega) (by omega)).trans (h.block i hi)⟩

theorem AlgAt.butX {A : Alg} {x : Nat} {w w' : World} {mb nm ab ao : Nat} {D : DataW Unit} (h : AlgAt A w mb nm ab ao D) (hb : ButX x w w') (hm : mb < w.heap.size) (ha : ab < w.heap.size) (hmx : mb ≠ x) (hax : ab ≠ x) : AlgAt A w' mb nm ab ao D := by
  refine ⟨?_, h.has, h.at_, fun i hi k hk => (hb.cell (p := ⟨ab, ao + i * 5 + k, none⟩) ha hax).trans (h.cell i hi k hk)⟩
  obtain ⟨es, clock, h1, h2⟩ := h.map
  exact ⟨es, clock, (hb.block mb hm hmx).trans h1, h2⟩

theorem Try.info27 : (Try.prog.info? 27).map (fun i => (i.zero, i.size, i.bytes)) = some (some (.slice none 0 0), 1, 24) := by kernel_rfl

theorem types_arity {ts : List TD} (h : typesErr ts = 0) {i : Nat} (hi : i < ts.length) : 0 ≤ ts[i].arity ∧ ts[i].arity ≤ 10 := by
  have hz : tdErr (tnames (ts.take i)) (tdAt ts i) = 0 := by
    unfold typesErr at h
    split at h
    · cases h
    · exact firstErr_zero.1 h i hi
  rw [tdAt_eq hi] at hz
  unfold tdErr at hz
  split at hz
  · split at hz
    · cases hz
    · split at hz
      · cases hz
      · omega
  · cases hz

/-- The sorts that have been cloned lie in rows of their own. -/
def Cloned (W : World) (L : List (List ByteArray)) (k : Nat) (vals : List Value) : Prop := ∀ j (h : j < L.length), j < k → ∃ v B, vals[j]? = some v ∧ W.ownsRow B 9 1 v L[j].length (L[j].map Value.string)

theorem Cloned.keep {t : TypeId} {W W' : World} {L : List (List ByteArray)} {k : Nat} {vals : List Value} (h : Cloned W L k vals) (hk : KeepT t W W') (ht : (9 : TypeId) ≠ t) : Cloned W' L k vals := by
  intro j hj hjk
  obtain ⟨v, B, h1, h2⟩ := h j hj hjk
  exact ⟨v, B, h1, hk.own ht h2⟩

/-- The row of clones, as sorts. -/
theorem cloned_sorts {W : World} {B : Nat} {v : Value} {L : List (List ByteArray)} {vals : List Value} (h : W.ownsRow B 27 1 v L.length vals) (hc : Cloned W L L.length vals) (hs : ∀ x, x ∈ L → ∀ z, z ∈ x → z.size ≤ maxLen) (hl : ∀ x, x ∈ L → x.length ≤ 9223372036854775807) : SortsV W L v := by
  rcases h.2 with ⟨rfl, h0⟩ | ⟨g, cap, cur, rfl, _, hg, hrest⟩
  · exact ⟨none, 0, 0, 0, by rw [h0], fun hn => absurd (List.eq_nil_of_length_eq_zero h0) hn, fun i hi => by omega⟩
  · refine ⟨_, g, 0, cap, rfl, fun _ => rfl, fun i hi => ?_⟩
    obtain ⟨u, B', h1, h2⟩ := hc i hi hi
    have hgl := (Array.getElem?_eq_some_iff.1 hg).1
    obtain ⟨a, c, rfl, hS⟩ := sortAt_own h2 (hs _ (List.getElem_mem hi)) (hl _ (List.getElem_mem hi))
    refine ⟨hgl, a, c, ?_, hS⟩
    have := h.cellAt i (by omega)
    rw [h1] at this
    rw [Nat.zero_add]
    exact this

/-- A slice that is owned reads as an element of the map. -/
theorem sliceR_own {W : World} {B e k n : Nat} {v : Value} {xs : List Value} (h : W.ownsRow B e k v n xs) : ∃ d, sliceR v = some (d, []) := by
  rcases h.2 with ⟨rfl, _⟩ | ⟨g, cap, cur, rfl, _⟩
  · exact ⟨_, rfl⟩
  · exact ⟨_, rfl⟩

set_option maxRecDepth 100000 in
set_option maxHeartbeats 8000000 in
theorem addArities_any (A : Alg) (na ua aa t4 ra : Option Addr) (nl nc ul uc bc tl t4c mb nm ab ao mt nt ga rb ro rc : Nat) (D Dt : DataW Unit) (cs : List Cls) (ts : List TD) (l : List Ari) (W0 w : World)
    (hW : Below W0.heap.size W0 w) (hg0 : W0.heap.size ≤ ga) (hbox : w.heap[ga]? = some (.cells #[.slice na nl nc, .map (some mb), .slice ua ul uc, .slice aa A.n bc, .slice t4 tl t4c, .map (some mt), .map none] 70 (0, 0)))
    (h : AlgAt A w mb nm ab ao D) (haa : 0 < A.n → aa = some ⟨ab, ao, none⟩) (hm : mb < w.heap.size) (ha : ab < w.heap.size) (hmg : mb ≠ ga) (hag : ab ≠ ga)
    (hkn : A.known = knownB cs) (hbe : A.below = belowB cs) (ht : TakesAt ts ts.length mt nt Dt w) (htg : mt ≠ ga) (hT : typesErr ts = 0)
    (hra : l ≠ [] → ra = some ⟨rb, ro, none⟩) (hars : ArisAt W0 rb ro l) (hl : l.length ≤ 9223372036854775807) :
    Calls Try.prog 63 #[.pointer (some ⟨ga, 0, none⟩), .slice ra l.length rc] w fun e w' => ButX ga w w' ∧
      ((arisErr cs ts l ≠ 0 ∧ e = .returned (.int .i64 (arisErr cs ts l))) ∨
       (arisErr cs ts l = 0 ∧ e = .returned (.int .i64 0) ∧ ∃ (ms np : Nat) (Dp : DataW Unit), w'.heap[ga]? = some (.cells #[.slice na nl nc, .map (some mb), .slice ua ul uc, .slice aa A.n bc, .slice t4 tl t4c, .map (some mt), .map (some ms)] 70 (0, 0)) ∧ PlacesAt l ms np Dp w' ∧ w.heap.size ≤ ms)) := by
  have HW := Lib.hid hW
  have HBOX := Lib.hid hbox
  have HARS := Lib.hid hars
  have HRA := Lib.hid hra
  have HA := Lib.hid h
  have HAA := Lib.hid haa
  have HT := Lib.hid ht
  have HTE := Lib.hid hT
  have HKN := Lib.hid hkn
  have HBE := Lib.hid hbe
  have HGL := Lib.hid (Array.getElem?_eq_some_iff.1 hbox).1
  have HMT := Lib.hid ht.map.lt
  have HSZ := Lib.hid (show ∀ b, b ∈ l → b.typ.size ≤ maxLen ∧ b.cls.size ≤ maxLen from fun b hb => by
    obtain ⟨i, hi, rfl⟩ := List.getElem_of_mem hb
    obtain ⟨_, _, _, _, _, _, _, _, _, _, h5, h6, _⟩ := hars i hi
    exact ⟨h5, h6⟩)
  clear hW hbox hars hra h haa ht hT hkn hbe
  by_cases h300 : 300 < l.length
  · have HE := Lib.hid (arisErr_many (cs := cs) (ts := ts) h300)
    go_enter Try.func63, Try.ntmps63
    go_wp2_with fail
    go_ret
    refine ⟨ButX.below (Below.refl _ _), .inl ⟨by rw [HE.out]; decide, by rw [HE.out]; rfl⟩⟩
  have H300 := Lib.hid h300
  have hmk : ∀ (w : World) (n : Int), (Instr.makeMap 68 (some (.int .i64 n))).run Try.prog w = .ok (.map (some w.heap.size)) (w.alloc (.map #[] 0)) := fun w n => by simp [Instr.makeMap, run_underlying Try.underlying68, asInt, asIntOf, Result.andThen]
  have hboxa : (w.alloc (.map #[] 0)).heap[ga]? = some (.cells #[.slice na nl nc, .map (some mb), .slice ua ul uc, .slice aa A.n bc, .slice t4 tl t4c, .map (some mt), .map none] 70 (0, 0)) := by rw [Below.heap_alloc _ _ _ HGL.out]; exact HBOX.out
  obtain ⟨_, _, _, _, _, _, ga6, gaf⟩ := box7 hboxa
  have gaf6 := gaf 6
  have HBOXA := Lib.hid hboxa
  clear gaf hboxa
  go_enter Try.func63, Try.ntmps63
  go_wp2_with fail
  have hbox2 : ((w.alloc (.map #[] 0)).setCell ⟨ga, 6, none⟩ (.map (some w.heap.size))).heap[ga]? = some (.cells #[.slice na nl nc, .map (some mb), .slice ua ul uc, .slice aa A.n bc, .slice t4 tl t4c, .map (some mt), .map (some w.heap.size)] 70 (0, 0)) := Go.heap_setCell_same _ _ 6 _ 70 _ HBOXA.out
  have hx2 : ButX ga w ((w.alloc (.map #[] 0)).setCell ⟨ga, 6, none⟩ (.map (some w.heap.size))) := (ButX.below ((Below.refl _ w).alloc (Nat.le_refl _) _)).trans (ButX.store _ _ _)
  have hp2 : PlacesAt [] w.heap.size 0 (.map []) ((w.alloc (.map #[] 0)).setCell ⟨ga, 6, none⟩ (.map (some w.heap.size))) := by
    refine ⟨World.ownsMap.setCell (World.ownsMap_made w Try.prog 128 _) (by show w.heap.size ≠ ga; have := HGL.out; omega) _, fun p _ _ => ?_, fun a ha => ?_, ?_⟩
    · simp [Maps.has]
    · cases ha
    · exact Maps.isMap_empty
  generalize ((w.alloc (.map #[] 0)).setCell ⟨ga, 6, none⟩ (.map (some w.heap.size))) = w2 at *
  have HBOX2 := Lib.hid hbox2
  have HX2 := Lib.hid hx2
  have HP2 := Lib.hid hp2
  clear hbox2 hx2 hp2 ga6 gaf6 hmk HBOXA
  obtain ⟨ms, hms⟩ : ∃ q, w.heap.size = q := ⟨_, rfl⟩
  rw [hms] at HBOX2 HP2
  have HMS := Lib.hid hms
  clear hms
  go_loopw [22] (fun t wr => ∃ (i : Nat) (Dp : DataW Unit), t = .int .i64 i ∧ i ≤ l.length ∧ (∀ j, j < i → ariErr cs ts ((l.take j).map pairOf) (ariAt l j) = 0) ∧ wr.heap[ga]? = some (.cells #[.slice na nl nc, .map (some mb), .slice ua ul uc, .slice aa A.n bc, .slice t4 tl t4c, .map (some mt), .map (some ms)] 70 (0, 0)) ∧ PlacesAt (l.take i) ms i Dp wr ∧ ButX ga w wr) (fun t _ => l.length - (intOf t).toNat)
  case atStart => exact ⟨0, _, rfl, Nat.zero_le _, fun j hj => by omega, HBOX2.out, HP2.out, HX2.out⟩
  case round =>
    obtain ⟨i, Dp, rfl, hi, hp, hbox, hpl, hx⟩ := hrel
    have HP := Lib.hid hp
    have HBX := Lib.hid hbox
    have HPL := Lib.hid hpl
    have HXR := Lib.hid hx
    have HW0R := Lib.hid (below_butX HW.out hx hg0 HW.out.size)
    clear hp hbox hpl hx
    by_cases hlt : i < l.length
    · have e := HRA.out (by intro e; subst e; simp at hlt)
      subst e
      obtain ⟨hlb, sa, sb, so, sc, c0, c1, c2, c3, c4, c5, c6, c7⟩ := (HARS.out.later HW0R.out) i hlt
      have HAT := Lib.hid (fun E he h0 => arisErr_at (cs := cs) (ts := ts) H300.out hlt HP.out (E := E) he h0)
      have HAE := Lib.hid (ariAt_eq hlt)
      have HTK := Lib.hid (List.take_append_getElem hlt)
      have HMEM := Lib.hid (List.getElem_mem hlt)
      obtain ⟨a, hae⟩ : ∃ a, l[i] = a := ⟨_, rfl⟩
      rw [hae] at c0 c1 c2 c3 c4 c5 c6 c7 HAE HTK HMEM
      simp only [HAE.out] at HAT
      have b3 : Below wr.heap.size wr (wr.alloc (.cells #[.string a.typ, .string a.cls, .slice sa a.sorts.length sc] 62)) := (Below.refl _ wr).alloc (Nat.le_refl _) _
      have n3 := heap_alloc_new wr (.cells #[.string a.typ, .string a.cls, .slice sa a.sorts.length sc] 62)
      have HPL3 := Lib.hid (HPL.out.below b3)
      have HBX3 := Lib.hid ((b3.block ga (Nat.lt_of_lt_of_le HGL.out HXR.out.size)).trans HBX.out)
      have HX3 := Lib.hid (HXR.out.later b3)
      have HN3 := Lib.hid n3
      have HSS3 := Lib.hid (c4.later b3)
      have HW03 := Lib.hid (HW0R.out.trans (b3.mono HW0R.out.size))
      have HLW := Lib.hid (show wr.heap.size < (wr.alloc (.cells #[.string a.typ, .string a.cls, .slice sa a.sorts.length sc] 62)).heap.size by simp)
      have HC3 := Lib.hid c3
      have HC5 := Lib.hid c5
      have HC6 := Lib.hid c6
      clear hae b3 n3 c3 c4 c5 c6 hlb
      go_wp2_with fail
      generalize (wr.alloc (.cells #[.string a.typ, .string a.cls, .slice sa a.sorts.length sc] 62)) = w3 at *
      obtain ⟨gc, hgc⟩ : ∃ q, wr.heap.size = q := ⟨_, rfl⟩
      rw [hgc] at HN3 HLW ⊢
      clear hgc c0 c1 c2
      have HA3 := Lib.hid (HA.out.butX HX3.out hm ha hmg hag)
      have HT3 := Lib.hid (HT.out.keep (HX3.out.block mt HMT.out htg))
      have hmb3 := Nat.lt_of_lt_of_le hm HX3.out.size
      have hab3 := Nat.lt_of_lt_of_le ha HX3.out.size
      have hgl3 := Nat.lt_of_lt_of_le HGL.out HX3.out.size
      have HGL3 := Lib.hid hgl3
      have HBD : Hid (Below w3.heap.size w3 w3.drew) := Lib.hid (Below.refl _ _).drew
      have HCALL := Lib.hid (arityError_any A na ua aa t4 nl nc ul uc bc tl t4c mb nm ab ao mt nt ms i D Dt Dp cs ts (l.take i) a sa sb so sc w3.drew (HA3.out.below HBD.out hmb3 hab3) HAA.out hmb3 hab3 HKN.out HBE.out (HT3.out.below HBD.out) (HPL3.out.below HBD.out) HC3.out (HSS3.out.later HBD.out) HC5.out HC6.out c7)
      obtain ⟨E, hE⟩ : ∃ E, ariErr cs ts ((l.take i).map pairOf) a = E := ⟨_, rfl⟩
      rw [hE] at HCALL
      have HEE := Lib.hid hE
      obtain ⟨k0, k1, k2, k3, k4, k5, k6, _⟩ := box7 (show w3.drew.heap[ga]? = _ from HBX3.out)
      obtain ⟨f0, f1, f2⟩ := cells3 (show w3.drew.heap[gc]? = _ from HN3.out)
      clear hE hmb3 hab3 hgl3
      go_wp2_with fail
      go_region_held3 (fun W => W.cell? ⟨gc, 0, none⟩ = some (.string a.typ) ∧ W.cell? ⟨gc, 1, none⟩ = some (.string a.cls) ∧ W.cell? ⟨gc, 2, none⟩ = some (.slice sa a.sorts.length sc) ∧ W.cell? ⟨ga, 0, none⟩ = some (.slice na nl nc) ∧ W.cell? ⟨ga, 1, none⟩ = some (.map (some mb)) ∧ W.cell? ⟨ga, 2, none⟩ = some (.slice ua ul uc) ∧ W.cell? ⟨ga, 3, none⟩ = some (.slice aa A.n bc) ∧ W.cell? ⟨ga, 4, none⟩ = some (.slice t4 tl t4c) ∧ W.cell? ⟨ga, 5, none⟩ = some (.map (some mt)) ∧ W.cell? ⟨ga, 6, none⟩ = some (.map (some ms)))
        (refine ⟨?_, ?_, ?_, ?_, ?_, ?_, ?_, ?_, ?_, ?_⟩ <;> assumption)
        ((go_at_call 82
          refine HCALL.out.mono ?_
          rintro e w4 ⟨rfl, hb4⟩
          have HB4 : Hid (Below w3.heap.size w3 w4) := Lib.hid (HBD.out.trans hb4)
          obtain ⟨i0, i1, i2, i3, i4, i5, i6, _⟩ := box7 ((HB4.out.block ga HGL3.out).trans HBX3.out)
          obtain ⟨j0, j1, j2⟩ := cells3 ((HB4.out.block gc HLW.out).trans HN3.out)
          clear hb4))
      have HX4 := Lib.hid (HX3.out.later HB4.out)
      have HPL4 := Lib.hid (HPL3.out.below HB4.out)
      have HBX4 := Lib.hid ((HB4.out.block ga HGL3.out).trans HBX3.out)
      have HN4 := Lib.hid ((HB4.out.block gc HLW.out).trans HN3.out)
      have HSS4 := Lib.hid (HSS3.out.later HB4.out)
      have HGC4 := Lib.hid (Nat.lt_of_lt_of_le HLW.out HB4.out.size)
      clear k0 k1 k2 k3 k4 k5 k6 f0 f1 f2 HCALL
      by_cases hE0 : ¬ (E = 0)
      · have HE := Lib.hid (HAT.out E HEE.out hE0)
        have q1 : (E == 0) = false := by simpa using hE0
        have q2 : (E != 0) = true := by simpa using hE0
        have HNE := Lib.hid hE0
        clear hE0
        go_wp2_with fail
        go_ret
        refine ⟨HX4.out, .inl ⟨by rw [HE.out]; exact HNE.out, by rw [HE.out]; rfl⟩⟩
      replace hE0 := Classical.not_not.1 hE0
      subst hE0
      obtain ⟨hty, hkc, hnp, hcount, hsr⟩ := ariErr_zero HEE.out
      have hn10 : a.sorts.length ≤ 10 := by
        have h1 := tIdx_lt hty
        have h2 := (types_arity HTE.out h1).2
        rw [tdAt_eq h1] at hcount
        omega
      have HNP := Lib.hid hnp
      have HSR := Lib.hid hsr
      clear hty hkc hnp hcount hsr
      obtain ⟨i27, hi27, hx0, hx1, hxb⟩ := info_parts Try.info27
      have HKEEP := Lib.hid (And.intro HX4.out (And.intro HPL4.out (And.intro HBX4.out HN4.out)))
      go_wp2_with (at_make; refine wpList_make_own _ rfl _ _ 44 rfl w4.heap.size 27 i27 (.slice none 0 0) 1 Try.underlying44 hi27 hx0 hx1 .i64 .i64 (a.sorts.length : Int) a.sorts.length rfl rfl rfl (by rw [hxb]; omega) (by unfold maxLen; omega) (Nat.le_refl _) ?_; intro w5 ho5 hg5; have hb5 : Below w4.heap.size w4 w5 := (Below.refl _ _).grown hg5 (Nat.le_refl _) (fun q e => by cases e); obtain ⟨j0, j1, j2⟩ := cells3 ((hb5.block gc HGC4.out).trans HN4.out); have HO5 := Lib.hid ho5; have HB5 := Lib.hid hb5; clear ho5 hg5 hb5)
      clear i0 i1 i2 i3 i4 i5 i6
      obtain ⟨v5, hv5⟩ : ∃ v, Value.slice (some ⟨w4.heap.size, 0, none⟩) 0 a.sorts.length = v := ⟨_, rfl⟩
      rw [hv5] at HO5 ⊢
      clear hv5
      go_loopw [8, 41] (fun v t wr => ∃ (k : Nat) (vals : List Value), t = .int .i64 k ∧ k ≤ a.sorts.length ∧ wr.ownsRow w4.heap.size 27 1 v k vals ∧ Cloned wr a.sorts k vals ∧ Below w4.heap.size w4 wr) (fun _ t _ => a.sorts.length - (intOf t).toNat)
      case atStart => exact ⟨0, [], rfl, Nat.zero_le _, HO5.out, fun j _ hj => by omega, HB5.out⟩
      case round =>
        obtain ⟨k, vals, rfl, hk, ho, hcl, hb⟩ := hrel
        have HO := Lib.hid ho
        have HCL := Lib.hid hcl
        have HB := Lib.hid hb
        obtain ⟨oa, oc, rfl⟩ := own_slice ho
        clear ho hcl hb
        by_cases hkl : k < a.sorts.length
        · have e := HC3.out (by intro e; rw [e] at hkl; simp at hkl)
          subst e
          obtain ⟨hlb, xa, xc, hcell, hxs⟩ := (HSS4.out.later HB.out) k hkl
          have hx20 := (sErr_zero (HSR.out k hkl)).1
          rw [sortOf_eq hkl] at hx20
          have HSTEP := Lib.hid (show ∀ (W : World) (v : Value) (B : Nat), vals.length = k → Cloned W a.sorts k vals → W.ownsRow B 9 1 v a.sorts[k].length (a.sorts[k].map Value.string) → Cloned W a.sorts (k + 1) (vals ++ [v]) from fun W v B hvl hc hv j hj hjk => by
            by_cases e : j = k
            · subst e
              exact ⟨v, B, by rw [List.getElem?_append_right (by omega), hvl]; simp, hv⟩
            · obtain ⟨u, B', h1, h2⟩ := hc j hj (by omega)
              exact ⟨u, B', by rw [List.getElem?_append_left (by omega)]; exact h1, h2⟩)
          obtain ⟨x, hxe⟩ : ∃ x, a.sorts[k] = x := ⟨_, rfl⟩
          rw [hxe] at hcell hxs hx20
          simp only [hxe] at HSTEP
          obtain ⟨xb, xo, hxa, hxst, hxl⟩ := hxs
          have HCLONE := Lib.hid (clone_any xb xo xc xa x wr hxa hxst (by omega))
          have hvl : vals.length = k := by have := HO.out.1; omega
          clear hxe hxa hxst hlb
          go_wp2_with fail
          refine HCLONE.out.mono ?_
          rintro e w6 ⟨v6, rfl, ho6, hb6⟩
          obtain ⟨a6, c6, rfl⟩ := own_slice ho6
          have HB6 := Lib.hid (HB.out.trans (hb6.mono HB.out.size))
          have HO6 := Lib.hid (own_later HO.out hb6)
          have HCL6 := Lib.hid (HCL.out.keep (KeepT.below 0 hb6) (by decide))
          have HE6 := Lib.hid ho6
          clear ho6 hb6
          go_wp2_with (at_builtin; refine wpList_append_own _ rfl _ _ 44 rfl w4.heap.size 27 i27 (.slice none 0 0) 1 24 Try.underlying44 hi27 hx0 hx1 hxb rfl (by decide) _ _ _ rfl (HO6.out.alloc _) ⟨w6.heap.size, 0, none⟩ 1 1 [.slice a6 x.length c6] rfl rfl (cell_one_new _ _ _) (by simp [Value.oneCell']) (by unfold maxLen; omega) (by omega) (by have := HB6.out.size; simp; omega) ?_; intro v7 w7 hown7 hgrow7 _)
          have hba : Below w6.heap.size w6 (w6.alloc (.cells #[.slice a6 x.length c6] 27)) := (Below.refl _ _).alloc (Nat.le_refl _) _
          have hb7 : Below w4.heap.size w6 w7 := ((Below.refl w4.heap.size w6).alloc HB6.out.size _).grown hgrow7 (by have := HB6.out.size; simp; omega) (fun q e => (HO6.out.lt q e).1)
          have hkt := KeepT.grown (HO6.out.alloc (.cells #[.slice a6 x.length c6] 27)) hgrow7
          refine ⟨⟨k + 1, _, by simp only [Int.natCast_add, Int.natCast_one], by omega, hown7, HSTEP.out w7 _ wr.heap.size hvl ((HCL6.out.keep (KeepT.below 0 hba) (by decide)).keep hkt (by decide)) (hkt.own (by decide) ((KeepT.below 0 hba).own (by decide) HE6.out)), HB6.out.trans hb7⟩, ?_⟩
          show a.sorts.length - ((k : Int) + 1).toNat < a.sorts.length - ((k : Nat) : Int).toNat
          omega
        · have hke : k = a.sorts.length := by omega
          subst hke
          have hsz : ∀ x, x ∈ a.sorts → (∀ z, z ∈ x → z.size ≤ maxLen) ∧ x.length ≤ 9223372036854775807 := fun x hx => by
            obtain ⟨q, hq, rfl⟩ := List.getElem_of_mem hx
            obtain ⟨_, _, _, _, hs⟩ := HSS4.out q hq
            exact ⟨hs.size, hs.choose_spec.choose_spec.2.2⟩
          have HSV := Lib.hid (cloned_sorts HO.out HCL.out (fun x hx => (hsz x hx).1) (fun x hx => (hsz x hx).2))
          obtain ⟨d, hd⟩ := sliceR_own HO.out
          have HD := Lib.hid hd
          have HX5 := Lib.hid (HX4.out.later HB.out)
          have HPL5 := Lib.hid (HPL4.out.below HB.out)
          have hbx5 := (HB.out.block ga (Nat.lt_of_lt_of_le HGL.out HX4.out.size)).trans HBX4.out
          have hn5 := (HB.out.block gc HGC4.out).trans HN4.out
          have hmsl : ms < wr.heap.size := HPL5.out.map.lt
          have hmsg : ga ≠ ms := by have := HGL.out; have := HMS.out; omega
          have hmsc : gc ≠ ms := by
            obtain ⟨es, ck, hm, _⟩ := HPL5.out.map
            intro e
            rw [e, hm] at hn5
            cases hn5
          obtain ⟨w8, hmu, hmap8, hg8⟩ := World.ownsMap.update (w := wr.drew) HPL5.out.map Try.keyed128 Try.underlying68 (by unfold maxLen; omega) (place_key (p := (a.typ, a.cls)) HC5.out HC6.out) hd
          have hbx8 := (hg8.block ga (Nat.lt_of_lt_of_le HGL.out HX5.out.size) (by simp; omega)).trans hbx5
          have hn8 := (hg8.block gc (Nat.lt_of_lt_of_le HGC4.out HB.out.size) (by simp; omega)).trans hn5
          have HX8 := Lib.hid ((HX5.out.trans (ButX.below (Below.refl _ wr).drew)).grown hg8 (Nat.le_of_eq HMS.out))
          have HPUT := Lib.hid ((HPL5.out.below (Below.refl _ wr).drew).put (a := a) HC5.out HC6.out (fun b hb => HSZ.out b (List.mem_of_mem_take hb)) HNP.out hd (HSV.out.cells (KeepsCells.below (Below.refl _ wr).drew)) hg8 hmap8)
          have k6 : wr.drew.cell? ⟨ga, 6, none⟩ = some (.map (some ms)) := (box7 hbx5).2.2.2.2.2.2.1
          have f0 : wr.drew.cell? ⟨gc, 0, none⟩ = some (.string a.typ) := (cells3 hn5).1
          have f1 : wr.drew.cell? ⟨gc, 1, none⟩ = some (.string a.cls) := (cells3 hn5).2.1
          have m6 : w8.cell? ⟨ga, 6, none⟩ = some (.map (some ms)) := (box7 hbx8).2.2.2.2.2.2.1
          have e0 : w8.cell? ⟨gc, 0, none⟩ = some (.string a.typ) := (cells3 hn8).1
          have e1 : w8.cell? ⟨gc, 1, none⟩ = some (.string a.cls) := (cells3 hn8).2.1
          have HBX8 := Lib.hid hbx8
          rw [HTK.out] at HPUT
          clear hd hmap8 hg8 hbx8 hn8 hbx5 hn5 hmsl hmsg hmsc hsz j0 j1 j2
          go_wp2_with fail
          go_region_held3 (fun W => W.cell? ⟨ga, 6, none⟩ = some (.map (some ms)) ∧ W.cell? ⟨gc, 0, none⟩ = some (.string a.typ) ∧ W.cell? ⟨gc, 1, none⟩ = some (.string a.cls))
            (refine ⟨?_, ?_, ?_⟩ <;> assumption)
            (fail)
          go_wp2_with fail
          refine ⟨⟨i + 1, _, by simp only [Int.natCast_add, Int.natCast_one], by omega, fun j hj => ?_, HBX8.out, HPUT.out, HX8.out⟩, ?_⟩
          · by_cases e : j = i
            · subst e
              rw [HAE.out]; exact HEE.out
            · exact HP.out j (by omega)
          · show l.length - ((i : Int) + 1).toNat < l.length - ((i : Nat) : Int).toNat
            omega
    · have HE := Lib.hid (arisErr_none (cs := cs) (ts := ts) H300.out fun j hj => HP.out j (by omega))
      have hpl := HPL.out
      rw [List.take_of_length_le (by omega)] at hpl
      have HPE := Lib.hid hpl
      clear hpl
      go_wp2_with fail
      go_ret
      exact ⟨HXR.out, .inr ⟨HE.out, rfl, ms, i, Dp, HBX.out, HPE.out, Nat.le_of_eq HMS.out⟩⟩
end Go.Proofs.Ytlaibimdkamcfaa
end

section
/-
  A region that draws its order, in the body of a range over a function: any class of worlds that its operations keep.
-/
namespace Go.Proofs.Ytlaibimdkamcfaa
open Go.RowKit

/-- No operation is a defer statement. -/
def noDefer (ops : List Oper) : Bool := ops.all fun o => match o.op with | .defer _ => false | _ => true
theorem noDefer_spec {l : List Oper} (h : noDefer l = true) {i : Nat} {o : Oper} (ho : l.toArray[i]? = some o) (c : _) : o.op ≠ .defer c := by
  intro e
  have hm : o ∈ l := by
    rw [List.getElem?_toArray] at ho
    exact List.mem_of_getElem? ho
  have := List.all_eq_true.1 h o hm
  rw [e] at this
  cases this

section
variable {F : Fence} {n : Nat} {P : Program} {ops : Array Oper} {Q : Exit → Act → World → Prop} {md : Region.Mode}

theorem wpIn_op_round (l : Nat) (hro : F.round = none) {o : Oper} (hd : ∀ c, o.op ≠ .defer c) {a : Act} {w : World} {K : Act → World → Prop} (h : o.wpIn F n P a w K Q) : o.wpIn (F.inRound l) n P a w K Q := by
  unfold Oper.wpIn at *
  rw [hro, Oper.semAt_none] at h
  refine ⟨h.1, ?_⟩
  have e : Oper.semAt (F.inRound l).round a.eval o = execOp a.eval o := Oper.semAt_some l _ o hd
  rw [e]
  have h2 := h.2
  generalize (execOp a.eval o).run P w = r at *
  cases r with
  | ok x w' => cases x <;> exact h2
  | halt x w' => cases x <;> exact h2

theorem wpOpIn_round (l : Nat) (hro : F.round = none) {i : Nat} (hd : ∀ o, ops[i]? = some o → ∀ c, o.op ≠ .defer c) {a : Act} {w : World} {K : Act → World → Prop} (h : wpOpIn F n P ops Q i K a w) : wpOpIn (F.inRound l) n P ops Q i K a w := by
  unfold wpOpIn at *
  split
  · rename_i ho; simp only [ho] at h; exact h
  · rename_i o ho
    simp only [ho] at h
    split
    · rename_i hw; simp only [hw, if_true] at h; exact wpIn_op_round l hro (hd o ho) h
    · rename_i hw; simp only [hw] at h; exact h

theorem wpAnyIn_round (l : Nat) (hro : F.round = none) (hd : ∀ (i : Nat) (o : Oper), ops[i]? = some o → ∀ c, o.op ≠ .defer c) : ∀ (fuel : Nat) (listed : Array Bool) (a : Act) (w : World), wpAnyIn F n P md ops Q fuel listed a w → wpAnyIn (F.inRound l) n P md ops Q fuel listed a w
  | 0, _, _, _, h => h
  | fuel + 1, _, _, _, h => ⟨h.1, fun i hi => wpOpIn_round l hro (hd i) (wpOpIn_mono (fun a' w' h' => wpAnyIn_round l hro hd fuel _ a' w' h') (h.2 i hi))⟩

theorem wpIn_region_quiet_round (l : Nat) {id : Nat} {a : Act} {w : World} {L : List Oper} (C : World → Prop) (hC : C w.drew) (hro : F.round = none) (hm : P.follows .mixedOrders = true) (hB : Region.lexB .any L.toArray = true) (hd : noDefer L = true)
    (h : wpQuietIn F n P L.toArray C (fun a' => ∀ w', C w' → Q .normal a' w') L a) : (Code.region id L.toArray true).wpIn (F.inRound l) n P Q a w := by
  have hB' := hB
  simp only [Region.lexB, Bool.and_eq_true] at hB
  refine wpIn_region_any hm (wpAnyIn_round l hro (fun i o ho => noDefer_spec hd ho) _ _ _ _ (wpAnyIn_of_quiet (C := C) (Q := fun a' => ∀ w', C w' → Q .normal a' w') hro (fun _ w' hw' h => h w' hw') _ _ _ _ hC ?_))
  have := wpAnyQIn_lex (F := F) (n := n) (C := C) (md := .any) hB.1 L 0 (Array.replicate L.toArray.size false) a (by simp) (by simpa using hB.2) h
  simpa using this
end
end Go.Proofs.Ytlaibimdkamcfaa
end

