import Derived.Test.YtlaibimdkamcfaaH2
/-
  slices.Clone of type constructors.
-/
namespace Go.Proofs.Ytlaibimdkamcfaa
open Go.RowKit Go.Maps

theorem Try.info87 : (Try.prog.info? 87).map (fun i => (i.zero, i.size, i.bytes)) = some (some (.agg #[.string ByteArray.empty, .int .i64 0]), 2, 24) := by kernel_rfl

/-- Type constructors, cell by cell. -/
def tdCells (ts : List TD) : List Value := ts.flatMap fun d => [.string d.name, .int .i64 d.arity]

theorem tdCells_length (ts : List TD) : (tdCells ts).length = ts.length * 2 := by
  induction ts with
  | nil => rfl
  | cons d ts ih => simp only [tdCells, List.flatMap_cons, List.length_append, List.length_cons, List.length_nil] at ih ⊢; omega

theorem tdCells_get : ∀ (ts : List TD) (i : Nat) (h : i < ts.length), (tdCells ts)[i * 2]? = some (.string ts[i].name) ∧ (tdCells ts)[i * 2 + 1]? = some (.int .i64 ts[i].arity)
  | [], i, h => by simp at h
  | d :: ts, 0, _ => by simp [tdCells]
  | d :: ts, i + 1, h => by
    have := tdCells_get ts i (by simpa using h)
    have e : tdCells (d :: ts) = .string d.name :: .int .i64 d.arity :: tdCells ts := by simp [tdCells]
    rw [e, show (i + 1) * 2 = i * 2 + 1 + 1 by omega]
    simp only [List.getElem?_cons_succ, List.getElem_cons_succ]
    exact this

set_option maxRecDepth 100000 in
set_option maxHeartbeats 2000000 in
theorem cloneTypes_any {ta : Option Addr} {tc tb to : Nat} {ts : List TD} (w : World) (hta : ts ≠ [] → ta = some ⟨tb, to, none⟩) (hts : TypesAt w tb to ts) (hl : ts.length ≤ 300) :
    Calls Try.prog 81 #[.slice ta ts.length tc] w fun e w' => ∃ v, e = .returned v ∧ w'.ownsRow w.heap.size 87 2 v ts.length (tdCells ts) ∧ Below w.heap.size w w' := by
  cases ta with
  | none =>
    have hn : ts = [] := Classical.byContradiction fun hn => by have := hta hn; cases this
    subst hn
    have q23 : ∀ (w : World) (a : Option Addr) (n c n' c' : Nat), (binOp .eql 23 (.slice a n c) (.slice none n' c')).run Try.prog w = .ok (.bool a.isNone) w := fun w a n c n' c' => Lib.run_eql_slice_nil w _ _ a n c n' c' Try.underlying23
    go_enter Try.func81, Try.ntmps81
    go_wp2_with fail
    go_ret
    exact ⟨_, rfl, World.ownsRow_nil _ _ _ _, Below.refl _ _⟩
  | some a =>
    obtain ⟨i87, hi, hx0, hx1, hxb⟩ := info_parts Try.info87
    have ho : (w.alloc (.cells #[] 87)).ownsRow w.heap.size 87 2 (.slice (some ⟨w.heap.size, 0, none⟩) 0 0) 0 [] := World.ownsRow_made w #[] 0 (Nat.le_refl _) (Nat.zero_le _) rfl
    have hb : Below w.heap.size w (w.alloc (.cells #[] 87)) := (Below.refl _ w).alloc (Nat.le_refl _) _
    have ht := hts.later hb
    obtain ⟨v', w', hr, k1, k2, _⟩ := run_append_own (P := Try.prog) (w.alloc (.cells #[] 87)) w.heap.size 23 23 87 i87 (.agg #[.string ByteArray.empty, .int .i64 0]) 2 24 Try.underlying23 hi hx0 hx1 hxb rfl (by decide) _ 0 [] ho a ts.length tc (tdCells ts) (tdCells_length ts)
      (fun j u hu => by
        have hj : j < ts.length * 2 := by
          rcases Nat.lt_or_ge j (ts.length * 2) with hj | hj
          · exact hj
          · rw [List.getElem?_eq_none (by rw [tdCells_length]; exact hj)] at hu; cases hu
        have hjl : j / 2 < ts.length := by omega
        have e := hta (by intro e; subst e; simp at hj)
        cases e
        obtain ⟨_, h1, h2, _⟩ := ht (j / 2) hjl
        obtain ⟨g1, g2⟩ := tdCells_get ts (j / 2) hjl
        rw [Go.WideShapes.add_plain]
        rcases Nat.mod_two_eq_zero_or_one j with hm | hm
        · have ej : j / 2 * 2 = j := by omega
          rw [ej] at h1 g1
          rw [h1, ← g1, hu]
        · have ej : j / 2 * 2 + 1 = j := by omega
          rw [Nat.add_assoc, ej] at h2
          rw [ej] at g2
          rw [h2, ← g2, hu])
      (fun u hu => by
        obtain ⟨d, _, hd⟩ := List.mem_flatMap.1 hu
        rcases List.mem_cons.1 hd with rfl | hd
        · rfl
        · rw [List.mem_singleton.1 hd]; rfl)
      (by unfold maxLen; omega) (by omega) hb.size
    have hb' : Below w.heap.size w w' := hb.grown k2 hb.size (fun k e => (ho.lt k e).1)
    simp only [Nat.zero_add, List.nil_append] at k1
    have HR := Lib.hid hr
    have HK := Lib.hid k1
    have HB := Lib.hid hb'
    clear hr k1 k2 hb' ho hb ht hta hts
    have q23 : ∀ (w : World) (a : Option Addr) (n c n' c' : Nat), (binOp .eql 23 (.slice a n c) (.slice none n' c')).run Try.prog w = .ok (.bool a.isNone) w := fun w a n c n' c' => Lib.run_eql_slice_nil w _ _ a n c n' c' Try.underlying23
    go_enter Try.func81, Try.ntmps81
    go_wp2_with (at_builtin; refine Lib.wpList_append_run _ rfl _ _ _ _ rfl _ _ rfl rfl _ _ HR.out ?_)
    go_ret
    exact ⟨_, rfl, HK.out, HB.out⟩
end Go.Proofs.Ytlaibimdkamcfaa

/-
  Algebra.addTypes: type constructors and their numbers of arguments.
-/
namespace Go.Proofs.Ytlaibimdkamcfaa
open Go.RowKit Go.Maps

/-- All that was there lies as it lay, but for one block. -/
structure ButX (x : Nat) (w w' : World) : Prop where
  os : w'.os = w.os
  tape : w'.tape = w.tape
  output : w'.output = w.output
  size : w.heap.size ≤ w'.heap.size
  block : ∀ k, k < w.heap.size → k ≠ x → w'.heap[k]? = w.heap[k]?

theorem ButX.below {x : Nat} {w w' : World} (h : Below w.heap.size w w') : ButX x w w' := ⟨h.os, h.tape, h.output, h.size, fun k hk _ => h.block k hk⟩
theorem ButX.trans {x : Nat} {a b c : World} (h : ButX x a b) (k : ButX x b c) : ButX x a c :=
  ⟨k.os.trans h.os, k.tape.trans h.tape, k.output.trans h.output, Nat.le_trans h.size k.size, fun i hi hx => (k.block i (Nat.lt_of_lt_of_le hi h.size) hx).trans (h.block i hi hx)⟩
theorem ButX.later {x : Nat} {a b c : World} (h : ButX x a b) (k : Below b.heap.size b c) : ButX x a c := h.trans (ButX.below k)
theorem ButX.drewN {x : Nat} {a b : World} (h : ButX x a b) (n : Nat) : ButX x a (b.drewN n) := ⟨h.os, h.tape, h.output, h.size, h.block⟩
theorem ButX.store {x : Nat} (a : World) (o : Nat) (v : Value) : ButX x a (a.setCell ⟨x, o, none⟩ v) :=
  ⟨rfl, rfl, rfl, by simp, fun k _ hx => Below.heap_setCell a ⟨x, o, none⟩ v k hx⟩
theorem ButX.cell {x : Nat} {a b : World} (h : ButX x a b) {p : Addr} (hp : p.block < a.heap.size) (hx : p.block ≠ x) : b.cell? p = a.cell? p := by
  unfold World.cell?
  rw [h.block _ hp hx]
/-- A block that was made since may change as well. -/
theorem ButX.grown {x m : Nat} {a b c : World} (h : ButX x a b) (hg : b.grownBy c (some m)) (hm : a.heap.size ≤ m) : ButX x a c :=
  ⟨hg.os.trans h.os, hg.tape.trans h.tape, hg.output.trans h.output, Nat.le_trans h.size hg.size, fun k hk hx => (hg.block k (Nat.lt_of_lt_of_le hk h.size) (by simp; omega)).trans (h.block k hk hx)⟩

theorem TypesAt.butX {x : Nat} {W W' : World} {b o : Nat} {ts : List TD} (h : TypesAt W b o ts) (hb : ButX x W W') (hne : b ≠ x) : TypesAt W' b o ts := by
  intro i hi
  obtain ⟨hlt, h1, h2, h3, h4⟩ := h i hi
  exact ⟨Nat.lt_of_lt_of_le hlt hb.size, (hb.cell (p := ⟨b, _, none⟩) hlt hne).trans h1, (hb.cell (p := ⟨b, _, none⟩) hlt hne).trans h2, h3, h4⟩

/-- The map of how many arguments each of the first type constructors takes. -/
structure TakesAt (ts : List TD) (i mt n : Nat) (D : DataW Unit) (W : World) : Prop where
  map : W.ownsMap Try.prog 9 (plainElem (H := Unit) Try.prog 3) mt n D
  has : ∀ s : ByteArray, Maps.has D (.string s.data.toList) = true ↔ s ∈ tnames (ts.take i)
  at_ : ∀ s : ByteArray, s ∈ tnames (ts.take i) → D.atKey (.string s.data.toList) (.lit (.int .i64 0)) = .lit (.int .i64 (tdAt ts (tIdx ts s)).arity)
  isMap : Maps.IsMap D

theorem TakesAt.keep {ts : List TD} {i mt n : Nat} {D : DataW Unit} {W W' : World} (h : TakesAt ts i mt n D W) (hb : W'.heap[mt]? = W.heap[mt]?) : TakesAt ts i mt n D W' := by
  obtain ⟨es, clock, h1, h2⟩ := h.map
  exact ⟨⟨es, clock, hb.trans h1, h2⟩, h.has, h.at_, h.isMap⟩

theorem TakesAt.below {ts : List TD} {i mt n : Nat} {D : DataW Unit} {W W' : World} (h : TakesAt ts i mt n D W) (hb : Below W.heap.size W W') : TakesAt ts i mt n D W' := h.keep (hb.block mt h.map.lt)

theorem tnames_succ {ts : List TD} {k : Nat} (hk : k < ts.length) : tnames (ts.take (k + 1)) = tnames (ts.take k) ++ [ts[k].name] := by
  rw [← List.take_append_getElem hk]; unfold tnames; rw [List.map_append]; rfl

theorem tIdx_self {ts : List TD} {i : Nat} (hi : i < ts.length) (h : ts[i].name ∉ tnames (ts.take i)) : tIdx ts ts[i].name = i := by
  have h2 := (refT_self hi).2 h
  rw [refT_pos (List.mem_map.2 ⟨_, List.getElem_mem hi, rfl⟩)] at h2
  omega

theorem TakesAt.put {ts : List TD} {i mt n : Nat} {D : DataW Unit} {W W' : World} (h : TakesAt ts i mt n D W) (hi : i < ts.length) (hn : ts[i].name ∉ tnames (ts.take i))
    (hmap : W'.ownsMap Try.prog 9 (plainElem (H := Unit) Try.prog 3) mt (n + 1) (D.put (.string ts[i].name.data.toList) (.lit (.int .i64 ts[i].arity)))) :
    TakesAt ts (i + 1) mt (n + 1) (D.put (.string ts[i].name.data.toList) (.lit (.int .i64 ts[i].arity))) W' := by
  refine ⟨hmap, fun s => ?_, fun s hs => ?_, h.isMap.put _ _⟩
  · rw [tnames_succ hi]
    by_cases e : s = ts[i].name
    · rw [e, Maps.has_put_same h.isMap (by exact trivial)]
      simp
    · rw [Maps.has_put_other (by intro e'; simp only [Lit.string.injEq] at e'; exact e (data_inj e')), h.has s]
      simp [e]
  · rw [tnames_succ hi] at hs
    by_cases e : s = ts[i].name
    · rw [e, Maps.atKey_put_same h.isMap (by exact trivial), tIdx_self hi hn, tdAt_eq hi]
    · rw [Maps.atKey_put_other (by intro e'; simp only [Lit.string.injEq] at e'; exact e (data_inj e'))]
      refine h.at_ s ?_
      rcases List.mem_append.1 hs with h1 | h1
      · exact h1
      · exact absurd (List.mem_singleton.1 h1) e

theorem box7 {W : World} {g : Nat} {a0 a1 a2 a3 a4 a5 a6 : Value} (h : W.heap[g]? = some (.cells #[a0, a1, a2, a3, a4, a5, a6] 70 (0, 0))) :
    W.cell? ⟨g, 0, none⟩ = some a0 ∧ W.cell? ⟨g, 1, none⟩ = some a1 ∧ W.cell? ⟨g, 2, none⟩ = some a2 ∧ W.cell? ⟨g, 3, none⟩ = some a3 ∧ W.cell? ⟨g, 4, none⟩ = some a4 ∧ W.cell? ⟨g, 5, none⟩ = some a5 ∧ W.cell? ⟨g, 6, none⟩ = some a6 ∧ ∀ q, W.frozen? ⟨g, q, none⟩ = false := box_cells h

set_option maxRecDepth 100000 in
set_option maxHeartbeats 8000000 in
theorem addTypes_any {ga mb : Nat} {vn vu va : Value} {ta : Option Addr} {tc tb to : Nat} {ts : List TD} (w : World) (hbox : w.heap[ga]? = some (.cells #[vn, .map (some mb), vu, va, .slice none 0 0, .map none, .map none] 70 (0, 0)))
    (hta : ts ≠ [] → ta = some ⟨tb, to, none⟩) (hts : TypesAt w tb to ts) (htl : ts.length ≤ 9223372036854775807) (hne : tb ≠ ga) :
    Calls Try.prog 62 #[.pointer (some ⟨ga, 0, none⟩), .slice ta ts.length tc] w fun e w' => ButX ga w w' ∧
      ((typesErr ts ≠ 0 ∧ e = .returned (.int .i64 (typesErr ts))) ∨
       (typesErr ts = 0 ∧ e = .returned (.int .i64 0) ∧ ∃ (v4 : Value) (mt n : Nat) (D : DataW Unit), w'.ownsRow w.heap.size 87 2 v4 ts.length (tdCells ts) ∧ w'.heap[ga]? = some (.cells #[vn, .map (some mb), vu, va, v4, .map (some mt), .map none] 70 (0, 0)) ∧ TakesAt ts ts.length mt n D w' ∧ w.heap.size ≤ mt)) := by
  have HBOX := Lib.hid hbox
  have HTS := Lib.hid hts
  have HTA := Lib.hid hta
  have HGL := Lib.hid (Array.getElem?_eq_some_iff.1 hbox).1
  obtain ⟨g0, g1, g2, g3, g4, g5, g6, gf⟩ := box7 hbox
  have f5 := gf 5
  clear hbox hts hta gf
  by_cases h300 : 300 < ts.length
  · have HE := Lib.hid (typesErr_many h300)
    go_enter Try.func62, Try.ntmps62
    go_wp2_with fail
    go_ret
    refine ⟨ButX.below (Below.refl _ _), .inl ⟨by rw [HE.out]; decide, by rw [HE.out]; rfl⟩⟩
  have H300 := Lib.hid h300
  have hmk := run_makeMap_hint
  have hboxa : (w.alloc (.map #[] 0)).heap[ga]? = some (.cells #[vn, .map (some mb), vu, va, .slice none 0 0, .map none, .map none] 70 (0, 0)) := by rw [Below.heap_alloc _ _ _ HGL.out]; exact HBOX.out
  obtain ⟨_, _, _, _, _, ga5, _, gaf⟩ := box7 hboxa
  have gaf5 := gaf 5
  have HBOXA := Lib.hid hboxa
  clear gaf hboxa
  go_enter Try.func62, Try.ntmps62
  go_wp2_with fail
  have hbox2 : ((w.alloc (.map #[] 0)).setCell ⟨ga, 5, none⟩ (.map (some w.heap.size))).heap[ga]? = some (.cells #[vn, .map (some mb), vu, va, .slice none 0 0, .map (some w.heap.size), .map none] 70 (0, 0)) := Go.heap_setCell_same _ _ 5 _ 70 _ HBOXA.out
  have hx2 : ButX ga w ((w.alloc (.map #[] 0)).setCell ⟨ga, 5, none⟩ (.map (some w.heap.size))) := (ButX.below ((Below.refl _ w).alloc (Nat.le_refl _) _)).trans (ButX.store _ _ _)
  have hm2 : TakesAt ts 0 w.heap.size 0 (.map []) ((w.alloc (.map #[] 0)).setCell ⟨ga, 5, none⟩ (.map (some w.heap.size))) := by
    refine ⟨World.ownsMap.setCell (World.ownsMap_made w Try.prog 9 _) (by show w.heap.size ≠ ga; have := HGL.out; omega) _, fun s => ?_, fun s hs => ?_, ?_⟩
    · simp [Maps.has, tnames]
    · simp [tnames] at hs
    · exact Maps.isMap_empty
  generalize ((w.alloc (.map #[] 0)).setCell ⟨ga, 5, none⟩ (.map (some w.heap.size))) = w2 at *
  have HTS2 := Lib.hid (HTS.out.butX hx2 hne)
  have HBOX2 := Lib.hid hbox2
  have HX2 := Lib.hid hx2
  have HM2 := Lib.hid hm2
  clear hbox2 hx2 hm2 g0 g1 g2 g3 g4 g5 g6 f5 ga5 gaf5 hmk
  obtain ⟨mt, hmt⟩ : ∃ q, w.heap.size = q := ⟨_, rfl⟩
  rw [hmt] at HBOX2 HM2
  have HMT := Lib.hid hmt
  clear hmt
  go_loopw [20] (fun t wr => ∃ (i : Nat) (D : DataW Unit), t = .int .i64 i ∧ i ≤ ts.length ∧ (∀ j, j < i → tdErr (tnames (ts.take j)) (tdAt ts j) = 0) ∧ wr.heap[ga]? = some (.cells #[vn, .map (some mb), vu, va, .slice none 0 0, .map (some mt), .map none] 70 (0, 0)) ∧ TakesAt ts i mt i D wr ∧ ButX ga w wr) (fun t _ => ts.length - (intOf t).toNat)
  case atStart => exact ⟨0, _, rfl, Nat.zero_le _, fun j hj => by omega, HBOX2.out, HM2.out, HX2.out⟩
  case round =>
    obtain ⟨i, D, rfl, hi, hp, hbox, htk, hx⟩ := hrel
    have HP := Lib.hid hp
    have HBX := Lib.hid hbox
    have HTK := Lib.hid htk
    have HXR := Lib.hid hx
    clear hp hbox htk hx
    by_cases hlt : i < ts.length
    · have e := HTA.out (by intro e; subst e; simp at hlt)
      subst e
      obtain ⟨hlb, c0, c1, c2, c3, c4⟩ := (HTS.out.butX HXR.out hne) i hlt
      have HAT := Lib.hid (fun E he h0 => typesErr_at H300.out hlt HP.out (E := E) he h0)
      have HCE := Lib.hid (tdAt_eq hlt)
      have HPUT := Lib.hid (fun W' hn hm => HTK.out.put (W' := W') hlt hn hm)
      have HHAS := Lib.hid (HTK.out.has ts[i].name)
      obtain ⟨d, hd⟩ : ∃ d, ts[i] = d := ⟨_, rfl⟩
      rw [hd] at c0 c1 c2 c3 c4 HAT HCE HPUT HHAS
      clear hd
      obtain ⟨nam, hnam⟩ : ∃ q, d.name = q := ⟨_, rfl⟩
      obtain ⟨ar, har⟩ : ∃ q, d.arity = q := ⟨_, rfl⟩
      have HNA := Lib.hid hnam
      have HAR := Lib.hid har
      rw [hnam] at c0 c2 HPUT HHAS
      rw [har] at c1 c3 c4 HPUT
      have HC2 := Lib.hid c2
      clear hnam har
      have b3 : Below wr.heap.size wr (wr.alloc (.cells #[.string nam, .int .i64 ar] 87)) := (Below.refl _ wr).alloc (Nat.le_refl _) _
      have n3 := heap_alloc_new wr (.cells #[.string nam, .int .i64 ar] 87)
      have HTK3 := Lib.hid (HTK.out.below b3)
      have HBX3 := Lib.hid ((b3.block ga (Nat.lt_of_lt_of_le HGL.out HXR.out.size)).trans HBX.out)
      have HX3 := Lib.hid (HXR.out.later b3)
      have HN3 := Lib.hid n3
      have HNW := Lib.hid (name_any nam (wr.alloc (.cells #[.string nam, .int .i64 ar] 87)) (size_nat c2))
      have e0 : (wr.alloc (.cells #[.string nam, .int .i64 ar] 87)).cell? ⟨wr.heap.size, 0, none⟩ = some (.string nam) := by rw [Lib.cell_of_heap n3]; rfl
      have e1 : (wr.alloc (.cells #[.string nam, .int .i64 ar] 87)).cell? ⟨wr.heap.size, 1, none⟩ = some (.int .i64 ar) := by rw [Lib.cell_of_heap n3]; rfl
      have HLW := Lib.hid (show wr.heap.size < (wr.alloc (.cells #[.string nam, .int .i64 ar] 87)).heap.size by simp)
      clear b3 n3 c2 hlb
      go_wp2_with fail
      generalize (wr.alloc (.cells #[.string nam, .int .i64 ar] 87)) = w3 at *
      obtain ⟨gc, hgc⟩ : ∃ q, wr.heap.size = q := ⟨_, rfl⟩
      rw [hgc] at e0 e1 HN3 HLW ⊢
      clear hgc c0 c1
      refine HNW.out.mono ?_
      rintro e w' ⟨rfl, rfl⟩
      cases hnb : nameB nam with
      | false =>
        have HE := Lib.hid (HAT.out 30 (tdErr_name (by rw [HNA.out]; exact hnb)) (by decide))
        clear hnb
        go_wp2_with fail
        go_ret
        refine ⟨HX3.out, .inl ⟨by rw [HE.out]; decide, by rw [HE.out]; rfl⟩⟩
      | true =>
        have HNB := Lib.hid (show nameB d.name = true by rw [HNA.out]; exact hnb)
        clear hnb
        obtain ⟨k0, k1, k2, k3, k4, k5, k6, _⟩ := box7 HBX3.out
        have hlk : ∃ c, ∀ n, (Instr.lookup 65 (.map (some mt)) (.string nam) true).run Try.prog (w3.drewN n) = .ok (.tuple #[.int .i64 c, .bool (Maps.has D (.string nam.data.toList))]) (w3.drewN n) := by
          have key : ∀ n, ∃ c, (Instr.lookup 65 (.map (some mt)) (.string nam) true).run Try.prog (w3.drewN n) = .ok (.tuple #[.int .i64 c, .bool (Maps.has D (.string nam.data.toList))]) (w3.drewN n) ∧ D.atKey (.string nam.data.toList) (.lit (.int .i64 0)) = .lit (.int .i64 c) := fun n => by
            obtain ⟨v, ps, h1, h2⟩ := World.ownsMap.look_ok (w := w3.drewN n) HTK3.out.map (string_keyed Try.underlying9) Try.underlying65 (zero3 _) (plainElem_int Try.underlying3 (by decide)) (Go.WideMaps.keyOf_string_mk Try.underlying9 HC2.out)
            obtain ⟨c, rfl, h3, _⟩ := plainElem_int_inv Try.underlying3 h2
            exact ⟨c, h1, (Prod.mk.inj h3).1⟩
          obtain ⟨c, _, hc⟩ := key 0
          refine ⟨c, fun n => ?_⟩
          obtain ⟨c', h1, hc'⟩ := key n
          rw [hc] at hc'
          cases hc'
          exact h1
        obtain ⟨c, hlk⟩ := hlk
        obtain ⟨H, hH⟩ : ∃ H, Maps.has D (.string nam.data.toList) = H := ⟨_, rfl⟩
        rw [hH] at hlk HHAS
        clear hH
        go_wp2_with fail
        go_quiet (fail)
        obtain ⟨w4, hw4⟩ : ∃ q, w3.drewN nq = q := ⟨_, rfl⟩
        have HTK4 : Hid (TakesAt ts i mt i D w4) := Lib.hid (by rw [← hw4]; exact HTK3.out.keep rfl)
        have HBX4 : Hid (w4.heap[ga]? = some (.cells #[vn, .map (some mb), vu, va, .slice none 0 0, .map (some mt), .map none] 70 (0, 0))) := Lib.hid (by rw [← hw4]; exact HBX3.out)
        have HX4 : Hid (ButX ga w w4) := Lib.hid (by rw [← hw4]; exact HX3.out.drewN nq)
        have HN4 : Hid (w4.heap[gc]? = some (.cells #[.string nam, .int .i64 ar] 87 (0, 0))) := Lib.hid (by rw [← hw4]; exact HN3.out)
        rw [hw4]
        clear hw4 hlk k0 k1 k2 k3 k4 k5 k6 e0 e1
        cases H with
        | true =>
          have hin : d.name ∈ tnames (ts.take i) := by rw [HNA.out]; exact HHAS.out.1 rfl
          have HE := Lib.hid (HAT.out 10 (tdErr_dup HNB.out hin) (by decide))
          clear hin
          go_wp2_with fail
          go_ret
          refine ⟨HX4.out, .inl ⟨by rw [HE.out]; decide, by rw [HE.out]; rfl⟩⟩
        | false =>
          have HNP := Lib.hid (show d.name ∉ tnames (ts.take i) from fun hin => by have := HHAS.out.2 (by rw [← HNA.out]; exact hin); cases this)
          have e0 : w4.cell? ⟨gc, 0, none⟩ = some (.string nam) := by rw [Lib.cell_of_heap HN4.out]; rfl
          have e1 : w4.cell? ⟨gc, 1, none⟩ = some (.int .i64 ar) := by rw [Lib.cell_of_heap HN4.out]; rfl
          by_cases hr1 : ar < 0
          · have HE := Lib.hid (HAT.out 4 (tdErr_range HNB.out HNP.out (.inl (by rw [HAR.out]; exact hr1))) (by decide))
            go_wp2_with fail
            go_ret
            refine ⟨HX4.out, .inl ⟨by rw [HE.out]; decide, by rw [HE.out]; rfl⟩⟩
          · by_cases hr2 : 10 < ar
            · have HE := Lib.hid (HAT.out 4 (tdErr_range HNB.out HNP.out (.inr (by rw [HAR.out]; exact hr2))) (by decide))
              go_wp2_with fail
              go_ret
              refine ⟨HX4.out, .inl ⟨by rw [HE.out]; decide, by rw [HE.out]; rfl⟩⟩
            · have HZ := Lib.hid (tdErr_ok HNB.out HNP.out (by rw [HAR.out]; omega))
              have hwf : (Lit.int .i64 ar).wf = true := by unfold Lit.wf; rw [Bool.and_eq_true, decide_eq_true_eq, decide_eq_true_eq]; exact ⟨by show (-9223372036854775808 : Int) ≤ _; omega, by show _ ≤ (9223372036854775807 : Int); omega⟩
              obtain ⟨w5, hmu, hmap5, hg5⟩ := World.ownsMap.update (w := w4.drew) HTK4.out.map (string_keyed Try.underlying9) Try.underlying65 (by unfold maxLen; omega) (Go.WideMaps.keyOf_string_mk Try.underlying9 HC2.out) (plainElem_int Try.underlying3 hwf)
              have hmtl : mt < w4.heap.size := HTK4.out.map.lt
              have hgm : ga ≠ mt := by have := HGL.out; have := HMT.out; omega
              have hcm : gc ≠ mt := by
                obtain ⟨es, ck, hm, _⟩ := HTK4.out.map
                intro e
                have := HN4.out
                rw [e, hm] at this
                cases this
              have hgl4 : ga < w4.heap.size := Nat.lt_of_lt_of_le HGL.out HX4.out.size
              have hcl4 : gc < w4.heap.size := (Array.getElem?_eq_some_iff.1 HN4.out).1
              have hbx5 : w5.heap[ga]? = some (.cells #[vn, .map (some mb), vu, va, .slice none 0 0, .map (some mt), .map none] 70 (0, 0)) := (hg5.block ga hgl4 (by simp; omega)).trans HBX4.out
              have hn5 : w5.heap[gc]? = some (.cells #[.string nam, .int .i64 ar] 87 (0, 0)) := (hg5.block gc hcl4 (by simp; omega)).trans HN4.out
              have k5 : w4.drew.cell? ⟨ga, 5, none⟩ = some (.map (some mt)) := (box7 HBX4.out).2.2.2.2.2.1
              have i0 : w4.drew.cell? ⟨gc, 0, none⟩ = some (.string nam) := e0
              have i1 : w4.drew.cell? ⟨gc, 1, none⟩ = some (.int .i64 ar) := e1
              have j5 : w5.cell? ⟨ga, 5, none⟩ = some (.map (some mt)) := (box7 hbx5).2.2.2.2.2.1
              have j0 : w5.cell? ⟨gc, 0, none⟩ = some (.string nam) := by rw [Lib.cell_of_heap hn5]; rfl
              have j1 : w5.cell? ⟨gc, 1, none⟩ = some (.int .i64 ar) := by rw [Lib.cell_of_heap hn5]; rfl
              have HX5 := Lib.hid ((HX4.out.trans (ButX.below (Below.refl _ w4).drew)).grown hg5 (Nat.le_of_eq HMT.out))
              have HTK5 := Lib.hid (HPUT.out w5 (by rw [← HNA.out]; exact HNP.out) hmap5)
              have HBX5 := Lib.hid hbx5
              clear hmap5 hg5 hbx5 hn5 hmtl hgm hcm hgl4 hcl4 hwf
              go_wp2_with fail
              go_region_held3 (fun W => W.cell? ⟨ga, 5, none⟩ = some (.map (some mt)) ∧ W.cell? ⟨gc, 0, none⟩ = some (.string nam) ∧ W.cell? ⟨gc, 1, none⟩ = some (.int .i64 ar))
                (refine ⟨?_, ?_, ?_⟩ <;> assumption)
                (fail)
              go_wp2_with fail
              refine ⟨⟨i + 1, _, by simp only [Int.natCast_add, Int.natCast_one], by omega, fun j hj => ?_, HBX5.out, HTK5.out, HX5.out⟩, ?_⟩
              · by_cases e : j = i
                · subst e
                  rw [HCE.out]; exact HZ.out
                · exact HP.out j (by omega)
              · show ts.length - ((i : Int) + 1).toNat < ts.length - ((i : Nat) : Int).toNat
                omega
    · have HE := Lib.hid (typesErr_none H300.out fun j hj => HP.out j (by omega))
      obtain ⟨k0, k1, k2, k3, k4, k5, k6, kf⟩ := box7 HBX.out
      go_wp2_with fail
      refine (cloneTypes_any wr HTA.out (HTS.out.butX HXR.out hne) (by have := H300.out; omega)).mono ?_
      rintro e w6 ⟨v6, rfl, ho6, hb6⟩
      have hil : i = ts.length := by omega
      have HTK6 : Hid (TakesAt ts ts.length mt ts.length D w6) := Lib.hid (by have := HTK.out.below hb6; rw [hil] at this; exact this)
      have hbx6 := (hb6.block ga (Nat.lt_of_lt_of_le HGL.out HXR.out.size)).trans HBX.out
      have HX6 := Lib.hid (HXR.out.later hb6)
      have HXS := Lib.hid HXR.out.size
      obtain ⟨a6, c6, rfl⟩ := own_slice ho6
      obtain ⟨l0, l1, l2, l3, l4, l5, l6, lf⟩ := box7 hbx6
      have lf4 := lf 4
      have HBX6 := Lib.hid hbx6
      have HO6 := Lib.hid ho6
      clear hbx6 ho6 hb6 lf k0 k1 k2 k3 k4 k5 k6 kf hil
      go_wp2_with fail
      go_ret
      have hb7 : (w6.setCell ⟨ga, 4, none⟩ (.slice a6 ts.length c6)).heap[ga]? = some (.cells #[vn, .map (some mb), vu, va, .slice a6 ts.length c6, .map (some mt), .map none] 70 (0, 0)) := Go.heap_setCell_same _ _ 4 _ 70 _ HBX6.out
      have hgm : mt ≠ ga := by have := HGL.out; have := HMT.out; omega
      refine ⟨HX6.out.trans (ButX.store _ _ _), .inr ⟨HE.out, rfl, _, mt, ts.length, D, own_mono ((KeepT.store HBX6.out _).own (by decide) HO6.out) HXS.out, hb7, HTK6.out.keep (Below.heap_setCell w6 ⟨ga, 4, none⟩ _ mt hgm), Nat.le_of_eq HMT.out⟩⟩
end Go.Proofs.Ytlaibimdkamcfaa
