import Derived.Test.YtlaibimdkamcfaaD4
import Derived.Test.YtlaibimdkamcfaaB6
import Derived.Test.YtlaibimdkamcfaaD3
import Derived.Test.YtlaibimdkamcfaaB2
import Derived.Maps.OwnIn
import Derived.Sort.CutIn
import Derived.RangeFuncCalls
section
/-
  The state of openClasses between two classes, and what its steps do to it.
-/
namespace Go.Proofs.Ytlaibimdkamcfaa
open Go.RowKit Go.Maps

/-- Whatever is no row of one type lies as it lay. -/
def KeepT (t : TypeId) (A B : World) : Prop := A.heap.size ≤ B.heap.size ∧ ∀ (b : Nat) (o : Obj), A.heap[b]? = some o → (∀ c f, o ≠ .cells c t f) → B.heap[b]? = some o

theorem KeepT.below (t : TypeId) {A B : World} (h : Below A.heap.size A B) : KeepT t A B := ⟨h.size, fun b o ho _ => (h.block b (Array.getElem?_eq_some_iff.1 ho).1).trans ho⟩
theorem KeepT.trans {t : TypeId} {A B C : World} (h : KeepT t A B) (k : KeepT t B C) : KeepT t A C := ⟨Nat.le_trans h.1 k.1, fun b o ho hn => k.2 b o (h.2 b o ho hn) hn⟩
theorem KeepT.grown {t : TypeId} {A B : World} {v : Value} {base size n : Nat} {xs : List Value} (ho : A.ownsRow base t size v n xs) (hg : A.grownBy B v.ownBlock) : KeepT t A B := by
  refine ⟨hg.size, fun b o hb hn => (hg.block b (Array.getElem?_eq_some_iff.1 hb).1 fun e => ?_).trans hb⟩
  rcases ho.2 with ⟨rfl, _⟩ | ⟨g, cap, cur, rfl, _, hh, _⟩
  · cases e
  · simp only [Value.ownBlock, Option.some.injEq] at e
    subst e
    rw [hh] at hb
    cases hb
    exact hn _ _ rfl
theorem KeepT.store {t : TypeId} {A : World} {g o : Nat} {c : Array Value} {f : Nat × Nat} (h : A.heap[g]? = some (.cells c t f)) (v : Value) : KeepT t A (A.setCell ⟨g, o, none⟩ v) := by
  refine ⟨by simp, fun b p hb hn => (Below.heap_setCell A ⟨g, o, none⟩ v b fun e => ?_).trans hb⟩
  have e' : b = g := e
  subst e'
  rw [h] at hb
  cases hb
  exact hn _ _ rfl

theorem KeepT.own {t e : TypeId} {A B : World} (h : KeepT t A B) (hne : e ≠ t) {base size n : Nat} {v : Value} {xs : List Value} (ho : A.ownsRow base e size v n xs) : B.ownsRow base e size v n xs := by
  refine ⟨ho.1, ?_⟩
  rcases ho.2 with h0 | ⟨g, cap, cur, rfl, hg, hh, rest⟩
  · exact .inl h0
  · exact .inr ⟨g, cap, cur, rfl, hg, h.2 g _ hh (fun c f e' => by cases e'; exact hne rfl), rest⟩

theorem KeepT.map {t : TypeId} {A B : World} (h : KeepT t A B) {mb n : Nat} {D : DataW Unit} (hm : A.ownsMap Try.prog 9 (plainElem (H := Unit) Try.prog 3) mb n D) : B.ownsMap Try.prog 9 (plainElem (H := Unit) Try.prog 3) mb n D := by
  obtain ⟨es, clock, h1, h2⟩ := hm
  exact ⟨es, clock, h.2 mb _ h1 (fun c f e => by cases e), h2⟩

theorem KeepT.marks {t : TypeId} {A C : World} (h : KeepT t A C) {B : Nat} {Ds : List Nat} (hm : MarksAt B Ds A) : MarksAt B Ds C :=
  ⟨hm.nodup, fun D hD => ⟨(hm.at_ D hD).1, h.2 D _ (hm.at_ D hD).2 (fun c f e => by cases e)⟩⟩

/-- Numbers in a row of memory. -/
def SupV (l : List Nat) (W : World) (v : Value) : Prop :=
  ∃ (a : Option Addr) (b o c : Nat), v = .slice a l.length c ∧ (l ≠ [] → a = some ⟨b, o, none⟩ ∧ ∃ cs f, W.heap[b]? = some (.cells cs 3 f)) ∧ ∀ j (h : j < l.length), W.cell? ⟨b, o + j, none⟩ = some (.int .i64 (l[j] : Nat))

theorem SupV.keep {t : TypeId} {A B : World} (h : KeepT t A B) (ht : (3 : TypeId) ≠ t) {l : List Nat} {v : Value} (hs : SupV l A v) : SupV l B v := by
  obtain ⟨a, b, o, c, rfl, h1, h2⟩ := hs
  refine ⟨a, b, o, c, rfl, fun hn => ?_, fun j hj => ?_⟩
  · obtain ⟨e, cs, f, hh⟩ := h1 hn
    exact ⟨e, cs, f, h.2 b _ hh (fun c f e => by cases e; exact ht rfl)⟩
  · obtain ⟨e, cs, f, hh⟩ := h1 (by intro e; subst e; simp at hj)
    have := h.2 b _ hh (fun c f e => by cases e; exact ht rfl)
    exact (cell_of_block (this.trans hh.symm)).trans (h2 j hj)

/-- A row of numbers that is owned. -/
theorem SupV.of_own {W : World} {base n : Nat} {v : Value} {l : List Nat} (h : W.ownsRow base 3 1 v n (intV l)) : SupV l W v := by
  have hl : l.length = n := by have := h.1; simpa [intV] using this
  rcases h.2 with ⟨rfl, h0⟩ | ⟨g, cap, cur, rfl, _, hg, _, _, _, ht⟩
  · have : l = [] := List.eq_nil_of_length_eq_zero (by omega)
    subst this
    exact ⟨none, 0, 0, 0, rfl, fun h => absurd rfl h, fun j hj => by simp at hj⟩
  · subst hl
    refine ⟨_, g, 0, cap, rfl, fun _ => ⟨rfl, _, _, hg⟩, fun j hj => ?_⟩
    rw [Lib.cell_of_heap hg, Nat.zero_add]
    rw [Nat.mul_one] at ht
    have h2 : (cur.toList.take l.length)[j]? = (intV l)[j]? := by rw [ht]
    rw [List.getElem?_take_of_lt hj] at h2
    simpa [intV, hj] using h2

/-- openClasses has read k classes; s of them have their supers, m of them are in the map, a of them have their sets. -/
structure OC (cs : List Cls) (B G mb kn ks ka km : Nat) (W : World) (vn vu va : Value) (D : DataW Unit) (us ws : List Value) : Prop where
  box : W.heap[G]? = some (.cells #[vn, .map (some mb), vu, va, .slice none 0 0, .map none, .map none] 70 (0, 0))
  names : W.ownsRow B 9 1 vn kn ((namesOf (cs.take kn)).map Value.string)
  sups : W.ownsRow B 106 1 vu ks us
  supv : ∀ k, k < ks → ∃ u, us[k]? = some u ∧ SupV (supOf cs k) W u
  abv : W.ownsRow B 109 5 va ka ws
  bits : ∀ k, k < ka → ∀ q, q < 5 → ∃ f : Nat, f < 18446744073709551616 ∧ ws[k * 5 + q]? = some (.int .u64 f) ∧ ∀ r, r < 64 → (f.testBit r = true ↔ Reach (supOf cs) k (q * 64 + r))
  map : W.ownsMap Try.prog 9 (plainElem (H := Unit) Try.prog 3) mb km D
  has : ∀ s : ByteArray, Maps.has D (.string s.data.toList) = true ↔ s ∈ namesOf (cs.take km)
  at_ : ∀ s : ByteArray, s ∈ namesOf (cs.take km) → D.atKey (.string s.data.toList) (.lit (.int .i64 0)) = .lit (.int .i64 (idxOfC cs s))
  lt : B ≤ G ∧ B ≤ mb
  isMap : Maps.IsMap D

variable {cs : List Cls} {B G mb kn ks ka km : Nat} {W : World} {vn vu va : Value} {D : DataW Unit} {us ws : List Value}

theorem OC.move (h : OC cs B G mb kn ks ka km W vn vu va D us ws) {W' : World} (hk : ∀ (b : Nat) (o : Obj), W.heap[b]? = some o → ((∃ c t f, o = .cells c t f ∧ t ≠ 70) ∨ ∃ es k, o = .map es k) → W'.heap[b]? = some o)
    (hbox : W'.heap[G]? = some (.cells #[vn, .map (some mb), vu, va, .slice none 0 0, .map none, .map none] 70 (0, 0))) : OC cs B G mb kn ks ka km W' vn vu va D us ws := by
  have hc : ∀ (b : Nat) (c : Array Value) (t : TypeId) (f : Nat × Nat), t ≠ 70 → W.heap[b]? = some (.cells c t f) → W'.heap[b]? = some (.cells c t f) := fun b c t f ht hb => hk b _ hb (.inl ⟨_, _, _, rfl, ht⟩)
  have hown : ∀ {base e size n : Nat} {v : Value} {xs : List Value}, e ≠ 70 → W.ownsRow base e size v n xs → W'.ownsRow base e size v n xs := fun {base e size n v xs} ht ho => by
    refine ⟨ho.1, ?_⟩
    rcases ho.2 with h0 | ⟨g, cap, cur, rfl, hg', hh, rest⟩
    · exact .inl h0
    · exact .inr ⟨g, cap, cur, rfl, hg', hc _ _ _ _ ht hh, rest⟩
  refine ⟨hbox, hown (by decide) h.names, hown (by decide) h.sups, fun k hk => ?_, hown (by decide) h.abv, h.bits, ?_, h.has, h.at_, h.lt, h.isMap⟩
  · obtain ⟨u, hu, a, b, o, c, rfl, h1, h2⟩ := h.supv k hk
    refine ⟨_, hu, a, b, o, c, rfl, fun hn => ?_, fun j hj => ?_⟩
    · obtain ⟨e, cs', f, hh⟩ := h1 hn
      exact ⟨e, cs', f, hc _ _ _ _ (by decide) hh⟩
    · obtain ⟨e, cs', f, hh⟩ := h1 (by intro e; rw [e] at hj; simp at hj)
      exact (cell_of_block ((hc _ _ _ _ (by decide) hh).trans hh.symm)).trans (h2 j hj)
  · obtain ⟨es, clock, h1, h2⟩ := h.map
    exact ⟨es, clock, hk mb _ h1 (.inr ⟨_, _, rfl⟩), h2⟩

theorem OC.nd (h : OC cs B G mb kn ks ka km W vn vu va D us ws) {W' : World} (hk : KeepsND W W') : OC cs B G mb kn ks ka km W' vn vu va D us ws :=
  h.move (fun b o hb ho => hk.same b o hb (by rcases ho with ⟨c, t, f, rfl, _⟩ | ⟨es, k, rfl⟩ <;> (intro ds e; cases e))) (hk.same G _ h.box (fun ds e => by cases e))

theorem OC.below (h : OC cs B G mb kn ks ka km W vn vu va D us ws) {W' : World} (hb : Below W.heap.size W W') : OC cs B G mb kn ks ka km W' vn vu va D us ws :=
  ⟨(hb.block G (Array.getElem?_eq_some_iff.1 h.box).1).trans h.box, (KeepT.below 0 hb).own (by decide) h.names, (KeepT.below 0 hb).own (by decide) h.sups, fun k hk => (by obtain ⟨u, hu, hv⟩ := h.supv k hk; exact ⟨u, hu, hv.keep (KeepT.below 0 hb) (by decide)⟩),
    (KeepT.below 0 hb).own (by decide) h.abv, h.bits, (KeepT.below 0 hb).map h.map, h.has, h.at_, h.lt, h.isMap⟩

theorem OC.pushSup (h : OC cs B G mb kn ks ka km W vn vu va D us ws) {W' : World} {v' x : Value} (hown : W'.ownsRow B 106 1 v' (ks + 1) (us ++ [x])) (hg : W.grownBy W' vu.ownBlock) (hx : SupV (supOf cs ks) W x) :
    OC cs B G mb kn (ks + 1) ka km (W'.setCell ⟨G, 2, none⟩ v') vn v' va D (us ++ [x]) ws := by
  have h1 := KeepT.grown h.sups hg
  have hbox := h1.2 G _ h.box (fun c f e => by cases e)
  have h2 : KeepT 70 W' (W'.setCell ⟨G, 2, none⟩ v') := KeepT.store hbox v'
  have hlu : us.length = ks := by have := h.sups.1; omega
  refine ⟨Go.heap_setCell_same _ _ 2 _ 70 v' hbox, h2.own (by decide) (h1.own (by decide) h.names), h2.own (by decide) hown, fun k hk => ?_, h2.own (by decide) (h1.own (by decide) h.abv), h.bits, h2.map (h1.map h.map), h.has, h.at_, h.lt, h.isMap⟩
  by_cases hks : k < ks
  · obtain ⟨u, hu, hs⟩ := h.supv k hks
    exact ⟨u, by rw [List.getElem?_append_left (by omega)]; exact hu, (hs.keep h1 (by decide)).keep h2 (by decide)⟩
  · obtain rfl : k = ks := by omega
    exact ⟨x, by rw [List.getElem?_append_right (by omega), hlu]; simp, (hx.keep h1 (by decide)).keep h2 (by decide)⟩

theorem OC.pushName (h : OC cs B G mb kn ks ka km W vn vu va D us ws) {W' : World} {v' : Value} (hk : kn < cs.length) (hown : W'.ownsRow B 9 1 v' (kn + 1) ((namesOf (cs.take kn)).map Value.string ++ [.string (cs[kn]).name])) (hg : W.grownBy W' vn.ownBlock) :
    OC cs B G mb (kn + 1) ks ka km (W'.setCell ⟨G, 0, none⟩ v') v' vu va D us ws := by
  have h1 := KeepT.grown h.names hg
  have hbox := h1.2 G _ h.box (fun c f e => by cases e)
  have h2 : KeepT 70 W' (W'.setCell ⟨G, 0, none⟩ v') := KeepT.store hbox v'
  have e : (namesOf (cs.take (kn + 1))).map Value.string = (namesOf (cs.take kn)).map Value.string ++ [.string (cs[kn]).name] := by
    rw [← List.take_append_getElem hk]; unfold namesOf; rw [List.map_append, List.map_append]; rfl
  refine ⟨Go.heap_setCell_same _ _ 0 _ 70 v' hbox, h2.own (by decide) (by rw [e]; exact hown), h2.own (by decide) (h1.own (by decide) h.sups), fun k hk => ?_, h2.own (by decide) (h1.own (by decide) h.abv), h.bits, h2.map (h1.map h.map), h.has, h.at_, h.lt, h.isMap⟩
  obtain ⟨u, hu, hs⟩ := h.supv k hk
  exact ⟨u, hu, (hs.keep h1 (by decide)).keep h2 (by decide)⟩

theorem OC.pushAbv (h : OC cs B G mb kn ks ka km W vn vu va D us ws) {W' : World} {v' : Value} {new : List Value} (hown : W'.ownsRow B 109 5 v' (ka + 1) (ws ++ new)) (hg : W.grownBy W' va.ownBlock)
    (hn : ∀ q, q < 5 → ∃ f : Nat, f < 18446744073709551616 ∧ new[q]? = some (.int .u64 f) ∧ ∀ r, r < 64 → (f.testBit r = true ↔ Reach (supOf cs) ka (q * 64 + r))) :
    OC cs B G mb kn ks (ka + 1) km (W'.setCell ⟨G, 3, none⟩ v') vn vu v' D us (ws ++ new) := by
  have h1 := KeepT.grown h.abv hg
  have hbox := h1.2 G _ h.box (fun c f e => by cases e)
  have h2 : KeepT 70 W' (W'.setCell ⟨G, 3, none⟩ v') := KeepT.store hbox v'
  have hlw : ws.length = ka * 5 := h.abv.1
  refine ⟨Go.heap_setCell_same _ _ 3 _ 70 v' hbox, h2.own (by decide) (h1.own (by decide) h.names), h2.own (by decide) (h1.own (by decide) h.sups), fun k hk => ?_, h2.own (by decide) hown, fun k hk q hq => ?_, h2.map (h1.map h.map), h.has, h.at_, h.lt, h.isMap⟩
  · obtain ⟨u, hu, hs⟩ := h.supv k hk
    exact ⟨u, hu, (hs.keep h1 (by decide)).keep h2 (by decide)⟩
  · by_cases hka : k < ka
    · obtain ⟨f, h1, h2, h3⟩ := h.bits k hka q hq
      exact ⟨f, h1, by rw [List.getElem?_append_left (by omega)]; exact h2, h3⟩
    · obtain rfl : k = ka := by omega
      obtain ⟨f, h1, h2, h3⟩ := hn q hq
      exact ⟨f, h1, by rw [List.getElem?_append_right (by omega), show k * 5 + q - ws.length = q by omega]; exact h2, h3⟩

theorem names_succ {k : Nat} (hk : k < cs.length) : namesOf (cs.take (k + 1)) = namesOf (cs.take k) ++ [(cs[k]).name] := by
  rw [← List.take_append_getElem hk]; unfold namesOf; rw [List.map_append]; rfl

theorem idx_at (hO : openErr cs = 0) {k : Nat} (hk : k < cs.length) : idxOfC cs (cs[k]).name = k := by
  have hm : knownB cs (cs[k]).name = true := by
    unfold knownB
    simp only [decide_eq_true_eq]
    unfold namesOf
    exact List.mem_map_of_mem (List.getElem_mem hk)
  have h1 := idx_get hm
  have hn := names_nodup hO
  rw [List.nodup_iff_pairwise_ne, List.pairwise_iff_getElem] at hn
  have hl := idx_lt hm
  rcases Nat.lt_trichotomy (idxOfC cs (cs[k]).name) k with h | h | h
  · exact absurd (by rw [namesOf_get hl, namesOf_get hk]; exact h1) (hn _ _ (by rw [namesOf_length]; exact hl) (by rw [namesOf_length]; exact hk) h)
  · exact h
  · exact absurd (by rw [namesOf_get hl, namesOf_get hk]; exact h1.symm) (hn _ _ (by rw [namesOf_length]; exact hk) (by rw [namesOf_length]; exact hl) h)

theorem OC.pushMap (h : OC cs B G mb kn ks ka km W vn vu va D us ws) (hk : km < cs.length) {W' : World} (hi : idxOfC cs (cs[km]).name = km)
    (hmap : W'.ownsMap Try.prog 9 (plainElem (H := Unit) Try.prog 3) mb (km + 1) (D.put (.string (cs[km]).name.data.toList) (.lit (.int .i64 (km : Nat))))) (hg : W.grownBy W' (some mb)) :
    OC cs B G mb kn ks ka (km + 1) W' vn vu va (D.put (.string (cs[km]).name.data.toList) (.lit (.int .i64 (km : Nat)))) us ws := by
  obtain ⟨es, clock, hm0, _⟩ := h.map
  have hc : ∀ (b : Nat) (c : Array Value) (t : TypeId) (f : Nat × Nat), W.heap[b]? = some (.cells c t f) → W'.heap[b]? = some (.cells c t f) := fun b c t f hb =>
    (hg.block b (Array.getElem?_eq_some_iff.1 hb).1 (fun e => by simp only [Option.some.injEq] at e; subst e; rw [hm0] at hb; cases hb)).trans hb
  have hown : ∀ {base e size n : Nat} {v : Value} {xs : List Value}, W.ownsRow base e size v n xs → W'.ownsRow base e size v n xs := fun {base e size n v xs} ho => by
    refine ⟨ho.1, ?_⟩
    rcases ho.2 with h0 | ⟨g, cap, cur, rfl, hg', hh, rest⟩
    · exact .inl h0
    · exact .inr ⟨g, cap, cur, rfl, hg', hc _ _ _ _ hh, rest⟩
  refine ⟨hc _ _ _ _ h.box, hown h.names, hown h.sups, fun k hk => ?_, hown h.abv, h.bits, hmap, fun s => ?_, fun s hs => ?_, h.lt, h.isMap.put _ _⟩
  · obtain ⟨u, hu, a, b, o, c, rfl, h1, h2⟩ := h.supv k hk
    refine ⟨_, hu, a, b, o, c, rfl, fun hn => ?_, fun j hj => ?_⟩
    · obtain ⟨e, cs', f, hh⟩ := h1 hn
      exact ⟨e, cs', f, hc _ _ _ _ hh⟩
    · obtain ⟨e, cs', f, hh⟩ := h1 (by intro e; rw [e] at hj; simp at hj)
      exact (cell_of_block ((hc _ _ _ _ hh).trans hh.symm)).trans (h2 j hj)
  · rw [names_succ hk]
    by_cases e : s = (cs[km]).name
    · rw [e, Maps.has_put_same h.isMap (by exact trivial)]
      simp
    · rw [Maps.has_put_other (by intro e'; simp only [Lit.string.injEq] at e'; exact e (data_inj e')), h.has s]
      simp [e]
  · rw [names_succ hk] at hs
    by_cases e : s = (cs[km]).name
    · rw [e, Maps.atKey_put_same h.isMap (by exact trivial), hi]
    · rw [Maps.atKey_put_other (by intro e'; simp only [Lit.string.injEq] at e'; exact e (data_inj e'))]
      refine h.at_ s ?_
      simpa [e] using hs

theorem own_get {W : World} {base e n g cap : Nat} {l : List Value} (h : W.ownsRow base e 1 (.slice (some ⟨g, 0, none⟩) n cap) n l) {k : Nat} {u : Value} (hk : k < n) (hu : l[k]? = some u) : W.cell? ⟨g, k, none⟩ = some u := by
  rcases h.2 with ⟨h0, _⟩ | ⟨g', cap', cur, hv, _, hg, _, _, _, ht⟩
  · cases h0
  · cases hv
    rw [Lib.cell_of_heap hg]
    rw [Nat.mul_one] at ht
    rw [← ht, List.getElem?_take_of_lt hk] at hu
    simpa using hu
theorem own_block {W : World} {base e n g cap sz : Nat} {l : List Value} (h : W.ownsRow base e sz (.slice (some ⟨g, 0, none⟩) n cap) n l) : ∃ cur, W.heap[g]? = some (.cells cur e (0, 0)) := by
  rcases h.2 with ⟨h0, _⟩ | ⟨g', cap', cur, hv, _, hg, _, _, _, ht⟩
  · cases h0
  · cases hv
    exact ⟨_, hg⟩

/-- The supers in memory, as upward's iterator wants them. -/
theorem OC.supAt {g cap x : Nat} (h : OC cs B G mb kn ks ka km W vn (.slice (some ⟨g, 0, none⟩) ks cap) va D us ws) {c : Array Value} {f : Nat × Nat} (hx : W.heap[x]? = some (.cells c 109 f)) (hO : openErr (cs.take ks) = 0) (hks : ks ≤ cs.length) :
    SupAt (supOf (cs.take ks)) ks x W.heap.size W g 0 := by
  obtain ⟨cur, hg⟩ := own_block h.sups
  refine ⟨fun _ => ⟨(Array.getElem?_eq_some_iff.1 hg).1, by rintro rfl; rw [hx] at hg; cases hg⟩, fun i hi => ?_⟩
  obtain ⟨u, hu, a, b, o, c', rfl, h1, h2⟩ := h.supv i hi
  rw [sup_take hO hi hks, Nat.zero_add]
  refine ⟨a, b, o, c', own_get h.sups hi hu, fun hn => ?_, h2⟩
  obtain ⟨e, cs', f', hb⟩ := h1 hn
  exact ⟨e, (Array.getElem?_eq_some_iff.1 hb).1, by rintro rfl; rw [hx] at hb; cases hb⟩

/-- What else lies there in the midst of a round: the marks, the result's box, the class's box. -/
structure Side (w : World) (Ds : List Nat) (xb : Nat) (xs : Array Value) (W : World) : Prop where
  marks : MarksAt w.heap.size Ds W
  res : W.heap[w.heap.size]? = some (.cells #[.slice none 0 0, .map none, .slice none 0 0, .slice none 0 0, .slice none 0 0, .map none, .map none] 70 (0, 0))
  bel : Below w.heap.size w W
  cls : W.heap[xb]? = some (.cells xs 60 (0, 0))

theorem marks_lt {B : Nat} {Ds : List Nat} {W : World} (h : MarksAt B Ds W) : ∀ D, D ∈ Ds → D < W.heap.size := fun D hD => (Array.getElem?_eq_some_iff.1 (h.at_ D hD).2).1

theorem Side.below {w W W' : World} {Ds : List Nat} {xb : Nat} {xs : Array Value} (h : Side w Ds xb xs W) (hb : Below W.heap.size W W') : Side w Ds xb xs W' :=
  ⟨h.marks.later (marks_lt h.marks) hb, (hb.block _ (Array.getElem?_eq_some_iff.1 h.res).1).trans h.res, h.bel.trans (hb.mono h.bel.size), (hb.block _ (Array.getElem?_eq_some_iff.1 h.cls).1).trans h.cls⟩

theorem Side.push {w W W' : World} {Ds : List Nat} {xb : Nat} {xs : Array Value} (h : Side w Ds xb xs W) {t : TypeId} {size n : Nat} {v : Value} {l : List Value} (ho : W.ownsRow w.heap.size t size v n l) (ht : (70 : TypeId) ≠ t) (ht' : (60 : TypeId) ≠ t)
    (hg : W.grownBy W' v.ownBlock) {G o : Nat} {c : Array Value} {f : Nat × Nat} (hG : W'.heap[G]? = some (.cells c 70 f)) (hlt : w.heap.size < G) (v' : Value) : Side w Ds xb xs (W'.setCell ⟨G, o, none⟩ v') := by
  have h1 := KeepT.grown ho hg
  have hne : w.heap.size ≠ G := by omega
  refine ⟨(KeepT.store hG v').marks (h1.marks h.marks), ?_, (h.bel.grown hg h.bel.size (fun k e => (ho.lt k e).1)).setCell (p := ⟨G, o, none⟩) (by show w.heap.size ≤ G; omega) v', ?_⟩
  · exact (Below.heap_setCell W' ⟨G, o, none⟩ v' _ hne).trans (h1.2 _ _ h.res (fun c f e => by cases e; exact ht rfl))
  · have hx := h1.2 _ _ h.cls (fun c f e => by cases e; exact ht' rfl)
    exact (KeepT.store hG v').2 _ _ hx (fun c f e => by cases e)

theorem Side.map {w W W' : World} {Ds : List Nat} {xb : Nat} {xs : Array Value} (h : Side w Ds xb xs W) {mb clock : Nat} {es : Array MapEntry} (hm : W.heap[mb]? = some (.map es clock)) (hmb : w.heap.size ≤ mb) (hg : W.grownBy W' (some mb)) : Side w Ds xb xs W' := by
  have hk : ∀ (b : Nat) (o : Obj), W.heap[b]? = some o → (∀ es k, o ≠ .map es k) → W'.heap[b]? = some o := fun b o hb hn => (hg.block b (Array.getElem?_eq_some_iff.1 hb).1 (fun e => by simp only [Option.some.injEq] at e; subst e; rw [hm] at hb; cases hb; exact hn _ _ rfl)).trans hb
  exact ⟨⟨h.marks.nodup, fun D hD => ⟨(h.marks.at_ D hD).1, hk D _ (h.marks.at_ D hD).2 (fun es k e => by cases e)⟩⟩, hk _ _ h.res (fun es k e => by cases e), h.bel.grown hg h.bel.size (fun k e => by simp only [Option.some.injEq] at e; omega), hk _ _ h.cls (fun es k e => by cases e)⟩
end Go.Proofs.Ytlaibimdkamcfaa
end

section
/-
  openClasses: the algebra of a list of classes, or their error.
-/
namespace Go.Proofs.Ytlaibimdkamcfaa
open Go.RowKit Go.Maps Go.Shelf

attribute [local go_sem] Oper.semAt_some

theorem Try.info9 : (Try.prog.info? 9).map (fun i => (i.zero, i.size, i.bytes)) = some (some (.string ByteArray.empty), 1, 16) := by kernel_rfl
theorem Try.info106 : (Try.prog.info? 106).map (fun i => (i.zero, i.size, i.bytes)) = some (some (.slice none 0 0), 1, 24) := by kernel_rfl
theorem Try.info109 : (Try.prog.info? 109).map (fun i => (i.zero, i.size, i.bytes)) = some (some (.agg #[.int .u64 0, .int .u64 0, .int .u64 0, .int .u64 0, .int .u64 0]), 5, 40) := by kernel_rfl

/-- A class in two cells. -/
def ClsAt (W : World) (b o : Nat) (c : Cls) : Prop :=
  ∃ (sa : Option Addr) (sb so sc : Nat), W.cell? ⟨b, o, none⟩ = some (.string c.name) ∧ W.cell? ⟨b, o + 1, none⟩ = some (.slice sa c.sups.length sc) ∧ (c.sups ≠ [] → sa = some ⟨sb, so, none⟩) ∧ StrsAt W sb so c.sups ∧
    c.name.size ≤ maxLen ∧ c.sups.length ≤ maxLen

/-- The classes of a theory. -/
def ClassesAt (W : World) (b o : Nat) (cs : List Cls) : Prop := ∀ i (h : i < cs.length), b < W.heap.size ∧ ClsAt W b (o + i * 2) cs[i]

theorem ClassesAt.later {W W' : World} {b o : Nat} {cs : List Cls} (h : ClassesAt W b o cs) (hb : Below W.heap.size W W') : ClassesAt W' b o cs := by
  intro i hi
  obtain ⟨hlt, sa, sb, so, sc, h1, h2, h3, h4, h5, h6⟩ := h i hi
  exact ⟨Nat.lt_of_lt_of_le hlt hb.size, sa, sb, so, sc, (hb.cell (p := ⟨b, _, none⟩) hlt).trans h1, (hb.cell (p := ⟨b, _, none⟩) hlt).trans h2, h3, h4.later hb, h5, h6⟩

def zeroAlg : Value := .agg #[.slice none 0 0, .map none, .slice none 0 0, .slice none 0 0, .slice none 0 0, .map none, .map none]

theorem run_makeMap_hint (w : World) (n : Int) : (Instr.makeMap 65 (some (.int .i64 n))).run Try.prog w = .ok (.map (some w.heap.size)) (w.alloc (.map #[] 0)) := by
  simp [Instr.makeMap, run_underlying Try.underlying65, asInt, asIntOf, Result.andThen]

theorem results_ct {P : Program} {fn : Func} {p q : Tmp} {t : TypeId} (h : fn.results = #[.cell p t, .tmp q]) (tmps : Array Value) (w : World) (a : Addr) (x : Value) (hp : tmps.getD p undef = .pointer (some a)) (h1 : (loadVar t a).run P w = .ok x w) : (results fn tmps).run P w = .ok (.tuple #[x, tmps.getD q undef]) w := by
  have hp' : tmps[p]?.getD undef = .pointer (some a) := by simpa using hp
  simp [results, h, hp', asAddr, h1, Result.andThen]

theorem leave_alg {m B g : Nat} {Ds : List Nat} {W : World} {R : Ending → World → Prop} {tmps : Array Value} {a0 a1 a2 a3 a4 a5 a6 v3 : Value} (hm : MarksAt B Ds W) (h2 : tmps.getD 2 undef = .pointer (some ⟨g, 0, none⟩)) (h3 : tmps.getD 3 undef = v3)
    (hg : W.heap[g]? = some (.cells #[a0, a1, a2, a3, a4, a5, a6] 70 (0, 0))) (hR : ∀ W', Below B W W' → KeepsND W W' → R (.returned (.tuple #[.agg #[a0, a1, a2, a3, a4, a5, a6], v3])) W') :
    LeavesInM Fence.wide m Try.prog Try.f41 tmps R (marksOf Ds) .returning W := by
  refine leaves_marks Ds W hm fun W' hb hk => ?_
  have hg' := hk.same g _ hg (fun ds e => by cases e)
  refine ⟨_, results_ct rfl tmps W' ⟨g, 0, none⟩ _ h2 (run_loadVar_row W' g 70 70 _ _ _ hg' Try.underlying70 rfl (by kernel_rfl)), ?_⟩
  rw [h3]
  exact hR W' hb hk

theorem box_cells {W : World} {g : Nat} {a0 a1 a2 a3 a4 a5 a6 : Value} (h : W.heap[g]? = some (.cells #[a0, a1, a2, a3, a4, a5, a6] 70 (0, 0))) :
    W.cell? ⟨g, 0, none⟩ = some a0 ∧ W.cell? ⟨g, 1, none⟩ = some a1 ∧ W.cell? ⟨g, 2, none⟩ = some a2 ∧ W.cell? ⟨g, 3, none⟩ = some a3 ∧ W.cell? ⟨g, 4, none⟩ = some a4 ∧ W.cell? ⟨g, 5, none⟩ = some a5 ∧ W.cell? ⟨g, 6, none⟩ = some a6 ∧ ∀ k, W.frozen? ⟨g, k, none⟩ = false := by
  refine ⟨?_, ?_, ?_, ?_, ?_, ?_, ?_, fun k => Lib.frozen_of_heap h k⟩ <;> (rw [Lib.cell_of_heap h]; rfl)

/-- Seven stores into a box of an algebra. -/
def store7 (W : World) (g : Nat) (v0 v1 v2 v3 v4 v5 v6 : Value) : World := ((((((W.setCell ⟨g, 0, none⟩ v0).setCell ⟨g, 1, none⟩ v1).setCell ⟨g, 2, none⟩ v2).setCell ⟨g, 3, none⟩ v3).setCell ⟨g, 4, none⟩ v4).setCell ⟨g, 5, none⟩ v5).setCell ⟨g, 6, none⟩ v6

theorem store7_block {W : World} {g : Nat} {a0 a1 a2 a3 a4 a5 a6 : Value} (h : W.heap[g]? = some (.cells #[a0, a1, a2, a3, a4, a5, a6] 70 (0, 0))) (v0 v1 v2 v3 v4 v5 v6 : Value) :
    (store7 W g v0 v1 v2 v3 v4 v5 v6).heap[g]? = some (.cells #[v0, v1, v2, v3, v4, v5, v6] 70 (0, 0)) := by
  have h0 : (W.setCell ⟨g, 0, none⟩ v0).heap[g]? = some (.cells #[v0, a1, a2, a3, a4, a5, a6] 70 (0, 0)) := Go.heap_setCell_same _ g 0 _ 70 v0 h
  have h1 : ((W.setCell ⟨g, 0, none⟩ v0).setCell ⟨g, 1, none⟩ v1).heap[g]? = some (.cells #[v0, v1, a2, a3, a4, a5, a6] 70 (0, 0)) := Go.heap_setCell_same _ g 1 _ 70 v1 h0
  have h2 : (((W.setCell ⟨g, 0, none⟩ v0).setCell ⟨g, 1, none⟩ v1).setCell ⟨g, 2, none⟩ v2).heap[g]? = some (.cells #[v0, v1, v2, a3, a4, a5, a6] 70 (0, 0)) := Go.heap_setCell_same _ g 2 _ 70 v2 h1
  have h3 : ((((W.setCell ⟨g, 0, none⟩ v0).setCell ⟨g, 1, none⟩ v1).setCell ⟨g, 2, none⟩ v2).setCell ⟨g, 3, none⟩ v3).heap[g]? = some (.cells #[v0, v1, v2, v3, a4, a5, a6] 70 (0, 0)) := Go.heap_setCell_same _ g 3 _ 70 v3 h2
  have h4 : (((((W.setCell ⟨g, 0, none⟩ v0).setCell ⟨g, 1, none⟩ v1).setCell ⟨g, 2, none⟩ v2).setCell ⟨g, 3, none⟩ v3).setCell ⟨g, 4, none⟩ v4).heap[g]? = some (.cells #[v0, v1, v2, v3, v4, a5, a6] 70 (0, 0)) := Go.heap_setCell_same _ g 4 _ 70 v4 h3
  have h5 : ((((((W.setCell ⟨g, 0, none⟩ v0).setCell ⟨g, 1, none⟩ v1).setCell ⟨g, 2, none⟩ v2).setCell ⟨g, 3, none⟩ v3).setCell ⟨g, 4, none⟩ v4).setCell ⟨g, 5, none⟩ v5).heap[g]? = some (.cells #[v0, v1, v2, v3, v4, v5, a6] 70 (0, 0)) := Go.heap_setCell_same _ g 5 _ 70 v5 h4
  have h6 : (((((((W.setCell ⟨g, 0, none⟩ v0).setCell ⟨g, 1, none⟩ v1).setCell ⟨g, 2, none⟩ v2).setCell ⟨g, 3, none⟩ v3).setCell ⟨g, 4, none⟩ v4).setCell ⟨g, 5, none⟩ v5).setCell ⟨g, 6, none⟩ v6).heap[g]? = some (.cells #[v0, v1, v2, v3, v4, v5, v6] 70 (0, 0)) := Go.heap_setCell_same _ g 6 _ 70 v6 h5
  exact h6
theorem store7_other (W : World) (g b : Nat) (hb : b ≠ g) (v0 v1 v2 v3 v4 v5 v6 : Value) : (store7 W g v0 v1 v2 v3 v4 v5 v6).heap[b]? = W.heap[b]? :=
  (((((((Below.heap_setCell _ ⟨g, 6, none⟩ v6 b hb).trans (Below.heap_setCell _ ⟨g, 5, none⟩ v5 b hb)).trans (Below.heap_setCell _ ⟨g, 4, none⟩ v4 b hb)).trans (Below.heap_setCell _ ⟨g, 3, none⟩ v3 b hb)).trans (Below.heap_setCell _ ⟨g, 2, none⟩ v2 b hb)).trans (Below.heap_setCell _ ⟨g, 1, none⟩ v1 b hb)).trans (Below.heap_setCell _ ⟨g, 0, none⟩ v0 b hb))
theorem store7_below {B : Nat} {A W : World} (h : Below B A W) (g : Nat) (hg : B ≤ g) (v0 v1 v2 v3 v4 v5 v6 : Value) : Below B A (store7 W g v0 v1 v2 v3 v4 v5 v6) :=
  ((((((h.setCell (p := ⟨g, 0, none⟩) hg v0).setCell (p := ⟨g, 1, none⟩) hg v1).setCell (p := ⟨g, 2, none⟩) hg v2).setCell (p := ⟨g, 3, none⟩) hg v3).setCell (p := ⟨g, 4, none⟩) hg v4).setCell (p := ⟨g, 5, none⟩) hg v5).setCell (p := ⟨g, 6, none⟩) hg v6
theorem store7_marks {W : World} {B g : Nat} {Ds : List Nat} {c : Array Value} {t : TypeId} {f : Nat × Nat} (h : MarksAt B Ds W) (hg : W.heap[g]? = some (.cells c t f)) (v0 v1 v2 v3 v4 v5 v6 : Value) : MarksAt B Ds (store7 W g v0 v1 v2 v3 v4 v5 v6) :=
  ⟨h.nodup, fun D hD => ⟨(h.at_ D hD).1, (store7_other W g D (by rintro rfl; rw [(h.at_ D hD).2] at hg; cases hg) v0 v1 v2 v3 v4 v5 v6).trans (h.at_ D hD).2⟩⟩

theorem own_slice {W : World} {base e size n : Nat} {v : Value} {xs : List Value} (h : W.ownsRow base e size v n xs) : ∃ a c, v = .slice a n c := by
  rcases h.2 with ⟨rfl, rfl⟩ | ⟨g, cap, _, rfl, _⟩
  · exact ⟨none, 0, rfl⟩
  · exact ⟨_, cap, rfl⟩

theorem cell_five_new (w : World) (a b c d e : Value) (t : TypeId) : ∀ j u, [a, b, c, d, e][j]? = some u → (w.alloc (.cells #[a, b, c, d, e] t)).cell? ((⟨w.heap.size, 0, none⟩ : Addr).add j) = some u := by
  intro j u hj
  have hn := heap_alloc_new w (.cells #[a, b, c, d, e] t)
  rw [Go.WideShapes.add_plain, Lib.cell_of_heap hn, Nat.zero_add]
  simpa using hj

theorem ko_drewN (W : World) (q : Nat) : KeepsOthers W (W.drewN q) := ⟨Nat.le_refl _, fun _ _ h _ => h⟩

theorem intV_snoc (l : List Nat) (j : Nat) : intV (l ++ [j]) = intV l ++ [.int .i64 (j : Int)] := by simp [intV]

/-- The supers of a class, as far as they have been read. -/
def ocIn (cs : List Cls) (l : List ByteArray) (w2 : World) (t q : Value) (W : World) : Prop :=
  ∃ k : Nat, q = .int .i64 (k : Nat) ∧ k ≤ l.length ∧ W.ownsRow w2.heap.size 3 1 t k (intV ((l.take k).map (idxOfC cs))) ∧ Below w2.heap.size w2 W

/-- The frame at the head of a round. -/
def ocT (ca : Option Addr) (n cc G0 : Nat) (s : Nat → Value) : Array Value :=
  #[.slice ca n cc, undef, .pointer (some ⟨G0, 0, none⟩), .int .i64 0, .pointer (some ⟨G0 + 1 + 1, 0, none⟩), s 5, s 6, s 7, s 8, s 9, s 10, s 11, s 12, .slice ca n cc, .int .i64 (n : Int), .bool (decide (300 < (n : Int))), undef, .slice ca n cc, .int .i64 (n : Int), .map (some (G0 + 1)),
    .agg #[.slice none 0 0, .map (some (G0 + 1)), .slice none 0 0, .slice none 0 0, .slice none 0 0, .map none, .map none], .slice ca n cc, .int .i64 (n : Int), s 23, s 24, s 25, s 26, s 27, s 28, s 29, s 30, s 31, s 32, s 33, s 34, s 35, s 36, s 37, s 38, s 39, s 40, s 41, s 42, s 43, s 44, s 45, s 46, s 47, s 48, s 49,
    s 50, s 51, s 52, s 53, s 54, s 55, s 56, s 57, s 58, s 59, s 60, s 61, s 62, s 63, s 64, s 65, s 66, s 67, s 68, s 69, s 70, s 71, s 72, s 73, s 74, s 75, s 76, s 77, s 78, s 79, s 80, s 81]

/-- What holds at the head of a round. -/
def ocRel (cs : List Cls) (w : World) (s : Nat → Value) (ds : List Deferred) (wr : World) : Prop :=
  ∃ (i : Nat) (vn vu va : Value) (D : DataW Unit) (us ws : List Value) (Ds : List Nat), s 23 = .int .i64 (i : Nat) ∧ i ≤ cs.length ∧ ds = marksOf Ds ∧ MarksAt w.heap.size Ds wr ∧
    OC cs w.heap.size (w.heap.size + 1 + 1) (w.heap.size + 1) i i i i wr vn vu va D us ws ∧ Below w.heap.size w wr ∧ (∀ k, k < i → clsErr (namesOf (cs.take k)) (clsAt cs k) = 0) ∧
    wr.heap[w.heap.size]? = some (.cells #[.slice none 0 0, .map none, .slice none 0 0, .slice none 0 0, .slice none 0 0, .map none, .map none] 70 (0, 0))

theorem oc_start (cs : List Cls) (w : World) : ocRel cs w (fun i => if i = 23 then .int .i64 0 else undef) [] (((w.alloc (.cells #[.slice none 0 0, .map none, .slice none 0 0, .slice none 0 0, .slice none 0 0, .map none, .map none] 70)).alloc (.map #[] 0)).alloc
    (.cells #[.slice none 0 0, .map (some (w.heap.size + 1)), .slice none 0 0, .slice none 0 0, .slice none 0 0, .map none, .map none] 70)) := by
  have hsz : ((w.alloc (.cells #[.slice none 0 0, .map none, .slice none 0 0, .slice none 0 0, .slice none 0 0, .map none, .map none] 70)).alloc (.map #[] 0)).heap.size = w.heap.size + 1 + 1 := by simp
  have hm := World.ownsMap_made (w.alloc (.cells #[.slice none 0 0, .map none, .slice none 0 0, .slice none 0 0, .slice none 0 0, .map none, .map none] 70)) Try.prog 9 (plainElem (H := Unit) Try.prog 3)
  rw [show (w.alloc (.cells #[.slice none 0 0, .map none, .slice none 0 0, .slice none 0 0, .slice none 0 0, .map none, .map none] 70)).heap.size = w.heap.size + 1 by simp] at hm
  refine ⟨0, .slice none 0 0, .slice none 0 0, .slice none 0 0, .map [], [], [], [], rfl, Nat.zero_le _, rfl, ⟨List.nodup_nil, fun D hD => by cases hD⟩, ?_, ?_, fun k hk => by omega, ?_⟩
  · refine ⟨?_, ?_, World.ownsRow_nil _ _ _ _, fun k hk => by omega, World.ownsRow_nil _ _ _ _, fun k hk => by omega, ?_, fun s => ?_, fun s hs => ?_, by omega, Maps.isMap_empty⟩
    · have := heap_alloc_new ((w.alloc (.cells #[.slice none 0 0, .map none, .slice none 0 0, .slice none 0 0, .slice none 0 0, .map none, .map none] 70)).alloc (.map #[] 0)) (.cells #[.slice none 0 0, .map (some (w.heap.size + 1)), .slice none 0 0, .slice none 0 0, .slice none 0 0, .map none, .map none] 70)
      rwa [hsz] at this
    · have := World.ownsRow_nil (((w.alloc (.cells #[.slice none 0 0, .map none, .slice none 0 0, .slice none 0 0, .slice none 0 0, .map none, .map none] 70)).alloc (.map #[] 0)).alloc (.cells #[.slice none 0 0, .map (some (w.heap.size + 1)), .slice none 0 0, .slice none 0 0, .slice none 0 0, .map none, .map none] 70)) w.heap.size 9 1
      simpa [namesOf] using this
    · exact hm.kept (World.grownBy_alloc _ _ none) (by simp)
    · simp [namesOf, Maps.has]
    · simp [namesOf] at hs
  · exact (((Below.refl _ w).alloc (Nat.le_refl _) _).alloc (by simp) _).alloc (by simp; omega) _
  · rw [Below.heap_alloc _ _ _ (by simp; omega), Below.heap_alloc _ _ _ (by simp)]
    exact heap_alloc_new w _

set_option maxRecDepth 100000 in
set_option maxHeartbeats 4000000 in
theorem openClasses_in (m cb co cc : Nat) (ca : Option Addr) (cs : List Cls) (w : World) (hm : 6 ≤ m) (hca : cs ≠ [] → ca = some ⟨cb, co, none⟩) (hcs : ClassesAt w cb co cs) (hl : cs.length ≤ maxLen) :
    CallsIn Fence.wide m Try.prog 41 #[.slice ca cs.length cc] w fun e w' =>
      (openErr cs ≠ 0 ∧ e = .returned (.tuple #[zeroAlg, .int .i64 (openErr cs)]) ∧ Below w.heap.size w w') ∨
      (openErr cs = 0 ∧ ∃ (vn vu va : Value) (G mb : Nat) (D : DataW Unit) (us ws : List Value), e = .returned (.tuple #[.agg #[vn, .map (some mb), vu, va, .slice none 0 0, .map none, .map none], .int .i64 0]) ∧
        OC cs w.heap.size G mb cs.length cs.length cs.length cs.length w' vn vu va D us ws ∧ Below w.heap.size w w') := by
  have hdd : ∀ k : Nat, (Fence.wide.depth.isSome = true → 1 ≤ k) := fun k h => by cases h
  have HCS := Lib.hid hcs
  have HCA := Lib.hid hca
  clear hcs hca
  refine callsIn_of_wp_marks Try.func41 rfl trivial ?_ rfl
  simp only [Try.ntmps41, List.size_toArray, List.length_cons, List.length_nil, Nat.reduceAdd, Nat.reduceSub, Array.replicate_succ, Array.replicate_zero, List.push_toArray, List.append_toArray, List.nil_append, List.cons_append]
  have hmk := run_makeMap_hint
  have b0 : Below w.heap.size w (w.alloc (.cells #[.slice none 0 0, .map none, .slice none 0 0, .slice none 0 0, .slice none 0 0, .map none, .map none] 70)) := (Below.refl _ w).alloc (Nat.le_refl _) _
  have r0 := heap_alloc_new w (.cells #[.slice none 0 0, .map none, .slice none 0 0, .slice none 0 0, .slice none 0 0, .map none, .map none] 70)
  by_cases hlt : 300 < cs.length
  · have hE : openErr cs = 5 := by unfold openErr; rw [if_pos hlt]
    have HE := Lib.hid hE
    have R0 := Lib.hid r0
    have B0 := Lib.hid b0
    clear hE r0 b0
    gi_wp2
    show LeavesInM _ _ _ _ _ _ (marksOf []) _ _
    refine leave_alg (B := w.heap.size) (g := w.heap.size) (v3 := .int .i64 5) ⟨List.nodup_nil, fun D hD => by cases hD⟩ rfl rfl R0.out fun W' hb hk => .inl ⟨by rw [HE.out]; decide, by rw [HE.out]; rfl, B0.out.trans (hb.mono (Nat.le_refl _))⟩
  · have R0 := Lib.hid r0
    have B0 := Lib.hid b0
    clear r0 b0
    gi_wp2
    refine loop_marks (ocT ca cs.length cc w.heap.size) (ocRel cs w) (fun t => cs.length - (intOf (t.getD 23 undef)).toNat) (s0 := fun i => if i = 23 then .int .i64 0 else undef) (ds0 := []) (oc_start cs w) ?_
    clear R0 B0
    intro s ds wr hrel
    obtain ⟨i, vn, vu, va, D, us, ws, Ds, h23, hi, hds, hM, hOC, hB, hz, hr⟩ := hrel
    have hmu : cs.length - (intOf ((ocT ca cs.length cc w.heap.size s).getD 23 undef)).toNat = cs.length - i := by
      show cs.length - (intOf (s 23)).toNat = _
      rw [h23]; simp [intOf]
    rw [hmu]
    unfold ocT
    rw [h23]
    subst hds
    clear hmu h23
    obtain ⟨na, nc, rfl⟩ := own_slice hOC.names
    obtain ⟨ua, uc, rfl⟩ := own_slice hOC.sups
    obtain ⟨ba, bc, rfl⟩ := own_slice hOC.abv
    by_cases hil : i < cs.length
    · have e := HCA.out (by intro e; subst e; simp at hil)
      subst e
      obtain ⟨hcb, sa, sb, so, sc, c0, c1, c2, c3, c4, c5⟩ := (HCS.out.later hB) i hil
      have hce := clsAt_eq hil
      have HID := Lib.hid (fun hO : openErr (cs.take (i + 1)) = 0 => idx_self hO hil)
      obtain ⟨c, hc⟩ : ∃ c, cs[i] = c := ⟨_, rfl⟩
      rw [hc] at c0 c1 c2 c3 c4 c5 hce HID
      have HCI := Lib.hid hc
      have HCE := Lib.hid hce
      clear hc hce
      have b1 : Below wr.heap.size wr (wr.alloc (.cells #[.string c.name, .slice sa c.sups.length sc] 60)) := (Below.refl _ wr).alloc (Nat.le_refl _) _
      have n1 := heap_alloc_new wr (.cells #[.string c.name, .slice sa c.sups.length sc] 60)
      have hOC1 := hOC.below b1
      have hM1 := hM.later (B' := wr.heap.size) (fun D hD => (Array.getElem?_eq_some_iff.1 (hM.at_ D hD).2).1) b1
      have hr1 := (b1.block w.heap.size (Array.getElem?_eq_some_iff.1 hr).1).trans hr
      have hB1 := hB.trans (b1.mono hB.size)
      have hst1 := c3.later b1
      obtain ⟨g0, g1, g2, g3, g4, g5, g6, _⟩ := box_cells hOC1.box
      have e0 : (wr.alloc (.cells #[.string c.name, .slice sa c.sups.length sc] 60)).cell? ⟨wr.heap.size, 0, none⟩ = some (.string c.name) := by rw [Lib.cell_of_heap n1]; rfl
      have e1 : (wr.alloc (.cells #[.string c.name, .slice sa c.sups.length sc] 60)).cell? ⟨wr.heap.size, 1, none⟩ = some (.slice sa c.sups.length sc) := by rw [Lib.cell_of_heap n1]; rfl
      have HOC1 := Lib.hid hOC1
      have HM1 := Lib.hid hM1
      have HR1 := Lib.hid hr1
      have HB1 := Lib.hid hB1
      have HST1 := Lib.hid hst1
      have HN1 := Lib.hid n1
      have HZ := Lib.hid hz
      have HC2 := Lib.hid c2
      clear hOC1 hM1 hr1 hB1 hst1 n1 hOC hM hr hB b1 c3 hz
      have HERR := Lib.hid (classError_any na ua ba none sa i nc i uc i bc 0 0 (w.heap.size + 1) i sb so sc none none D (namesOf (cs.take i)) (fun s => Maps.has D (.string s.data.toList)) c _ HOC1.out.map (by have := HOC1.out.map; obtain ⟨es, ck, h, _⟩ := this; exact (Array.getElem?_eq_some_iff.1 h).1) (fun _ => rfl) HOC1.out.has c4 HC2.out HST1.out c5)
      rw [← HCE.out] at HERR
      obtain ⟨E, hE⟩ : ∃ E, clsErr (namesOf (cs.take i)) (clsAt cs i) = E := ⟨_, rfl⟩
      rw [hE] at HERR
      rw [HCE.out] at HERR
      have HE := Lib.hid hE
      clear hE
      gi_wp2
      refine ⟨trivial, hdd _, ?_⟩
      refine (callsIn_wide.2 HERR.out).mono ?_
      rintro e w2 ⟨rfl, hb2⟩
      have hOC2 := HOC1.out.below hb2
      have hM2 := HM1.out.later (B' := _) (fun D hD => (Array.getElem?_eq_some_iff.1 (HM1.out.at_ D hD).2).1) hb2
      have hr2 := (hb2.block w.heap.size (Array.getElem?_eq_some_iff.1 HR1.out).1).trans HR1.out
      have hB2 := HB1.out.trans (hb2.mono HB1.out.size)
      have hn2 := (hb2.block wr.heap.size (by simp)).trans HN1.out
      have hst2 := HST1.out.later hb2
      clear g0 g1 g2 g3 g4 g5 g6 e0 e1 c0 c1
      by_cases hE0 : E = 0
      · subst hE0
        have hE0 := HE.out
        rw [HCE.out] at hE0
        obtain ⟨hnb, hnew, hl20, hin⟩ := cls_ok hE0
        have HIN := Lib.hid hin
        have HOC2 := Lib.hid hOC2
        have HM2 := Lib.hid hM2
        have HR2 := Lib.hid hr2
        have HB2 := Lib.hid hB2
        have HN2 := Lib.hid hn2
        have HST2 := Lib.hid hst2
        have HCSA := Lib.hid c2
        have e1 : w2.cell? ⟨wr.heap.size, 1, none⟩ = some (.slice sa c.sups.length sc) := by rw [Lib.cell_of_heap hn2]; rfl
        have HNEW := Lib.hid hnew
        have I0 : ocIn cs c.sups w2 (.slice none 0 0) (.int .i64 ((0 : Nat) : Int)) w2 := ⟨0, rfl, Nat.zero_le _, World.ownsRow_nil _ _ _ _, Below.refl _ _⟩
        have HI0 := Lib.hid I0
        clear hE0 hnb hnew hin hOC2 hM2 hr2 hB2 hn2 hst2 I0 hb2 c2
        obtain ⟨i0, hi0, hz0, hz1, hzb⟩ := info_parts Try.info3
        gi_wp2
        obtain ⟨wo, rfl⟩ : ∃ wo : World, wo = wr := ⟨_, rfl⟩
        gi_loopw [8, 38] (fun t q W => ocIn cs c.sups w2 t q W) (fun _ q _ => c.sups.length - (intOf q).toNat)
        case atStart => exact HI0.out
        case round =>
          obtain ⟨k, rfl, hk, ho, hb⟩ := hrel
          by_cases hkl : k < c.sups.length
          · have hsa := HCSA.out (by intro e; rw [e] at hkl; simp at hkl)
            subst hsa
            have hc := (HST2.out.later hb).cell k hkl
            have hsz := HST2.out.size k hkl
            have hmem := HIN.out _ (List.getElem_mem hkl)
            have hOCr := HOC2.out.below hb
            have hat := hOCr.at_ _ hmem
            have hmap := hOCr.map
            have g1 := (box_cells hOCr.box).2.1
            have htk : (c.sups.take (k + 1)).map (idxOfC cs) = (c.sups.take k).map (idxOfC cs) ++ [idxOfC cs (c.sups[k])] := by rw [← List.take_append_getElem hkl, List.map_append]; rfl
            have HTK := Lib.hid htk
            have HAT := Lib.hid hat
            have HO := Lib.hid ho
            have HBI := Lib.hid hb
            have HMP := Lib.hid hmap
            obtain ⟨nm, hnm⟩ : ∃ nm, c.sups[k] = nm := ⟨_, rfl⟩
            rw [hnm] at hc hsz HTK HAT
            clear htk hat ho hb hmap hmem hOCr hnm
            gi_wp2_with (first
              | (gi_at_lookup; refine wpListIn_lookup_own_int _ rfl _ _ 65 rfl 9 3 .i64 (string_keyed Try.underlying9) Try.underlying65 Try.underlying3 (zero3 _) (w.heap.size + 1) i D rfl HMP.out _ _ rfl (Go.WideMaps.keyOf_string_mk Try.underlying9 hsz) ?_; intro c' hat' hwc'; (obtain rfl : c' = (idxOfC cs nm : Nat) := by (rw [HAT.out] at hat'; simpa using hat'.symm)); clear hat' hwc')
              | (gi_at_builtin; refine wpListIn_append_own _ rfl _ _ 106 rfl w2.heap.size 3 i0 (.int .i64 0) 1 8 Try.underlying106 hi0 hz0 hz1 hzb rfl (by decide) _ _ _ rfl (HO.out.alloc _) ⟨wr.heap.size, 0, none⟩ 1 1 [.int .i64 (idxOfC cs nm : Nat)] rfl rfl (cell_one_new _ _ _) (by simp [Value.oneCell']) (by unfold maxLen; omega) (by omega) (by have := HBI.out.size; simp; omega) ?_; intro v' w6 hown6 hgrow6 _))
            have hb6 := (Below.refl w2.heap.size wr).alloc HBI.out.size (.cells #[.int .i64 (idxOfC cs nm : Nat)] 3) |>.grown hgrow6 (by have := HBI.out.size; simp; omega) (fun q e => (HO.out.lt q e).1)
            refine ⟨⟨k + 1, by simp only [Int.natCast_add, Int.natCast_one], by omega, by rw [HTK.out, intV_snoc]; exact hown6, HBI.out.trans hb6⟩, ?_⟩
            show c.sups.length - ((k : Int) + 1).toNat < c.sups.length - ((k : Nat) : Int).toNat
            omega
          · obtain rfl : k = c.sups.length := by omega
            obtain ⟨sa8, sc8, rfl⟩ := own_slice ho
            have htk : (c.sups.take c.sups.length).map (idxOfC cs) = supOf cs i := by rw [List.take_length]; unfold supOf; rw [HCE.out]
            rw [htk] at ho
            have hsv := SupV.of_own ho
            have hOC3 := HOC2.out.below hb
            have HOC3 := Lib.hid hOC3
            have HSD3 := Lib.hid ((Side.mk HM2.out HR2.out HB2.out HN2.out : Side w Ds wo.heap.size _ w2).below hb)
            have HSV := Lib.hid hsv
            clear hOC3 hsv ho hb htk
            obtain ⟨i106, hi6, hy0, hy1, hyb⟩ := info_parts Try.info106
            obtain ⟨i9, hi9, hx0, hx1, hxb⟩ := info_parts Try.info9
            obtain ⟨g0, g1, g2, g3, g4, g5, g6, _⟩ := box_cells HOC3.out.box
            have hlb := HSD3.out.bel.size
            have HOCa := Lib.hid (HOC3.out.below ((Below.refl wr.heap.size wr).alloc (Nat.le_refl _) (.cells #[.slice sa8 c.sups.length sc8] 106)))
            have HSDa := Lib.hid (HSD3.out.below ((Below.refl wr.heap.size wr).alloc (Nat.le_refl _) (.cells #[.slice sa8 c.sups.length sc8] 106)))
            have HSVa := Lib.hid (HSV.out.keep (KeepT.below 0 ((Below.refl wr.heap.size wr).alloc (Nat.le_refl _) (.cells #[.slice sa8 c.sups.length sc8] 106))) (by decide))
            gi_upto_region 17 with (gi_at_builtin; refine wpListIn_append_own _ rfl _ _ 66 rfl w.heap.size 106 i106 (.slice none 0 0) 1 24 Try.underlying66 hi6 hy0 hy1 hyb rfl (by decide) _ _ _ rfl HOCa.out.sups ⟨wr.heap.size, 0, none⟩ 1 1 [.slice sa8 c.sups.length sc8] rfl rfl (cell_one_new _ _ _) (by simp [Value.oneCell']) (by unfold maxLen; omega) (by omega) (by simp; omega) ?_; intro v' w3 hown3 hgrow3 _; obtain ⟨g', cap', rfl⟩ := ownsRow_succ hown3; have hbx := (KeepT.grown HOCa.out.sups hgrow3).2 _ _ HOCa.out.box (fun c f e => by cases e); have k2 := (box_cells hbx).2.2.1; have kf := (box_cells hbx).2.2.2.2.2.2.2 2; have HBX := Lib.hid hbx; have HO3 := Lib.hid hown3; have HG3 := Lib.hid hgrow3; clear hbx hown3 hgrow3)
            have HOC4 := Lib.hid (HOCa.out.pushSup HO3.out HG3.out HSVa.out)
            have HSD4 := Lib.hid (HSDa.out.push (o := 2) HOCa.out.sups (by decide) (by decide) HG3.out HBX.out (by omega) (.slice (some ⟨g', 0, none⟩) (i + 1) cap'))
            clear g0 g1 g2 g3 g4 g5 g6 k2 kf HOCa HSDa HSVa HO3 HG3 HBX hlb
            generalize (w3.setCell ⟨w.heap.size + 1 + 1, 2, none⟩ (.slice (some ⟨g', 0, none⟩) (i + 1) cap')) = w4 at *
            -- the names
            obtain ⟨g0, g1, g2, g3, g4, g5, g6, _⟩ := box_cells HOC4.out.box
            have hlb := HSD4.out.bel.size
            have e0 : w4.cell? ⟨wo.heap.size, 0, none⟩ = some (.string c.name) := by rw [Lib.cell_of_heap HSD4.out.cls]; rfl
            have HOCa := Lib.hid (HOC4.out.below ((Below.refl w4.heap.size w4).alloc (Nat.le_refl _) (.cells #[.string c.name] 9)))
            have HSDa := Lib.hid (HSD4.out.below ((Below.refl w4.heap.size w4).alloc (Nat.le_refl _) (.cells #[.string c.name] 9)))
            gi_upto_region 18 with (gi_at_builtin; refine wpListIn_append_own _ rfl _ _ 27 rfl w.heap.size 9 i9 (.string ByteArray.empty) 1 16 Try.underlying27 hi9 hx0 hx1 hxb rfl (by decide) _ _ _ rfl HOCa.out.names ⟨w4.heap.size, 0, none⟩ 1 1 [.string c.name] rfl rfl (cell_one_new _ _ _) (by simp [Value.oneCell']) (by unfold maxLen; omega) (by omega) (by simp; omega) ?_; intro v' w5 hown5 hgrow5 _; obtain ⟨g5', cap5, rfl⟩ := ownsRow_succ hown5; have hbx := (KeepT.grown HOCa.out.names hgrow5).2 _ _ HOCa.out.box (fun c f e => by cases e); have k0 := (box_cells hbx).1; have kf := (box_cells hbx).2.2.2.2.2.2.2 0; have HBX := Lib.hid hbx; have HO5 := Lib.hid hown5; have HG5 := Lib.hid hgrow5; clear hbx hown5 hgrow5)
            have HOC6 := Lib.hid (HOCa.out.pushName hil (by rw [HCI.out]; exact HO5.out) HG5.out)
            have HSD6 := Lib.hid (HSDa.out.push (o := 0) HOCa.out.names (by decide) (by decide) HG5.out HBX.out (by omega) (.slice (some ⟨g5', 0, none⟩) (i + 1) cap5))
            clear g0 g1 g2 g3 g4 g5 g6 k0 kf HOCa HSDa HO5 HG5 HBX hlb e0
            generalize (w5.setCell ⟨w.heap.size + 1 + 1, 0, none⟩ (.slice (some ⟨g5', 0, none⟩) (i + 1) cap5)) = w6 at *
            -- the map
            obtain ⟨g0, g1, g2, g3, g4, g5, g6, _⟩ := box_cells HOC6.out.box
            have e0 : w6.cell? ⟨wo.heap.size, 0, none⟩ = some (.string c.name) := by rw [Lib.cell_of_heap HSD6.out.cls]; rfl
            have hwf : (Lit.int .i64 (i : Int)).wf = true := by unfold Lit.wf; rw [Bool.and_eq_true, decide_eq_true_eq, decide_eq_true_eq]; exact ⟨by show (-9223372036854775808 : Int) ≤ _; omega, by show _ ≤ (9223372036854775807 : Int); omega⟩
            gi_upto_region 19 with (gi_at_mapUpdate; refine wpListIn_mapUpdate_own _ rfl _ _ _ 65 rfl 9 3 (string_keyed Try.underlying9) Try.underlying65 _ (w.heap.size + 1) i D rfl HOC6.out.map (by unfold maxLen; omega) _ _ _ rfl rfl (Go.WideMaps.keyOf_string_mk Try.underlying9 c4) (.lit (.int .i64 (i : Nat))) [] (plainElem_int Try.underlying3 hwf) ?_; intro w7 hmap7 hgrow7)
            have hpo : openErr (cs.take (i + 1)) = 0 := prefix_ok (by omega) (fun k hk => by
              by_cases hki : k < i
              · exact HZ.out k hki
              · obtain rfl : k = i := by omega
                exact HE.out)
            obtain ⟨es6, ck6, hm6, _⟩ := HOC6.out.map
            have HOC7 := Lib.hid (HOC6.out.pushMap hil (by rw [HCI.out]; exact HID.out hpo) (by rw [HCI.out]; exact hmap7) hgrow7)
            have HSD7 := Lib.hid (HSD6.out.map hm6 (by omega) hgrow7)
            have HPO := Lib.hid hpo
            clear g0 g1 g2 g3 g4 g5 g6 e0 hm6 hmap7 hgrow7 hpo HOC6 HSD6 HOC4 HSD4
            rw [HCI.out] at HOC7
            -- the set of those above, and what upward is called with
            have bX : Below w7.heap.size w7 (w7.alloc (.cells #[.int .u64 0, .int .u64 0, .int .u64 0, .int .u64 0, .int .u64 0] 109)) := (Below.refl _ _).alloc (Nat.le_refl _) _
            have nX := heap_alloc_new w7 (.cells #[.int .u64 0, .int .u64 0, .int .u64 0, .int .u64 0, .int .u64 0] 109)
            have zX : (w7.alloc (.cells #[.int .u64 0, .int .u64 0, .int .u64 0, .int .u64 0, .int .u64 0] 109)).heap.size = w7.heap.size + 1 := by simp
            obtain ⟨g0, g1, g2, g3, g4, g5, g6, _⟩ := box_cells (HOC7.out.below bX).box
            have HBX := Lib.hid bX
            have HNX := Lib.hid nX
            have HZX := Lib.hid zX
            clear bX nX zX
            gi_upto_region 20 with fail
            generalize w7.alloc (.cells #[.int .u64 0, .int .u64 0, .int .u64 0, .int .u64 0, .int .u64 0] 109) = w8 at *
            gi_wp2
            refine ⟨trivial, hdd _, ?_⟩
            refine (callsIn_wide.2 (upward_any _ _ _ _ _ _ _ _ _ _ _ _ _ _ _ _ _)).mono ?_
            rintro e w9 ⟨rfl, hw9⟩
            have b9 : Below w8.heap.size w8 w9 := by rw [hw9]; exact ((Below.refl _ _).alloc (Nat.le_refl _) _).alloc (by simp) _
            have z9 : w9.heap.size = w8.heap.size + 2 := by rw [hw9]; simp
            have ga9 : w9.heap[w8.heap.size]? = some (.cells #[.slice (some ⟨g5', 0, none⟩) (i + 1) cap5, .map (some (w.heap.size + 1)), .slice (some ⟨g', 0, none⟩) (i + 1) cap', .slice ba i bc, .slice none 0 0, .map none, .map none] 70 (0, 0)) := by
              rw [hw9, Below.heap_alloc _ _ _ (by simp)]; exact heap_alloc_new _ _
            have ca9 : w9.heap[w8.heap.size + 1]? = some (.cells #[.int .i64 (i : Int)] 3 (0, 0)) := by rw [hw9]; exact Go.heap_alloc2_new _ _ _
            clear hw9
            have hX9 := (b9.block w7.heap.size (by rw [HZX.out]; omega)).trans HNX.out
            have hOC9 := (HOC7.out.below HBX.out).below b9
            have hb79 := HBX.out.trans (b9.mono (by rw [HZX.out]; omega))
            have hit := upward_iter (m - 1) (i + 1) i w7.heap.size (w8.heap.size + 1) w8.heap.size cap' g' 0 (supOf (cs.take (i + 1))) w9 (by omega) (by omega) (sup_lt HPO.out) (fun k => Nat.le_trans (sup_len HPO.out k) (by omega))
              (by omega) (by rw [HZX.out]; omega) (by omega) (by rw [HZX.out]; omega) (by rw [z9, HZX.out]; omega) (by rw [Lib.cell_of_heap ca9]; rfl) (by rw [Lib.cell_of_heap ga9]; rfl) (hOC9.supAt hX9 HPO.out (by omega))
            have HIT := Lib.hid hit
            have HX9 := Lib.hid hX9
            have HB79 := Lib.hid hb79
            have HZ9 := Lib.hid z9
            clear b9 z9 ga9 ca9 hX9 hOC9 hb79 hit g0 g1 g2 g3 g4 g5 g6
            gi_wp2
            refine range_cells (a₁ := ?a1) (N := 320) rfl (by omega) (gf := 83) (lb := #[.pointer (some ⟨w8.heap.size + 1, 0, none⟩), .pointer (some ⟨w8.heap.size, 0, none⟩)]) rfl trivial (enters_of Try.func83 (by kernel_rfl) rfl) HIT.out
              KeepsC.trans (fun W l o o' _ hl hc => KeepsC.put W l o o' hl hc) (Below.refl _ _) (fun _ => rfl)
              (fun pre W => Below w7.heap.size w7 W ∧ SeenAt w7.heap.size (fun j => decide (j ∈ pre.map Fin.val)) W) (fun _ _ _ => False) ?firm ?firmx ?start ?assign ?body ?done ?stop
            case assign =>
              intro l x W K hK
              gi_wp2
              exact hK
            case firm =>
              rintro s A A' ⟨h1, h2⟩ hb
              have hx1 := HZ9.out
              have hx2 := HZX.out
              exact ⟨h1.trans (hb.mono (by omega)), h2.below hb (by omega)⟩
            case firmx => exact fun c s A A' h _ => h.elim
            case start => exact ⟨HB79.out, (SeenAt.new w9 HX9.out).congr fun j => by simp⟩
            case body =>
              rintro l pre x W ⟨h1, h2⟩ hlen
              obtain ⟨v, hv1, hv2, hv3, hv4, hv5⟩ := h2.word (j := x.val) x.isLt
              have HA := Lib.hid (add_any w7.heap.size 0 x.val v W x.isLt hv1 hv2 hv3)
              have HV5 := Lib.hid hv5
              have H1 := Lib.hid h1
              obtain ⟨xv, hxv⟩ : ∃ q, x.val = q := ⟨_, rfl⟩
              rw [hxv] at HA HV5
              have HXV := Lib.hid hxv
              rw [hxv]
              clear hv1 hv2 hv3 hv4 hv5 h1 h2 hxv
              gi_wp2
              refine ⟨trivial, hdd _, ?_⟩
              refine (CallsIn.inRound l (callsIn_wide.2 HA.out)).mono ?_
              rintro e W' ⟨rfl, hW'⟩
              have hk1 : KeepsOthers W W' := by rw [hW']; exact (KeepsOthers.setCell _ _ _).trans (ko_drewN _ 1)
              have hk2 : KeepsC w7.heap.size W W' := by rw [hW']; exact (KeepsC.store _ _ _ _).trans (KeepsC.draw _ _)
              have hk3 : Below w7.heap.size w7 W' := by rw [hW']; exact (H1.out.setCell (p := ⟨w7.heap.size, 0 + xv / 64, none⟩) (Nat.le_refl _) _).drew
              have hk4 := HV5.out
              rw [← hW'] at hk4
              have HK := Lib.hid (And.intro hk1 (And.intro hk2 (And.intro hk3 hk4)))
              clear hk1 hk2 hk3 hk4 hW'
              gi_wp2
              refine ⟨HK.out.1, HK.out.2.1, HK.out.2.2.1, HK.out.2.2.2.congr fun j => ?_⟩
              rw [Bool.eq_iff_iff, Bool.or_eq_true, decide_eq_true_eq, decide_eq_true_eq, decide_eq_true_eq, List.map_append, List.mem_append]
              simp [HXV.out]
            case stop => exact fun D c pre W _ _ h _ => h.elim
            case done =>
              rintro E0 ys W hD hS ⟨h1, h2⟩ hK
              have hz7 := HZ9.out
              have hzx := HZX.out
              have hOCw := HOC7.out.below h1
              have hSDw := HSD7.out.below h1
              have hMk : MarksAt w.heap.size (E0 :: Ds) W := ⟨List.nodup_cons.2 ⟨fun hm => by have := marks_lt HSD7.out.marks E0 hm; omega, hSDw.marks.nodup⟩, fun D hd => (by
                rcases List.mem_cons.1 hd with rfl | hd
                · exact ⟨by have := HSD7.out.bel.size; omega, hK⟩
                · exact hSDw.marks.at_ D hd)⟩
              have hSDn : Side w (E0 :: Ds) wo.heap.size _ W := ⟨hMk, hSDw.res, hSDw.bel, hSDw.cls⟩
              obtain ⟨wd, f, hX, hf⟩ := h2
              have q0 : W.cell? ⟨w7.heap.size, 0, none⟩ = some (.int .u64 (f 0)) := (Lib.cell_of_heap hX 0).trans (hf 0 (by omega)).1
              have q1 : W.cell? ⟨w7.heap.size, 1, none⟩ = some (.int .u64 (f 1)) := (Lib.cell_of_heap hX 1).trans (hf 1 (by omega)).1
              have q2 : W.cell? ⟨w7.heap.size, 2, none⟩ = some (.int .u64 (f 2)) := (Lib.cell_of_heap hX 2).trans (hf 2 (by omega)).1
              have q3 : W.cell? ⟨w7.heap.size, 3, none⟩ = some (.int .u64 (f 3)) := (Lib.cell_of_heap hX 3).trans (hf 3 (by omega)).1
              have q4 : W.cell? ⟨w7.heap.size, 4, none⟩ = some (.int .u64 (f 4)) := (Lib.cell_of_heap hX 4).trans (hf 4 (by omega)).1
              obtain ⟨g0, g1, g2, g3, g4, g5, g6, _⟩ := box_cells hOCw.box
              have hnew : ∀ q, q < 5 → ∃ z : Nat, z < 18446744073709551616 ∧ [Value.int .u64 (f 0), .int .u64 (f 1), .int .u64 (f 2), .int .u64 (f 3), .int .u64 (f 4)][q]? = some (.int .u64 z) ∧ ∀ r, r < 64 → (z.testBit r = true ↔ Reach (supOf cs) i (q * 64 + r)) := fun q hq =>
                ⟨f q, (hf q hq).2.1, (match q, hq with | 0, _ => rfl | 1, _ => rfl | 2, _ => rfl | 3, _ => rfl | 4, _ => rfl), fun r hr => by
                  rw [(hf q hq).2.2 r hr, decide_eq_true_eq, hS, reach_take HPO.out (by omega) (by omega)]⟩
              have hlb := hSDw.bel.size
              have HOCb := Lib.hid (hOCw.below ((Below.refl W.heap.size W).alloc (Nat.le_refl _) (.cells #[.int .u64 (f 0), .int .u64 (f 1), .int .u64 (f 2), .int .u64 (f 3), .int .u64 (f 4)] 109)))
              have HSDb := Lib.hid (hSDn.below ((Below.refl W.heap.size W).alloc (Nat.le_refl _) (.cells #[.int .u64 (f 0), .int .u64 (f 1), .int .u64 (f 2), .int .u64 (f 3), .int .u64 (f 4)] 109)))
              have HNEWB := Lib.hid hnew
              obtain ⟨z0, hz0'⟩ : ∃ z, f 0 = z := ⟨_, rfl⟩
              obtain ⟨z1, hz1'⟩ : ∃ z, f 1 = z := ⟨_, rfl⟩
              obtain ⟨z2, hz2'⟩ : ∃ z, f 2 = z := ⟨_, rfl⟩
              obtain ⟨z3, hz3'⟩ : ∃ z, f 3 = z := ⟨_, rfl⟩
              obtain ⟨z4, hz4'⟩ : ∃ z, f 4 = z := ⟨_, rfl⟩
              rw [hz0', hz1', hz2', hz3', hz4'] at HOCb HSDb HNEWB
              rw [hz0'] at q0
              rw [hz1'] at q1
              rw [hz2'] at q2
              rw [hz3'] at q3
              rw [hz4'] at q4
              obtain ⟨i109, hia, hw0, hw1, hwb⟩ := info_parts Try.info109
              clear hz0' hz1' hz2' hz3' hz4' hf hX hnew hOCw hSDw hSDn hMk h1 hS hK hz7 hzx
              gi_upto_region 24 with (gi_at_builtin; refine wpListIn_append_own _ rfl _ _ 67 rfl w.heap.size 109 i109 (.agg #[.int .u64 0, .int .u64 0, .int .u64 0, .int .u64 0, .int .u64 0]) 5 40 Try.underlying67 hia hw0 hw1 hwb rfl (by decide) _ _ _ rfl HOCb.out.abv ⟨W.heap.size, 0, none⟩ 1 1 [.int .u64 (z0 : Nat), .int .u64 (z1 : Nat), .int .u64 (z2 : Nat), .int .u64 (z3 : Nat), .int .u64 (z4 : Nat)] rfl rfl (cell_five_new _ _ _ _ _ _ _) (by simp [Value.oneCell']) (by unfold maxLen; omega) (by omega) (by simp; omega) ?_; intro v' w10 hown10 hgrow10 _; obtain ⟨g10, cap10, rfl⟩ := ownsRow_succ hown10; have hbx := (KeepT.grown HOCb.out.abv hgrow10).2 _ _ HOCb.out.box (fun c f e => by cases e); have k3 := (box_cells hbx).2.2.2.1; have kf := (box_cells hbx).2.2.2.2.2.2.2 3; have HBX10 := Lib.hid hbx; have HO10 := Lib.hid hown10; have HG10 := Lib.hid hgrow10; clear hbx hown10 hgrow10)
              have HOCz := Lib.hid (HOCb.out.pushAbv HO10.out HG10.out HNEWB.out)
              have HSDz := Lib.hid (HSDb.out.push (o := 3) HOCb.out.abv (by decide) (by decide) HG10.out HBX10.out (by omega) (.slice (some ⟨g10, 0, none⟩) (i + 1) cap10))
              clear g0 g1 g2 g3 g4 g5 g6 k3 kf q0 q1 q2 q3 q4 HOCb HSDb HNEWB HO10 HG10 HBX10 hlb
              generalize (w10.setCell ⟨w.heap.size + 1 + 1, 3, none⟩ (.slice (some ⟨g10, 0, none⟩) (i + 1) cap10)) = wz at *
              gi_wp2
              refine ⟨rfl, ⟨i + 1, _, _, _, _, _, _, E0 :: Ds, ?_, by omega, rfl, HSDz.out.marks, HOCz.out, HSDz.out.bel, fun k hk => ?_, HSDz.out.res⟩, ?_⟩
              · show Value.int .i64 ((i : Int) + 1) = _
                simp only [Int.natCast_add, Int.natCast_one]
              · by_cases hki : k < i
                · exact HZ.out k hki
                · obtain rfl : k = i := by omega
                  exact HE.out
              · show cs.length - (intOf (Value.int .i64 ((i : Int) + 1))).toNat < cs.length - i
                simp only [intOf]
                omega
      · have hE1 : (E == 0) = false := by simpa using hE0
        have hE2 : (E != 0) = true := by simpa using hE0
        have hoE := openErr_of (by omega) hil HZ.out (by rw [HE.out]; exact hE0)
        rw [HE.out] at hoE
        have hf := store7_block hr2 (.slice none 0 0) (.map none) (.slice none 0 0) (.slice none 0 0) (.slice none 0 0) (.map none) (.map none)
        have hmk7 := store7_marks hM2 hr2 (.slice none 0 0) (.map none) (.slice none 0 0) (.slice none 0 0) (.slice none 0 0) (.map none) (.map none)
        have hb7 := store7_below hB2 w.heap.size (Nat.le_refl _) (.slice none 0 0) (.map none) (.slice none 0 0) (.slice none 0 0) (.slice none 0 0) (.map none) (.map none)
        obtain ⟨q0, q1, q2, q3, q4, q5, q6, qf⟩ := box_cells hr2
        have f0 := qf 0
        have f1 := qf 1
        have f2 := qf 2
        have f3 := qf 3
        have f4 := qf 4
        have f5 := qf 5
        have f6 := qf 6
        have HF := Lib.hid hf
        have HM7 := Lib.hid hmk7
        have HB7 := Lib.hid hb7
        have HO := Lib.hid hoE
        have HNE := Lib.hid hE0
        clear hf hmk7 hb7 hoE qf hOC2 hB2 hM2 hr2 hn2 hst2 hmk hb2 hE0 c2
        gi_wp2
        (try simp only [Exit.inBlock, Exit.then])
        show LeavesInM _ _ _ _ _ _ (marksOf Ds) _ (store7 w2 w.heap.size (.slice none 0 0) (.map none) (.slice none 0 0) (.slice none 0 0) (.slice none 0 0) (.map none) (.map none))
        refine leave_alg (B := w.heap.size) (g := w.heap.size) (v3 := .int .i64 E) HM7.out rfl rfl HF.out fun W' hb hk => .inl ⟨by rw [HO.out]; exact HNE.out, by rw [HO.out]; rfl, HB7.out.trans hb⟩
    · obtain rfl : i = cs.length := by omega
      have hO := openErr_zero (by omega) hz
      have hf := store7_block hr (.slice na cs.length nc) (.map (some (w.heap.size + 1))) (.slice ua cs.length uc) (.slice ba cs.length bc) (.slice none 0 0) (.map none) (.map none)
      have hmk7 := store7_marks hM hr (.slice na cs.length nc) (.map (some (w.heap.size + 1))) (.slice ua cs.length uc) (.slice ba cs.length bc) (.slice none 0 0) (.map none) (.map none)
      have hb7 := store7_below hB w.heap.size (Nat.le_refl _) (.slice na cs.length nc) (.map (some (w.heap.size + 1))) (.slice ua cs.length uc) (.slice ba cs.length bc) (.slice none 0 0) (.map none) (.map none)
      have hoc7 := hOC.move (W' := store7 wr w.heap.size (.slice na cs.length nc) (.map (some (w.heap.size + 1))) (.slice ua cs.length uc) (.slice ba cs.length bc) (.slice none 0 0) (.map none) (.map none))
        (fun b o hb ho => (store7_other wr w.heap.size b (by rintro rfl; rw [hr] at hb; cases hb; rcases ho with ⟨c, t, f, h, ht⟩ | ⟨es, k, h⟩ <;> cases h; exact ht rfl) (.slice na cs.length nc) (.map (some (w.heap.size + 1))) (.slice ua cs.length uc) (.slice ba cs.length bc) (.slice none 0 0) (.map none) (.map none)).trans hb)
        ((store7_other wr w.heap.size _ (by omega) (.slice na cs.length nc) (.map (some (w.heap.size + 1))) (.slice ua cs.length uc) (.slice ba cs.length bc) (.slice none 0 0) (.map none) (.map none)).trans hOC.box)
      obtain ⟨g0, g1, g2, g3, g4, g5, g6, _⟩ := box_cells hOC.box
      obtain ⟨q0, q1, q2, q3, q4, q5, q6, qf⟩ := box_cells hr
      have f0 := qf 0
      have f1 := qf 1
      have f2 := qf 2
      have f3 := qf 3
      have f4 := qf 4
      have f5 := qf 5
      have f6 := qf 6
      have HF := Lib.hid hf
      have HM7 := Lib.hid hmk7
      have HB7 := Lib.hid hb7
      have HOC7 := Lib.hid hoc7
      have HO := Lib.hid hO
      clear hf hmk7 hb7 hoc7 hO qf hOC hB hM hz hr hmk
      gi_wp2
      (try simp only [Exit.inBlock, Exit.then])
      show LeavesInM _ _ _ _ _ _ (marksOf Ds) _ (store7 wr w.heap.size (.slice na cs.length nc) (.map (some (w.heap.size + 1))) (.slice ua cs.length uc) (.slice ba cs.length bc) (.slice none 0 0) (.map none) (.map none))
      refine leave_alg (B := w.heap.size) (g := w.heap.size) (v3 := .int .i64 0) HM7.out rfl rfl HF.out fun W' hb hk => .inr ⟨HO.out, _, _, _, _, _, D, us, ws, rfl, HOC7.out.nd hk, HB7.out.trans hb⟩

theorem openClasses_any (cb co cc : Nat) (ca : Option Addr) (cs : List Cls) (w : World) (hca : cs ≠ [] → ca = some ⟨cb, co, none⟩) (hcs : ClassesAt w cb co cs) (hl : cs.length ≤ maxLen) :
    Calls Try.prog 41 #[.slice ca cs.length cc] w fun e w' =>
      (openErr cs ≠ 0 ∧ e = .returned (.tuple #[zeroAlg, .int .i64 (openErr cs)]) ∧ Below w.heap.size w w') ∨
      (openErr cs = 0 ∧ ∃ (vn vu va : Value) (G mb : Nat) (D : DataW Unit) (us ws : List Value), e = .returned (.tuple #[.agg #[vn, .map (some mb), vu, va, .slice none 0 0, .map none, .map none], .int .i64 0]) ∧
        OC cs w.heap.size G mb cs.length cs.length cs.length cs.length w' vn vu va D us ws ∧ Below w.heap.size w w') :=
  callsIn_wide.1 (openClasses_in 6 cb co cc ca cs w (Nat.le_refl _) hca hcs hl)
end Go.Proofs.Ytlaibimdkamcfaa
end

