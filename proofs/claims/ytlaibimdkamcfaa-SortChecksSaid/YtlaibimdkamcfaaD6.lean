/-
  The state of openClasses between two classes, and what its steps do to it.
-/
import Derived.Test.YtlaibimdkamcfaaD4
import Derived.Test.YtlaibimdkamcfaaB4
import Derived.Test.YtlaibimdkamcfaaD2
import Derived.Test.YtlaibimdkamcfaaM3
namespace Go.Proofs.Ytlaibimdkamcfaa
open Go.RowKit Go.Maps

/-- Whatever is no row of one type lies as it lay. -/
def KeepT (t : TypeId) (A B : World) : Prop := A.heap.size ≤ B.heap.size ∧ ∀ (b : Nat) (o : Obj), A.heap[b]? = some o → (∀ c f, o ≠ .cells c t f) → B.heap[b]? = some o

theorem KeepT.below (t : TypeId) {A B : World} (h : Below A.heap.size A B) : KeepT t A B := ⟨h.size, fun b o ho _ => (h.block b (Array.getElem?_eq_some_iff.1 ho).1).trans ho⟩
theorem KeepT.trans {t : TypeId} {A B C : World} (h : KeepT t A B) (k : KeepT t B C) : KeepT t A C := ⟨Nat.le_trans h.1 k.1, fun b o ho hn => k.2 b o (h.2 b o ho hn) hn⟩
theorem KeepT.grown {t : TypeId} {A B : World} {v : Value} {base size n : Nat} {xs : List Value} (ho : A.ownsRow base t size v n xs) (hg : A.grownBy B v.ownBlock) : KeepT t A B := by
  refine ⟨hg.size, fun b o hb hn => (hg.block b (Array.getElem?_eq_some_iff.1 hb).1 fun e => ?_).trans hb⟩
  rcases ho.2 with ⟨rfl, _⟩ | ⟨g, cap, cur, rfl, _, hh, _⟩
  · cases e
  · simp only [Value.ownBlock, Option.some.injEq] at e
    subst e
    rw [hh] at hb
    cases hb
    exact hn _ _ rfl
theorem KeepT.store {t : TypeId} {A : World} {g o : Nat} {c : Array Value} {f : Nat × Nat} (h : A.heap[g]? = some (.cells c t f)) (v : Value) : KeepT t A (A.setCell ⟨g, o, none⟩ v) := by
  refine ⟨by simp, fun b p hb hn => (Below.heap_setCell A ⟨g, o, none⟩ v b fun e => ?_).trans hb⟩
  have e' : b = g := e
  subst e'
  rw [h] at hb
  cases hb
  exact hn _ _ rfl

theorem KeepT.own {t e : TypeId} {A B : World} (h : KeepT t A B) (hne : e ≠ t) {base size n : Nat} {v : Value} {xs : List Value} (ho : A.ownsRow base e size v n xs) : B.ownsRow base e size v n xs := by
  refine ⟨ho.1, ?_⟩
  rcases ho.2 with h0 | ⟨g, cap, cur, rfl, hg, hh, rest⟩
  · exact .inl h0
  · exact .inr ⟨g, cap, cur, rfl, hg, h.2 g _ hh (fun c f e' => by cases e'; exact hne rfl), rest⟩

theorem KeepT.map {t : TypeId} {A B : World} (h : KeepT t A B) {mb n : Nat} {D : DataW Unit} (hm : A.ownsMap Try.prog 9 (plainElem (H := Unit) Try.prog 3) mb n D) : B.ownsMap Try.prog 9 (plainElem (H := Unit) Try.prog 3) mb n D := by
  obtain ⟨es, clock, h1, h2⟩ := hm
  exact ⟨es, clock, h.2 mb _ h1 (fun c f e => by cases e), h2⟩

theorem KeepT.marks {t : TypeId} {A C : World} (h : KeepT t A C) {B : Nat} {Ds : List Nat} (hm : MarksAt B Ds A) : MarksAt B Ds C :=
  ⟨hm.nodup, fun D hD => ⟨(hm.at_ D hD).1, h.2 D _ (hm.at_ D hD).2 (fun c f e => by cases e)⟩⟩

/-- Numbers in a row of memory. -/
def SupV (l : List Nat) (W : World) (v : Value) : Prop :=
  ∃ (a : Option Addr) (b o c : Nat), v = .slice a l.length c ∧ (l ≠ [] → a = some ⟨b, o, none⟩ ∧ ∃ cs f, W.heap[b]? = some (.cells cs 3 f)) ∧ ∀ j (h : j < l.length), W.cell? ⟨b, o + j, none⟩ = some (.int .i64 (l[j] : Nat))

theorem SupV.keep {t : TypeId} {A B : World} (h : KeepT t A B) (ht : (3 : TypeId) ≠ t) {l : List Nat} {v : Value} (hs : SupV l A v) : SupV l B v := by
  obtain ⟨a, b, o, c, rfl, h1, h2⟩ := hs
  refine ⟨a, b, o, c, rfl, fun hn => ?_, fun j hj => ?_⟩
  · obtain ⟨e, cs, f, hh⟩ := h1 hn
    exact ⟨e, cs, f, h.2 b _ hh (fun c f e => by cases e; exact ht rfl)⟩
  · obtain ⟨e, cs, f, hh⟩ := h1 (by intro e; subst e; simp at hj)
    have := h.2 b _ hh (fun c f e => by cases e; exact ht rfl)
    exact (cell_of_block (this.trans hh.symm)).trans (h2 j hj)

/-- A row of numbers that is owned. -/
theorem SupV.of_own {W : World} {base n : Nat} {v : Value} {l : List Nat} (h : W.ownsRow base 3 1 v n (intV l)) : SupV l W v := by
  have hl : l.length = n := by have := h.1; simpa [intV] using this
  rcases h.2 with ⟨rfl, h0⟩ | ⟨g, cap, cur, rfl, _, hg, _, _, _, ht⟩
  · have : l = [] := List.eq_nil_of_length_eq_zero (by omega)
    subst this
    exact ⟨none, 0, 0, 0, rfl, fun h => absurd rfl h, fun j hj => by simp at hj⟩
  · subst hl
    refine ⟨_, g, 0, cap, rfl, fun _ => ⟨rfl, _, _, hg⟩, fun j hj => ?_⟩
    rw [Lib.cell_of_heap hg, Nat.zero_add]
    rw [Nat.mul_one] at ht
    have h2 : (cur.toList.take l.length)[j]? = (intV l)[j]? := by rw [ht]
    rw [List.getElem?_take_of_lt hj] at h2
    simpa [intV, hj] using h2

/-- openClasses has read k classes; s of them have their supers, m of them are in the map, a of them have their sets. -/
structure OC (cs : List Cls) (B G mb kn ks ka km : Nat) (W : World) (vn vu va : Value) (D : DataW Unit) (us ws : List Value) : Prop where
  box : W.heap[G]? = some (.cells #[vn, .map (some mb), vu, va, .slice none 0 0, .map none, .map none] 70 (0, 0))
  names : W.ownsRow B 9 1 vn kn ((namesOf (cs.take kn)).map Value.string)
  sups : W.ownsRow B 106 1 vu ks us
  supv : ∀ k, k < ks → ∃ u, us[k]? = some u ∧ SupV (supOf cs k) W u
  abv : W.ownsRow B 109 5 va ka ws
  bits : ∀ k, k < ka → ∀ q, q < 5 → ∃ f : Nat, f < 18446744073709551616 ∧ ws[k * 5 + q]? = some (.int .u64 f) ∧ ∀ r, r < 64 → (f.testBit r = true ↔ Reach (supOf cs) k (q * 64 + r))
  map : W.ownsMap Try.prog 9 (plainElem (H := Unit) Try.prog 3) mb km D
  has : ∀ s : ByteArray, Maps.has D (.string s.data.toList) = true ↔ s ∈ namesOf (cs.take km)
  at_ : ∀ s : ByteArray, s ∈ namesOf (cs.take km) → D.atKey (.string s.data.toList) (.lit (.int .i64 0)) = .lit (.int .i64 (idxOfC cs s))
  lt : B ≤ G ∧ B ≤ mb
  isMap : Maps.IsMap D

variable {cs : List Cls} {B G mb kn ks ka km : Nat} {W : World} {vn vu va : Value} {D : DataW Unit} {us ws : List Value}

theorem OC.move (h : OC cs B G mb kn ks ka km W vn vu va D us ws) {W' : World} (hk : ∀ (b : Nat) (o : Obj), W.heap[b]? = some o → ((∃ c t f, o = .cells c t f ∧ t ≠ 70) ∨ ∃ es k, o = .map es k) → W'.heap[b]? = some o)
    (hbox : W'.heap[G]? = some (.cells #[vn, .map (some mb), vu, va, .slice none 0 0, .map none, .map none] 70 (0, 0))) : OC cs B G mb kn ks ka km W' vn vu va D us ws := by
  have hc : ∀ (b : Nat) (c : Array Value) (t : TypeId) (f : Nat × Nat), t ≠ 70 → W.heap[b]? = some (.cells c t f) → W'.heap[b]? = some (.cells c t f) := fun b c t f ht hb => hk b _ hb (.inl ⟨_, _, _, rfl, ht⟩)
  have hown : ∀ {base e size n : Nat} {v : Value} {xs : List Value}, e ≠ 70 → W.ownsRow base e size v n xs → W'.ownsRow base e size v n xs := fun {base e size n v xs} ht ho => by
    refine ⟨ho.1, ?_⟩
    rcases ho.2 with h0 | ⟨g, cap, cur, rfl, hg', hh, rest⟩
    · exact .inl h0
    · exact .inr ⟨g, cap, cur, rfl, hg', hc _ _ _ _ ht hh, rest⟩
  refine ⟨hbox, hown (by decide) h.names, hown (by decide) h.sups, fun k hk => ?_, hown (by decide) h.abv, h.bits, ?_, h.has, h.at_, h.lt, h.isMap⟩
  · obtain ⟨u, hu, a, b, o, c, rfl, h1, h2⟩ := h.supv k hk
    refine ⟨_, hu, a, b, o, c, rfl, fun hn => ?_, fun j hj => ?_⟩
    · obtain ⟨e, cs', f, hh⟩ := h1 hn
      exact ⟨e, cs', f, hc _ _ _ _ (by decide) hh⟩
    · obtain ⟨e, cs', f, hh⟩ := h1 (by intro e; rw [e] at hj; simp at hj)
      exact (cell_of_block ((hc _ _ _ _ (by decide) hh).trans hh.symm)).trans (h2 j hj)
  · obtain ⟨es, clock, h1, h2⟩ := h.map
    exact ⟨es, clock, hk mb _ h1 (.inr ⟨_, _, rfl⟩), h2⟩

theorem OC.nd (h : OC cs B G mb kn ks ka km W vn vu va D us ws) {W' : World} (hk : KeepsND W W') : OC cs B G mb kn ks ka km W' vn vu va D us ws :=
  h.move (fun b o hb ho => hk.same b o hb (by rcases ho with ⟨c, t, f, rfl, _⟩ | ⟨es, k, rfl⟩ <;> (intro ds e; cases e))) (hk.same G _ h.box (fun ds e => by cases e))

theorem OC.below (h : OC cs B G mb kn ks ka km W vn vu va D us ws) {W' : World} (hb : Below W.heap.size W W') : OC cs B G mb kn ks ka km W' vn vu va D us ws :=
  ⟨(hb.block G (Array.getElem?_eq_some_iff.1 h.box).1).trans h.box, (KeepT.below 0 hb).own (by decide) h.names, (KeepT.below 0 hb).own (by decide) h.sups, fun k hk => (by obtain ⟨u, hu, hv⟩ := h.supv k hk; exact ⟨u, hu, hv.keep (KeepT.below 0 hb) (by decide)⟩),
    (KeepT.below 0 hb).own (by decide) h.abv, h.bits, (KeepT.below 0 hb).map h.map, h.has, h.at_, h.lt, h.isMap⟩

theorem OC.pushSup (h : OC cs B G mb kn ks ka km W vn vu va D us ws) {W' : World} {v' x : Value} (hown : W'.ownsRow B 106 1 v' (ks + 1) (us ++ [x])) (hg : W.grownBy W' vu.ownBlock) (hx : SupV (supOf cs ks) W x) :
    OC cs B G mb kn (ks + 1) ka km (W'.setCell ⟨G, 2, none⟩ v') vn v' va D (us ++ [x]) ws := by
  have h1 := KeepT.grown h.sups hg
  have hbox := h1.2 G _ h.box (fun c f e => by cases e)
  have h2 : KeepT 70 W' (W'.setCell ⟨G, 2, none⟩ v') := KeepT.store hbox v'
  have hlu : us.length = ks := by have := h.sups.1; omega
  refine ⟨Go.heap_setCell_same _ _ 2 _ 70 v' hbox, h2.own (by decide) (h1.own (by decide) h.names), h2.own (by decide) hown, fun k hk => ?_, h2.own (by decide) (h1.own (by decide) h.abv), h.bits, h2.map (h1.map h.map), h.has, h.at_, h.lt, h.isMap⟩
  by_cases hks : k < ks
  · obtain ⟨u, hu, hs⟩ := h.supv k hks
    exact ⟨u, by rw [List.getElem?_append_left (by omega)]; exact hu, (hs.keep h1 (by decide)).keep h2 (by decide)⟩
  · obtain rfl : k = ks := by omega
    exact ⟨x, by rw [List.getElem?_append_right (by omega), hlu]; simp, (hx.keep h1 (by decide)).keep h2 (by decide)⟩

theorem OC.pushName (h : OC cs B G mb kn ks ka km W vn vu va D us ws) {W' : World} {v' : Value} (hk : kn < cs.length) (hown : W'.ownsRow B 9 1 v' (kn + 1) ((namesOf (cs.take kn)).map Value.string ++ [.string (cs[kn]).name])) (hg : W.grownBy W' vn.ownBlock) :
    OC cs B G mb (kn + 1) ks ka km (W'.setCell ⟨G, 0, none⟩ v') v' vu va D us ws := by
  have h1 := KeepT.grown h.names hg
  have hbox := h1.2 G _ h.box (fun c f e => by cases e)
  have h2 : KeepT 70 W' (W'.setCell ⟨G, 0, none⟩ v') := KeepT.store hbox v'
  have e : (namesOf (cs.take (kn + 1))).map Value.string = (namesOf (cs.take kn)).map Value.string ++ [.string (cs[kn]).name] := by
    rw [← List.take_append_getElem hk]; unfold namesOf; rw [List.map_append, List.map_append]; rfl
  refine ⟨Go.heap_setCell_same _ _ 0 _ 70 v' hbox, h2.own (by decide) (by rw [e]; exact hown), h2.own (by decide) (h1.own (by decide) h.sups), fun k hk => ?_, h2.own (by decide) (h1.own (by decide) h.abv), h.bits, h2.map (h1.map h.map), h.has, h.at_, h.lt, h.isMap⟩
  obtain ⟨u, hu, hs⟩ := h.supv k hk
  exact ⟨u, hu, (hs.keep h1 (by decide)).keep h2 (by decide)⟩

theorem OC.pushAbv (h : OC cs B G mb kn ks ka km W vn vu va D us ws) {W' : World} {v' : Value} {new : List Value} (hown : W'.ownsRow B 109 5 v' (ka + 1) (ws ++ new)) (hg : W.grownBy W' va.ownBlock)
    (hn : ∀ q, q < 5 → ∃ f : Nat, f < 18446744073709551616 ∧ new[q]? = some (.int .u64 f) ∧ ∀ r, r < 64 → (f.testBit r = true ↔ Reach (supOf cs) ka (q * 64 + r))) :
    OC cs B G mb kn ks (ka + 1) km (W'.setCell ⟨G, 3, none⟩ v') vn vu v' D us (ws ++ new) := by
  have h1 := KeepT.grown h.abv hg
  have hbox := h1.2 G _ h.box (fun c f e => by cases e)
  have h2 : KeepT 70 W' (W'.setCell ⟨G, 3, none⟩ v') := KeepT.store hbox v'
  have hlw : ws.length = ka * 5 := h.abv.1
  refine ⟨Go.heap_setCell_same _ _ 3 _ 70 v' hbox, h2.own (by decide) (h1.own (by decide) h.names), h2.own (by decide) (h1.own (by decide) h.sups), fun k hk => ?_, h2.own (by decide) hown, fun k hk q hq => ?_, h2.map (h1.map h.map), h.has, h.at_, h.lt, h.isMap⟩
  · obtain ⟨u, hu, hs⟩ := h.supv k hk
    exact ⟨u, hu, (hs.keep h1 (by decide)).keep h2 (by decide)⟩
  · by_cases hka : k < ka
    · obtain ⟨f, h1, h2, h3⟩ := h.bits k hka q hq
      exact ⟨f, h1, by rw [List.getElem?_append_left (by omega)]; exact h2, h3⟩
    · obtain rfl : k = ka := by omega
      obtain ⟨f, h1, h2, h3⟩ := hn q hq
      exact ⟨f, h1, by rw [List.getElem?_append_right (by omega), show k * 5 + q - ws.length = q by omega]; exact h2, h3⟩

theorem names_succ {k : Nat} (hk : k < cs.length) : namesOf (cs.take (k + 1)) = namesOf (cs.take k) ++ [(cs[k]).name] := by
  rw [← List.take_append_getElem hk]; unfold namesOf; rw [List.map_append]; rfl

theorem idx_at (hO : openErr cs = 0) {k : Nat} (hk : k < cs.length) : idxOfC cs (cs[k]).name = k := by
  have hm : knownB cs (cs[k]).name = true := by
    unfold knownB
    simp only [decide_eq_true_eq]
    unfold namesOf
    exact List.mem_map_of_mem (List.getElem_mem hk)
  have h1 := idx_get hm
  have hn := names_nodup hO
  rw [List.nodup_iff_pairwise_ne, List.pairwise_iff_getElem] at hn
  have hl := idx_lt hm
  rcases Nat.lt_trichotomy (idxOfC cs (cs[k]).name) k with h | h | h
  · exact absurd (by rw [namesOf_get hl, namesOf_get hk]; exact h1) (hn _ _ (by rw [namesOf_length]; exact hl) (by rw [namesOf_length]; exact hk) h)
  · exact h
  · exact absurd (by rw [namesOf_get hl, namesOf_get hk]; exact h1.symm) (hn _ _ (by rw [namesOf_length]; exact hk) (by rw [namesOf_length]; exact hl) h)

theorem OC.pushMap (h : OC cs B G mb kn ks ka km W vn vu va D us ws) (hk : km < cs.length) {W' : World} (hi : idxOfC cs (cs[km]).name = km)
    (hmap : W'.ownsMap Try.prog 9 (plainElem (H := Unit) Try.prog 3) mb (km + 1) (D.put (.string (cs[km]).name.data.toList) (.lit (.int .i64 (km : Nat))))) (hg : W.grownBy W' (some mb)) :
    OC cs B G mb kn ks ka (km + 1) W' vn vu va (D.put (.string (cs[km]).name.data.toList) (.lit (.int .i64 (km : Nat)))) us ws := by
  obtain ⟨es, clock, hm0, _⟩ := h.map
  have hc : ∀ (b : Nat) (c : Array Value) (t : TypeId) (f : Nat × Nat), W.heap[b]? = some (.cells c t f) → W'.heap[b]? = some (.cells c t f) := fun b c t f hb =>
    (hg.block b (Array.getElem?_eq_some_iff.1 hb).1 (fun e => by simp only [Option.some.injEq] at e; subst e; rw [hm0] at hb; cases hb)).trans hb
  have hown : ∀ {base e size n : Nat} {v : Value} {xs : List Value}, W.ownsRow base e size v n xs → W'.ownsRow base e size v n xs := fun {base e size n v xs} ho => by
    refine ⟨ho.1, ?_⟩
    rcases ho.2 with h0 | ⟨g, cap, cur, rfl, hg', hh, rest⟩
    · exact .inl h0
    · exact .inr ⟨g, cap, cur, rfl, hg', hc _ _ _ _ hh, rest⟩
  refine ⟨hc _ _ _ _ h.box, hown h.names, hown h.sups, fun k hk => ?_, hown h.abv, h.bits, hmap, fun s => ?_, fun s hs => ?_, h.lt, h.isMap.put _ _⟩
  · obtain ⟨u, hu, a, b, o, c, rfl, h1, h2⟩ := h.supv k hk
    refine ⟨_, hu, a, b, o, c, rfl, fun hn => ?_, fun j hj => ?_⟩
    · obtain ⟨e, cs', f, hh⟩ := h1 hn
      exact ⟨e, cs', f, hc _ _ _ _ hh⟩
    · obtain ⟨e, cs', f, hh⟩ := h1 (by intro e; rw [e] at hj; simp at hj)
      exact (cell_of_block ((hc _ _ _ _ hh).trans hh.symm)).trans (h2 j hj)
  · rw [names_succ hk]
    by_cases e : s = (cs[km]).name
    · rw [e, Maps.has_put_same h.isMap (by exact trivial)]
      simp
    · rw [Maps.has_put_other (by intro e'; simp only [Lit.string.injEq] at e'; exact e (data_inj e')), h.has s]
      simp [e]
  · rw [names_succ hk] at hs
    by_cases e : s = (cs[km]).name
    · rw [e, Maps.atKey_put_same h.isMap (by exact trivial), hi]
    · rw [Maps.atKey_put_other (by intro e'; simp only [Lit.string.injEq] at e'; exact e (data_inj e'))]
      refine h.at_ s ?_
      simpa [e] using hs

theorem own_get {W : World} {base e n g cap : Nat} {l : List Value} (h : W.ownsRow base e 1 (.slice (some ⟨g, 0, none⟩) n cap) n l) {k : Nat} {u : Value} (hk : k < n) (hu : l[k]? = some u) : W.cell? ⟨g, k, none⟩ = some u := by
  rcases h.2 with ⟨h0, _⟩ | ⟨g', cap', cur, hv, _, hg, _, _, _, ht⟩
  · cases h0
  · cases hv
    rw [Lib.cell_of_heap hg]
    rw [Nat.mul_one] at ht
    rw [← ht, List.getElem?_take_of_lt hk] at hu
    simpa using hu
theorem own_block {W : World} {base e n g cap sz : Nat} {l : List Value} (h : W.ownsRow base e sz (.slice (some ⟨g, 0, none⟩) n cap) n l) : ∃ cur, W.heap[g]? = some (.cells cur e (0, 0)) := by
  rcases h.2 with ⟨h0, _⟩ | ⟨g', cap', cur, hv, _, hg, _, _, _, ht⟩
  · cases h0
  · cases hv
    exact ⟨_, hg⟩

/-- The supers in memory, as upward's iterator wants them. -/
theorem OC.supAt {g cap x : Nat} (h : OC cs B G mb kn ks ka km W vn (.slice (some ⟨g, 0, none⟩) ks cap) va D us ws) {c : Array Value} {f : Nat × Nat} (hx : W.heap[x]? = some (.cells c 109 f)) (hO : openErr (cs.take ks) = 0) (hks : ks ≤ cs.length) :
    SupAt (supOf (cs.take ks)) ks x W.heap.size W g 0 := by
  obtain ⟨cur, hg⟩ := own_block h.sups
  refine ⟨fun _ => ⟨(Array.getElem?_eq_some_iff.1 hg).1, by rintro rfl; rw [hx] at hg; cases hg⟩, fun i hi => ?_⟩
  obtain ⟨u, hu, a, b, o, c', rfl, h1, h2⟩ := h.supv i hi
  rw [sup_take hO hi hks, Nat.zero_add]
  refine ⟨a, b, o, c', own_get h.sups hi hu, fun hn => ?_, h2⟩
  obtain ⟨e, cs', f', hb⟩ := h1 hn
  exact ⟨e, (Array.getElem?_eq_some_iff.1 hb).1, by rintro rfl; rw [hx] at hb; cases hb⟩

/-- What else lies there in the midst of a round: the marks, the result's box, the class's box. -/
structure Side (w : World) (Ds : List Nat) (xb : Nat) (xs : Array Value) (W : World) : Prop where
  marks : MarksAt w.heap.size Ds W
  res : W.heap[w.heap.size]? = some (.cells #[.slice none 0 0, .map none, .slice none 0 0, .slice none 0 0, .slice none 0 0, .map none, .map none] 70 (0, 0))
  bel : Below w.heap.size w W
  cls : W.heap[xb]? = some (.cells xs 60 (0, 0))

theorem marks_lt {B : Nat} {Ds : List Nat} {W : World} (h : MarksAt B Ds W) : ∀ D, D ∈ Ds → D < W.heap.size := fun D hD => (Array.getElem?_eq_some_iff.1 (h.at_ D hD).2).1

theorem Side.below {w W W' : World} {Ds : List Nat} {xb : Nat} {xs : Array Value} (h : Side w Ds xb xs W) (hb : Below W.heap.size W W') : Side w Ds xb xs W' :=
  ⟨h.marks.later (marks_lt h.marks) hb, (hb.block _ (Array.getElem?_eq_some_iff.1 h.res).1).trans h.res, h.bel.trans (hb.mono h.bel.size), (hb.block _ (Array.getElem?_eq_some_iff.1 h.cls).1).trans h.cls⟩

theorem Side.push {w W W' : World} {Ds : List Nat} {xb : Nat} {xs : Array Value} (h : Side w Ds xb xs W) {t : TypeId} {size n : Nat} {v : Value} {l : List Value} (ho : W.ownsRow w.heap.size t size v n l) (ht : (70 : TypeId) ≠ t) (ht' : (60 : TypeId) ≠ t)
    (hg : W.grownBy W' v.ownBlock) {G o : Nat} {c : Array Value} {f : Nat × Nat} (hG : W'.heap[G]? = some (.cells c 70 f)) (hlt : w.heap.size < G) (v' : Value) : Side w Ds xb xs (W'.setCell ⟨G, o, none⟩ v') := by
  have h1 := KeepT.grown ho hg
  have hne : w.heap.size ≠ G := by omega
  refine ⟨(KeepT.store hG v').marks (h1.marks h.marks), ?_, (h.bel.grown hg h.bel.size (fun k e => (ho.lt k e).1)).setCell (p := ⟨G, o, none⟩) (by show w.heap.size ≤ G; omega) v', ?_⟩
  · exact (Below.heap_setCell W' ⟨G, o, none⟩ v' _ hne).trans (h1.2 _ _ h.res (fun c f e => by cases e; exact ht rfl))
  · have hx := h1.2 _ _ h.cls (fun c f e => by cases e; exact ht' rfl)
    exact (KeepT.store hG v').2 _ _ hx (fun c f e => by cases e)

theorem Side.map {w W W' : World} {Ds : List Nat} {xb : Nat} {xs : Array Value} (h : Side w Ds xb xs W) {mb clock : Nat} {es : Array MapEntry} (hm : W.heap[mb]? = some (.map es clock)) (hmb : w.heap.size ≤ mb) (hg : W.grownBy W' (some mb)) : Side w Ds xb xs W' := by
  have hk : ∀ (b : Nat) (o : Obj), W.heap[b]? = some o → (∀ es k, o ≠ .map es k) → W'.heap[b]? = some o := fun b o hb hn => (hg.block b (Array.getElem?_eq_some_iff.1 hb).1 (fun e => by simp only [Option.some.injEq] at e; subst e; rw [hm] at hb; cases hb; exact hn _ _ rfl)).trans hb
  exact ⟨⟨h.marks.nodup, fun D hD => ⟨(h.marks.at_ D hD).1, hk D _ (h.marks.at_ D hD).2 (fun es k e => by cases e)⟩⟩, hk _ _ h.res (fun es k e => by cases e), h.bel.grown hg h.bel.size (fun k e => by simp only [Option.some.injEq] at e; omega), hk _ _ h.cls (fun es k e => by cases e)⟩
end Go.Proofs.Ytlaibimdkamcfaa
