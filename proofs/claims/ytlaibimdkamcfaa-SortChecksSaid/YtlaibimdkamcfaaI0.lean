/-
  Arguments that read as data: a theory with all of its type constructors and arities.
-/
import Derived.Test.YtlaibimdkamcfaaE8
import Derived.Test.YtlaibimdkamcfaaG1
import Derived.Test.YtlaibimdkamcfaaLeast
namespace Go.Proofs.Ytlaibimdkamcfaa
open Go.RowKit Go.Deep Go.ChangeShapes Go.WideShapes Go.ChangeAt

theorem cells87 : Try.prog.cellsOf 87 = 2 := by kernel_rfl

section
variable {H : Type} {enc : TypeId × Value → H} {w : World} {base : Nat} {spare : Nat → Bool} {held : Bool}

theorem HasStrs.sort {W : World} {v : Value} {l : List ByteArray} (h : HasStrs W v l) : ∃ a c, v = .slice a l.length c ∧ SortAt W a l := by
  obtain ⟨a, c, b, o, rfl, h1, h2, h3⟩ := h
  exact ⟨a, c, rfl, b, o, h2, h3, h1⟩

theorem sorts_arg {fuel : Nat} {v : Value} {x : DataW H × List MemPlace} (h : DataW.trod enc Try.prog w base spare held fuel 44 [v] = some x) :
    ∃ (L : List (List ByteArray)) (a : Option Addr) (cap b o : Nat), v = .slice a L.length cap ∧ L.length ≤ 9223372036854775807 ∧ (L ≠ [] → a = some ⟨b, o, none⟩) ∧ SortsAt w b o L := by
  obtain ⟨k, a, cap, sb, so, rfl, hn, ha, hq⟩ := elems_of_trod (Q := fun b o => b < w.heap.size ∧ ∃ (x : List ByteArray) (a : Option Addr) (c : Nat), w.cell? ⟨b, o, none⟩ = some (.slice a x.length c) ∧ SortAt w a x) Try.underlying44 cells27 (by decide) (fun n b o cs x hc hl hb ht => by
    obtain ⟨v0, rfl⟩ := list1 hl
    obtain ⟨l, hl⟩ := strs_arg ht
    obtain ⟨a', c', rfl, hs⟩ := hl.sort
    exact ⟨hb, l, a', c', hc 0 (by decide), hs⟩) h
  obtain ⟨L, hl, hl2⟩ := choose_list (n := k) (Q := fun i (x : List ByteArray) => sb < w.heap.size ∧ ∃ (a : Option Addr) (c : Nat), w.cell? ⟨sb, so + i * 1, none⟩ = some (.slice a x.length c) ∧ SortAt w a x) (fun i hi => by
    obtain ⟨hb, x, a, c, h1, h2⟩ := hq i hi
    exact ⟨x, hb, a, c, h1, h2⟩)
  subst hl
  refine ⟨L, a, cap, sb, so, rfl, hn, fun hne => (ha (List.length_pos_iff.2 hne)).1, fun i hi => ?_⟩
  obtain ⟨hb, a', c', h1, h2⟩ := hl2 i hi
  rw [Nat.mul_one] at h1
  exact ⟨hb, a', c', h1, h2⟩

set_option maxRecDepth 100000 in
theorem td_of_trod {n b o : Nat} {cs : List Value} {x : DataW H × List MemPlace} (hc : ∀ j, j < 2 → w.cell? ⟨b, o + j, none⟩ = cs[j]?) (hl : cs.length = 2) (ht : DataW.trod enc Try.prog w base spare held n 87 cs = some x) :
    ∃ t : TD, w.cell? ⟨b, o, none⟩ = some (.string t.name) ∧ w.cell? ⟨b, o + 1, none⟩ = some (.int .i64 t.arity) ∧ t.name.size ≤ maxLen ∧ (-9223372036854775808 ≤ t.arity ∧ t.arity ≤ 9223372036854775807) := by
  obtain ⟨xs, m, rfl, rfl, hlen, hxs, hf⟩ := DataW.trod_struct Try.underlying87 ht
  have hx2 : xs.length = 2 := by simpa using hxs
  obtain ⟨v0, v1, rfl⟩ := list2 hl
  have g0 : DataW.trod enc Try.prog w base spare held m 9 (List.take (Try.prog.cellsOf 9) (List.drop 0 [v0, v1])) = xs[0]? := hf 0 _ rfl
  have g1 : DataW.trod enc Try.prog w base spare held m 3 (List.take (Try.prog.cellsOf 3) (List.drop 1 [v0, v1])) = xs[1]? := hf 1 _ rfl
  have cells3' : Try.prog.cellsOf 3 = 1 := by kernel_rfl
  simp only [cells9, cells3'] at g0 g1
  rw [List.getElem?_eq_getElem (by omega)] at g0 g1
  simp only [List.drop_succ_cons, List.drop_zero, List.take_succ_cons, List.take_zero] at g0 g1
  obtain ⟨s, e1, _, w1⟩ := DataW.trod_string Try.underlying9 g0
  obtain ⟨q, e2, _, w2⟩ := DataW.trod_int Try.underlying3 g1
  simp only [List.cons.injEq, and_true] at e1 e2
  subst e1 e2
  refine ⟨⟨s, q⟩, hc 0 (by decide), hc 1 (by decide), w1, ?_⟩
  unfold Lit.wf at w2
  rw [Bool.and_eq_true, decide_eq_true_eq, decide_eq_true_eq] at w2
  exact w2

set_option maxRecDepth 100000 in
theorem ari_of_trod {n b o : Nat} {cs : List Value} {x : DataW H × List MemPlace} (hc : ∀ j, j < 3 → w.cell? ⟨b, o + j, none⟩ = cs[j]?) (hl : cs.length = 3) (ht : DataW.trod enc Try.prog w base spare held n 62 cs = some x) : ∃ a : Ari, AriAt w b o a := by
  obtain ⟨xs, m, rfl, rfl, hlen, hxs, hf⟩ := DataW.trod_struct Try.underlying62 ht
  have hx3 : xs.length = 3 := by simpa using hxs
  obtain ⟨v0, v1, v2, rfl⟩ := list3 hl
  have g0 : DataW.trod enc Try.prog w base spare held m 9 (List.take (Try.prog.cellsOf 9) (List.drop 0 [v0, v1, v2])) = xs[0]? := hf 0 _ rfl
  have g1 : DataW.trod enc Try.prog w base spare held m 9 (List.take (Try.prog.cellsOf 9) (List.drop 1 [v0, v1, v2])) = xs[1]? := hf 1 _ rfl
  have g2 : DataW.trod enc Try.prog w base spare held m 44 (List.take (Try.prog.cellsOf 44) (List.drop 2 [v0, v1, v2])) = xs[2]? := hf 2 _ rfl
  simp only [cells9, cells44] at g0 g1 g2
  rw [List.getElem?_eq_getElem (by omega)] at g0 g1 g2
  simp only [List.drop_succ_cons, List.drop_zero, List.take_succ_cons, List.take_zero] at g0 g1 g2
  obtain ⟨s, e1, _, w1⟩ := DataW.trod_string Try.underlying9 g0
  obtain ⟨s', e2, _, w2⟩ := DataW.trod_string Try.underlying9 g1
  obtain ⟨L, a, cap, sb, so, e3, hn, ha, hL⟩ := sorts_arg g2
  simp only [List.cons.injEq, and_true] at e1 e2
  subst e1 e2 e3
  exact ⟨⟨s, s', L⟩, a, sb, so, cap, hc 0 (by decide), hc 1 (by decide), hc 2 (by decide), ha, hL, w1, w2, hn⟩

/-- A whole theory as an argument. -/
def HasThyF (W : World) (v : Value) : Prop :=
  ∃ (nm : ByteArray) (ca ta ra oa ya qa : Option Addr) (cc tc rc on oc yn yc qn qc cb co tb to rb ro : Nat) (cs : List Cls) (ts : List TD) (l : List Ari),
    v = .agg #[.string nm, .slice ca cs.length cc, .slice ta ts.length tc, .slice ra l.length rc, .slice oa on oc, .slice ya yn yc, .slice qa qn qc] ∧ (cs ≠ [] → ca = some ⟨cb, co, none⟩) ∧ ClassesAt W cb co cs ∧ cs.length ≤ 9223372036854775807 ∧
    (ts ≠ [] → ta = some ⟨tb, to, none⟩) ∧ TypesAt W tb to ts ∧ ts.length ≤ 9223372036854775807 ∧ (l ≠ [] → ra = some ⟨rb, ro, none⟩) ∧ ArisAt W rb ro l ∧ l.length ≤ 9223372036854775807

set_option maxRecDepth 100000 in
theorem thyF_arg {fuel : Nat} {cs : List Value} {x : DataW H × List MemPlace} (h : DataW.trod enc Try.prog w base spare held fuel 29 cs = some x) : HasThyF w (.agg cs.toArray) := by
  obtain ⟨xs, m, rfl, rfl, hlen, hxs, hf⟩ := DataW.trod_struct Try.underlying29 h
  rw [cells29] at hlen
  have hx7 : xs.length = 7 := by simpa using hxs
  obtain ⟨v0, v1, v2, v3, v4, v5, v6, rfl⟩ := list7 hlen
  have g0 : DataW.trod enc Try.prog w base spare held m 9 (List.take (Try.prog.cellsOf 9) (List.drop 0 [v0, v1, v2, v3, v4, v5, v6])) = xs[0]? := hf 0 _ rfl
  have g1 : DataW.trod enc Try.prog w base spare held m 22 (List.take (Try.prog.cellsOf 22) (List.drop 1 [v0, v1, v2, v3, v4, v5, v6])) = xs[1]? := hf 1 _ rfl
  have g2 : DataW.trod enc Try.prog w base spare held m 23 (List.take (Try.prog.cellsOf 23) (List.drop 2 [v0, v1, v2, v3, v4, v5, v6])) = xs[2]? := hf 2 _ rfl
  have g3 : DataW.trod enc Try.prog w base spare held m 24 (List.take (Try.prog.cellsOf 24) (List.drop 3 [v0, v1, v2, v3, v4, v5, v6])) = xs[3]? := hf 3 _ rfl
  have g4 : DataW.trod enc Try.prog w base spare held m 25 (List.take (Try.prog.cellsOf 25) (List.drop 4 [v0, v1, v2, v3, v4, v5, v6])) = xs[4]? := hf 4 _ rfl
  have g5 : DataW.trod enc Try.prog w base spare held m 26 (List.take (Try.prog.cellsOf 26) (List.drop 5 [v0, v1, v2, v3, v4, v5, v6])) = xs[5]? := hf 5 _ rfl
  have g6 : DataW.trod enc Try.prog w base spare held m 27 (List.take (Try.prog.cellsOf 27) (List.drop 6 [v0, v1, v2, v3, v4, v5, v6])) = xs[6]? := hf 6 _ rfl
  simp only [cells9, cells22, cells23, cells24, cells25, cells26, cells27] at g0 g1 g2 g3 g4 g5 g6
  rw [List.getElem?_eq_getElem (by omega)] at g0 g1 g2 g3 g4 g5 g6
  simp only [List.drop_succ_cons, List.drop_zero, List.take_succ_cons, List.take_zero] at g0 g1 g2 g3 g4 g5 g6
  obtain ⟨nm, e0, _, w0⟩ := DataW.trod_string Try.underlying9 g0
  obtain ⟨on, oa, oc, e4, _⟩ := slice_of_trod Try.underlying25 g4
  obtain ⟨yn, ya, yc, e5, _⟩ := slice_of_trod Try.underlying26 g5
  obtain ⟨qn, qa, qc, e6, _⟩ := slice_of_trod Try.underlying27 g6
  obtain ⟨cn, ca, cc, cb, co, e1, hcn, hca, hcq⟩ := elems_of_trod (Q := fun b o => b < w.heap.size ∧ ∃ c : Cls, ClsAt w b o c) Try.underlying22 cells60 (by decide) (fun n b o cs x hc hl hb ht => ⟨hb, class_of_trod hc hl ht⟩) g1
  obtain ⟨tn, ta, tc, tb, to, e2, htn, hta, htq⟩ := elems_of_trod (Q := fun b o => b < w.heap.size ∧ ∃ t : TD, w.cell? ⟨b, o, none⟩ = some (.string t.name) ∧ w.cell? ⟨b, o + 1, none⟩ = some (.int .i64 t.arity) ∧ t.name.size ≤ maxLen ∧ (-9223372036854775808 ≤ t.arity ∧ t.arity ≤ 9223372036854775807)) Try.underlying23 cells87 (by decide) (fun n b o cs x hc hl hb ht => ⟨hb, td_of_trod hc hl ht⟩) g2
  obtain ⟨rn, ra, rc, rb, ro, e3, hrn, hra, hrq⟩ := elems_of_trod (Q := fun b o => b < w.heap.size ∧ ∃ a : Ari, AriAt w b o a) Try.underlying24 cells62 (by decide) (fun n b o cs x hc hl hb ht => ⟨hb, ari_of_trod hc hl ht⟩) g3
  obtain ⟨cs, hcl, hcs⟩ := choose_list (n := cn) (Q := fun i c => cb < w.heap.size ∧ ClsAt w cb (co + i * 2) c) (fun i hi => by obtain ⟨hb, c, hc⟩ := hcq i hi; exact ⟨c, hb, hc⟩)
  obtain ⟨ts, htl, hts⟩ := choose_list (n := tn) (Q := fun i (t : TD) => tb < w.heap.size ∧ w.cell? ⟨tb, to + i * 2, none⟩ = some (.string t.name) ∧ w.cell? ⟨tb, to + i * 2 + 1, none⟩ = some (.int .i64 t.arity) ∧ t.name.size ≤ maxLen ∧ (-9223372036854775808 ≤ t.arity ∧ t.arity ≤ 9223372036854775807)) (fun i hi => by obtain ⟨hb, c, hc⟩ := htq i hi; exact ⟨c, hb, hc⟩)
  obtain ⟨l, hal, has⟩ := choose_list (n := rn) (Q := fun i (a : Ari) => rb < w.heap.size ∧ AriAt w rb (ro + i * 3) a) (fun i hi => by obtain ⟨hb, a, hc⟩ := hrq i hi; exact ⟨a, hb, hc⟩)
  subst hcl htl hal
  simp only [List.cons.injEq, and_true] at e0
  subst e0 e1 e2 e3 e4 e5 e6
  exact ⟨nm, ca, ta, ra, oa, ya, qa, cc, tc, rc, on, oc, yn, yc, qn, qc, cb, co, tb, to, rb, ro, cs, ts, l, rfl, fun hne => (hca (List.length_pos_iff.2 hne)).1, hcs, hcn, fun hne => (hta (List.length_pos_iff.2 hne)).1, hts, htn, fun hne => (hra (List.length_pos_iff.2 hne)).1, has, hrn⟩
end

set_option maxRecDepth 100000 in
theorem hasThyF_of {H : Type} {enc : TypeId × Value → H} {W : World} {base : Nat} {v : Value} {d : DataW H} {ps : List MemPlace} (hv : Value.okWide Try.prog W .any base 29 v) (h : DataW.Trod enc Try.prog W 0 (fun _ => true) true 29 v d ps) : HasThyF W v := by
  obtain ⟨cs, rfl, _⟩ := okWide_struct Try.underlying29 hv
  obtain ⟨fuel, h⟩ := h
  simpa [Value.cells] using thyF_arg h

set_option maxRecDepth 100000 in
theorem hasStr_of {H : Type} {enc : TypeId × Value → H} {W : World} {v : Value} {d : DataW H} {ps : List MemPlace} {base : Nat} (hv : Value.okWide Try.prog W .any base 9 v) (h : DataW.Trod enc Try.prog W 0 (fun _ => true) true 9 v d ps) : ∃ s : ByteArray, v = .string s ∧ s.size ≤ maxLen := by
  obtain ⟨fuel, h⟩ := h
  obtain ⟨s, hs⟩ := okWide_string Try.underlying9 hv
  subst hs
  obtain ⟨s', e, _, h2⟩ := DataW.trod_string Try.underlying9 h
  simp [Value.cells] at e
  subst e
  exact ⟨s, rfl, h2⟩

/-- The lengths alone. -/
theorem ArisAt.lens {W : World} {b o : Nat} {l : List Ari} (h : ArisAt W b o l) : AritiesAt W b o (l.map fun a => a.sorts.map List.length) := by
  intro i hi
  have hi' : i < l.length := by simpa using hi
  obtain ⟨h0, sa, sb, so, sc, h1, h2, h3, h4, h5, h6, h7, h8⟩ := h i hi'
  refine ⟨h0, by simpa using h8, l[i].typ, l[i].cls, sa, sb, so, sc, h1, h2, by simpa using h3, fun hne => h4 (by simpa using hne), fun j hj => ?_⟩
  have hj' : j < l[i].sorts.length := by simpa using hj
  obtain ⟨hl, a, c, k1, k2⟩ := h5 j hj'
  refine ⟨hl, ?_, a, c, ?_⟩
  · obtain ⟨_, _, _, _, k⟩ := k2
    simpa using k
  · simpa using k1
end Go.Proofs.Ytlaibimdkamcfaa
