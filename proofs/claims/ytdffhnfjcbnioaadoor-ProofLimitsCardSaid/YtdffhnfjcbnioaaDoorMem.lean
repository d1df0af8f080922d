/-
  How a type lies in memory: what is said of cells, for any program; and that an argument that reads as data lies so.
-/
import Derived.Test.YtdffhnfjcbnioaaDoorTy
import Derived.ProofKit
import Derived.Deep.Strs
import Derived.OpenShut
namespace Go.Proofs.YtdffhnfjcbnioaaDoor
open Go.RowKit Go.Deep

/-- A slice of strings, in blocks below B. -/
def HasStrs (B : Nat) (W : World) (v : Value) (l : List ByteArray) : Prop :=
  ∃ (a : Option Addr) (cap b o : Nat), v = .slice a l.length cap ∧ (l.length ≤ cap ∧ cap ≤ 9223372036854775807) ∧ (l ≠ [] → a = some ⟨b, o, none⟩ ∧ b < B) ∧
    ∀ i (h : i < l.length), W.cell? ⟨b, o + i, none⟩ = some (.string l[i]) ∧ l[i].size ≤ 9223372036854775807

/-- A type in five cells, and all that it leads to in blocks below B. -/
inductive AtTy (B : Nat) (W : World) : Nat → Nat → Ty → Prop
  | mk (b o : Nat) (op ix : Int) (nm : ByteArray) (srt : List ByteArray) (args : List Ty) (vs : Value) (a : Option Addr) (cap ab ao : Nat)
      (hb : b < B) (c0 : W.cell? ⟨b, o, none⟩ = some (.int .i64 op)) (c1 : W.cell? ⟨b, o + 1, none⟩ = some (.string nm)) (c2 : W.cell? ⟨b, o + 2, none⟩ = some (.int .i64 ix))
      (c3 : W.cell? ⟨b, o + 3, none⟩ = some vs) (c4 : W.cell? ⟨b, o + 4, none⟩ = some (.slice a args.length cap))
      (hop : -9223372036854775808 ≤ op ∧ op ≤ 9223372036854775807) (hix : -9223372036854775808 ≤ ix ∧ ix ≤ 9223372036854775807) (hnm : nm.size ≤ 9223372036854775807)
      (hs : HasStrs B W vs srt) (hl : args.length ≤ 9223372036854775807)
      (ha : args ≠ [] → a = some ⟨ab, ao, none⟩ ∧ ab < B) (he : ∀ i (h : i < args.length), AtTy B W ab (ao + i * 5) args[i]) :
      AtTy B W b o (.mk op nm ix srt args)

/-- A type as a value. -/
def HasTy (B : Nat) (W : World) (v : Value) (T : Ty) : Prop :=
  ∃ (vs : Value) (a : Option Addr) (cap ab ao : Nat), v = .agg #[.int .i64 T.op, .string T.name, .int .i64 T.index, vs, .slice a T.args.length cap] ∧
    (-9223372036854775808 ≤ T.op ∧ T.op ≤ 9223372036854775807) ∧ (-9223372036854775808 ≤ T.index ∧ T.index ≤ 9223372036854775807) ∧ T.name.size ≤ 9223372036854775807 ∧
    HasStrs B W vs T.sort ∧ T.args.length ≤ 9223372036854775807 ∧
    (T.args ≠ [] → a = some ⟨ab, ao, none⟩ ∧ ab < B) ∧ ∀ i (h : i < T.args.length), AtTy B W ab (ao + i * 5) T.args[i]

theorem HasStrs.later {B B' : Nat} {W W' : World} {v : Value} {l : List ByteArray} (h : HasStrs B W v l) (hb : Below B W W') (hB : B ≤ B') : HasStrs B' W' v l := by
  obtain ⟨a, cap, b, o, rfl, hl, h, hc⟩ := h
  refine ⟨a, cap, b, o, rfl, hl, fun hn => ⟨(h hn).1, by have := (h hn).2; omega⟩, fun i hi => ⟨?_, (hc i hi).2⟩⟩
  have hlt := (h (by intro e; subst e; simp at hi)).2
  exact (hb.cell (p := ⟨b, o + i, none⟩) hlt).trans (hc i hi).1

theorem AtTy.later {B B' : Nat} {W W' : World} (hb : Below B W W') (hB : B ≤ B') {b o : Nat} {T : Ty} (h : AtTy B W b o T) : AtTy B' W' b o T := by
  induction h with
  | mk b o op ix nm srt args vs a cap ab ao hlt c0 c1 c2 c3 c4 hop hix hnm hs hl ha he ih =>
    exact .mk b o op ix nm srt args vs a cap ab ao (by omega) ((hb.cell (p := ⟨b, o, none⟩) hlt).trans c0) ((hb.cell (p := ⟨b, o + 1, none⟩) hlt).trans c1) ((hb.cell (p := ⟨b, o + 2, none⟩) hlt).trans c2)
      ((hb.cell (p := ⟨b, o + 3, none⟩) hlt).trans c3) ((hb.cell (p := ⟨b, o + 4, none⟩) hlt).trans c4) hop hix hnm (hs.later hb hB) hl (fun hn => ⟨(ha hn).1, by have := (ha hn).2; omega⟩) ih

theorem HasTy.later {B B' : Nat} {W W' : World} {v : Value} {T : Ty} (h : HasTy B W v T) (hb : Below B W W') (hB : B ≤ B') : HasTy B' W' v T := by
  obtain ⟨vs, a, cap, ab, ao, rfl, h1, h2, h3, h4, h5, h6, h7⟩ := h
  exact ⟨vs, a, cap, ab, ao, rfl, h1, h2, h3, h4.later hb hB, h5, fun hn => ⟨(h6 hn).1, by have := (h6 hn).2; omega⟩, fun i hi => AtTy.later hb hB (h7 i hi)⟩

theorem AtTy.lt {B : Nat} {W : World} {b o : Nat} {T : Ty} (h : AtTy B W b o T) : b < B := by cases h; assumption

/-! ### An argument that reads as data -/
section
variable {H : Type} {enc : TypeId × Value → H} {P : Program} {w : World} {base : Nat} {spare : Nat → Bool} {held : Bool}

theorem block_of_cell {W : World} {a : Addr} {v : Value} (h : W.cell? a = some v) : a.block < W.heap.size := by
  unfold World.cell? at h
  split at h
  · rename_i e; exact (Array.getElem?_eq_some_iff.1 e).1
  · simp at h

theorem strs_of_trod {t e : TypeId} {fuel : Nat} {v : Value} {x : DataW H × List MemPlace} (ht : P.underlying t = some (.slice e)) (he : P.underlying e = some .string) (hc : P.cellsOf e = 1)
    (h : DataW.trod enc P w base spare held fuel t [v] = some x) : ∃ l, HasStrs w.heap.size w v l := by
  rcases open_strs ht he hc h with ⟨h0, _⟩ | ⟨a, len, cap, m, Sx, hv, hb, hl, hm, hmm, _, hcell⟩
  · simp only [List.cons.injEq, and_true] at h0
    subst h0
    exact ⟨[], none, 0, 0, 0, rfl, by simp, fun h => absurd rfl h, fun i hi => by simp at hi⟩
  · simp only [List.cons.injEq, and_true] at hv
    subst hv
    have hle : len ≤ m := by rw [hmm]; split <;> omega
    have hmax : cap ≤ 9223372036854775807 := by have := hm; unfold maxLen at this; omega
    by_cases h0 : len = 0
    · subst h0
      exact ⟨[], some a, cap, 0, 0, rfl, ⟨by simp, hmax⟩, fun h => absurd rfl h, fun i hi => by simp at hi⟩
    · have hs : a.spot = none := by simpa [Addr.add] using World.cell?_spot (hcell 0 (by omega)).1
      obtain ⟨b, o, sp⟩ := a
      subst hs
      refine ⟨(List.range len).map Sx, some ⟨b, o, none⟩, cap, b, o, by simp, ⟨by simpa using hl, hmax⟩, fun _ => ⟨rfl, ?_⟩, fun i hi => ?_⟩
      · have := block_of_cell (hcell 0 (by omega)).1
        simpa [Addr.add] using this
      · simp only [List.length_map, List.length_range] at hi
        have h2 := hcell i (by omega)
        rw [Go.WideShapes.add_plain] at h2
        simp only [List.getElem_map, List.getElem_range]
        exact ⟨h2.1, by have := h2.2; unfold maxLen at this; omega⟩

/-- What must hold of the program's table: T the number of the struct's type, and so on. -/
structure TyTable (P : Program) (T i s ss ts : TypeId) (f0 f1 f2 f3 f4 : Field) : Prop where
  ty : P.underlying T = some (.struct #[f0, f1, f2, f3, f4])
  cells : P.cellsOf T = 5
  t0 : f0.type = i ∧ f0.offset = 0
  t1 : f1.type = s ∧ f1.offset = 1
  t2 : f2.type = i ∧ f2.offset = 2
  t3 : f3.type = ss ∧ f3.offset = 3
  t4 : f4.type = ts ∧ f4.offset = 4
  int : P.underlying i = some (.int .i64)
  str : P.underlying s = some .string
  strs : P.underlying ss = some (.slice s)
  tys : P.underlying ts = some (.slice T)
  ci : P.cellsOf i = 1
  cs : P.cellsOf s = 1
  css : P.cellsOf ss = 1
  cts : P.cellsOf ts = 1

theorem args_of_trod {T i s ss ts : TypeId} {f0 f1 f2 f3 f4 : Field} (L : TyTable P T i s ss ts f0 f1 f2 f3 f4) (n : Nat)
    (ih : ∀ m, m < n → ∀ (cs : List Value) (x : DataW H × List MemPlace), DataW.trod enc P w base spare held m T cs = some x → ∃ ty : Ty, HasTy w.heap.size w (.agg cs.toArray) ty)
    (at_of : ∀ (b o : Nat) (cs : List Value) (ty : Ty), b < w.heap.size → (∀ j, j < 5 → w.cell? ⟨b, o + j, none⟩ = cs[j]?) → HasTy w.heap.size w (.agg cs.toArray) ty → AtTy w.heap.size w b o ty)
    (v : Value) (x : DataW H × List MemPlace) (h : DataW.trod enc P w base spare held n ts [v] = some x) :
    ∃ (l : List Ty) (a : Option Addr) (cap ab ao : Nat), v = .slice a l.length cap ∧ l.length ≤ 9223372036854775807 ∧ (l ≠ [] → a = some ⟨ab, ao, none⟩ ∧ ab < w.heap.size) ∧ ∀ i (h : i < l.length), AtTy w.heap.size w ab (ao + i * 5) l[i] := by
  rcases DataW.trod_slice L.tys h with ⟨h0, _⟩ | ⟨a, len, cap, elems, rest, m, rfl, hv, _, hb, hle, hcap, hlen, hel, _, _⟩
  · simp only [List.cons.injEq, and_true] at h0
    subst h0
    exact ⟨[], none, 0, 0, 0, rfl, by simp, fun h => absurd rfl h, fun i hi => by simp at hi⟩
  · simp only [List.cons.injEq, and_true] at hv
    subst hv
    have hmax : len ≤ 9223372036854775807 := by have := hcap; unfold maxLen at this; omega
    by_cases h0 : len = 0
    · subst h0
      exact ⟨[], some a, cap, 0, 0, rfl, by simp, fun h => absurd rfl h, fun i hi => by simp at hi⟩
    · have each : ∀ i, i < len → ∃ (cs : List Value) (y : DataW H × List MemPlace), w.cells? base (a.add (i * 5)) 5 = some cs ∧ DataW.trod enc P w base spare held m T cs = some y := by
        intro i hi
        have := hel i hi
        rw [List.getElem?_eq_getElem (by omega), L.cells] at this
        obtain ⟨cs, h1, h2⟩ := Option.bind_eq_some_iff.1 this
        exact ⟨cs, _, h1, h2⟩
      have hcell : ∀ i, i < len → ∃ cs : List Value, (∀ j, j < 5 → w.cell? ((a.add (i * 5)).add j) = cs[j]?) ∧ cs.length = 5 ∧ ∃ ty : Ty, HasTy w.heap.size w (.agg cs.toArray) ty := by
        intro i hi
        obtain ⟨cs, y, h1, h2⟩ := each i hi
        obtain ⟨_, h3, h4⟩ := World.cells?_some h1
        exact ⟨cs, h4, h3, ih m (by omega) cs y h2⟩
      obtain ⟨cs0, hc0, hl0, _⟩ := hcell 0 (by omega)
      have hc00 := hc0 0 (by omega)
      rw [List.getElem?_eq_getElem (by omega)] at hc00
      have hs : a.spot = none := by simpa [Addr.add] using World.cell?_spot hc00
      have hblk : a.block < w.heap.size := by simpa [Addr.add] using block_of_cell hc00
      obtain ⟨b, o, sp⟩ := a
      simp only at hs hblk
      subst hs
      have hty : ∀ i, i < len → ∃ ty : Ty, AtTy w.heap.size w b (o + i * 5) ty := by
        intro i hi
        obtain ⟨cs, h4, h5, ty, h6⟩ := hcell i hi
        refine ⟨ty, at_of b (o + i * 5) cs ty hblk (fun j hj => ?_) h6⟩
        have := h4 j hj
        rwa [Go.WideShapes.add_plain, Go.WideShapes.add_plain] at this
      obtain ⟨Tx, hTx⟩ : ∃ Tx : Nat → Ty, ∀ i, i < len → AtTy w.heap.size w b (o + i * 5) (Tx i) := by
        refine ⟨fun i => if h : i < len then Classical.choose (hty i h) else .mk 0 ByteArray.empty 0 [] [], fun i hi => ?_⟩
        simp only [dif_pos hi]
        exact Classical.choose_spec (hty i hi)
      refine ⟨(List.range len).map Tx, some ⟨b, o, none⟩, cap, b, o, by simp, by simpa using hmax, fun _ => ⟨rfl, hblk⟩, fun i hi => ?_⟩
      simp only [List.length_map, List.length_range] at hi
      simp only [List.getElem_map, List.getElem_range]
      exact hTx i hi

theorem at_of_has {W : World} {B b o : Nat} {cs : List Value} {ty : Ty} (hb : b < B) (h : ∀ j, j < 5 → W.cell? ⟨b, o + j, none⟩ = cs[j]?) (ht : HasTy B W (.agg cs.toArray) ty) : AtTy B W b o ty := by
  obtain ⟨vs, a, cap, ab, ao, hv, h1, h2, h3, h4, h5, h6, h7⟩ := ht
  obtain ⟨op, nm, ix, srt, args⟩ := ty
  simp only [Value.agg.injEq] at hv
  have hcs : cs = [.int .i64 op, .string nm, .int .i64 ix, vs, .slice a args.length cap] := by
    have := congrArg Array.toList hv
    simpa [Ty.op, Ty.name, Ty.index, Ty.args] using this
  subst hcs
  exact .mk b o op ix nm srt args vs a cap ab ao hb (by simpa using h 0 (by omega)) (by simpa using h 1 (by omega)) (by simpa using h 2 (by omega)) (by simpa using h 3 (by omega)) (by simpa using h 4 (by omega)) h1 h2 h3 h4 h5 h6 h7

theorem ty_of_trod {T i s ss ts : TypeId} {f0 f1 f2 f3 f4 : Field} (L : TyTable P T i s ss ts f0 f1 f2 f3 f4) (fuel : Nat) : ∀ (cs : List Value) (x : DataW H × List MemPlace),
    DataW.trod enc P w base spare held fuel T cs = some x → ∃ ty : Ty, HasTy w.heap.size w (.agg cs.toArray) ty := by
  induction fuel using Nat.strongRecOn with
  | ind fuel ih =>
    intro cs x h
    obtain ⟨xs, n, rfl, rfl, hlen, hxs, hf⟩ := DataW.trod_struct L.ty h
    rw [L.cells] at hlen
    have hx5 : xs.length = 5 := by simpa using hxs
    obtain ⟨v0, v1, v2, v3, v4, rfl⟩ : ∃ v0 v1 v2 v3 v4, cs = [v0, v1, v2, v3, v4] := by
      match cs, hlen with
      | [v0, v1, v2, v3, v4], _ => exact ⟨v0, v1, v2, v3, v4, rfl⟩
    have g0 := hf 0 f0 rfl
    have g1 := hf 1 f1 rfl
    have g2 := hf 2 f2 rfl
    have g3 := hf 3 f3 rfl
    have g4 := hf 4 f4 rfl
    rw [L.t0.1, L.t0.2, L.ci, List.getElem?_eq_getElem (by omega)] at g0
    rw [L.t1.1, L.t1.2, L.cs, List.getElem?_eq_getElem (by omega)] at g1
    rw [L.t2.1, L.t2.2, L.ci, List.getElem?_eq_getElem (by omega)] at g2
    rw [L.t3.1, L.t3.2, L.css, List.getElem?_eq_getElem (by omega)] at g3
    rw [L.t4.1, L.t4.2, L.cts, List.getElem?_eq_getElem (by omega)] at g4
    simp only [List.drop_succ_cons, List.drop_zero, List.take_succ_cons, List.take_zero] at g0 g1 g2 g3 g4
    obtain ⟨op, e0, _, w0⟩ := DataW.trod_int L.int g0
    obtain ⟨nm, e1, _, w1⟩ := DataW.trod_string L.str g1
    obtain ⟨ix, e2, _, w2⟩ := DataW.trod_int L.int g2
    obtain ⟨srt, hs⟩ := strs_of_trod L.strs L.str L.cs g3
    obtain ⟨l, a, cap, ab, ao, e4, hl, ha, he⟩ := args_of_trod L n (fun m hm => ih m (by omega)) (fun b o cs ty => at_of_has) v4 _ g4
    simp only [List.cons.injEq, and_true] at e0 e1 e2
    subst e0 e1 e2 e4
    have b0 := bounds_i64 w0
    have b2 := bounds_i64 w2
    refine ⟨.mk op nm ix srt l, v3, a, cap, ab, ao, rfl, by simpa [Ty.op] using b0, by simpa [Ty.index] using b2, ?_, hs, hl, ha, he⟩
    have := w1
    unfold maxLen at this
    simpa [Ty.name] using this
end
end Go.Proofs.YtdffhnfjcbnioaaDoor
