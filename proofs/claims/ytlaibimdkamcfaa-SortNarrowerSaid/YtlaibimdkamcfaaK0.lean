import Derived.Test.YtlaibimdkamcfaaH3
import Derived.DeepKeys4
import Derived.WideKeyArgs2
import Derived.Test.YtlaibimdkamcfaaG6
import Derived.Test.YtlaibimdkamcfaaF1
section
/-
  The map of the sorts of arities: its keys, its elements.
-/
namespace Go.Proofs.Ytlaibimdkamcfaa
open Go.RowKit Go.Maps Go.WideMaps

theorem Try.row128 : (128 : TypeId) < Try.prog.types.size := of_decide_eq_true (by kernel_rfl)
theorem Try.laidOut' : laidOutB Try.prog = true := by kernel_rfl
theorem Try.wide128 : (match Try.prog.underlying 128 with | some (.array _ _) | some (.struct _) => true | _ => false) = true := by kernel_rfl
set_option maxRecDepth 100000 in
theorem Try.law128 : KeyLaw Try.prog 128 := deep_law_laid Try.laidOut' (m := 2) (by omega) Try.row128 (by kernel_rfl) Try.wide128
theorem Try.keyed128 : Keyed Try.prog 128 := Keyed.of_law Try.law128
theorem Try.keyType128 : Try.prog.keyType 128 = true := by kernel_rfl
theorem cells9' : Try.prog.cellsOf 9 = 1 := by kernel_rfl
theorem Try.cells128 : Try.prog.cellsOf 128 = 2 := by kernel_rfl

/-- The key of a place. -/
def placeLit (p : ByteArray × ByteArray) : Lit := .string (keyBytes [.string p.1.data.toList, .string p.2.data.toList])

theorem place_key {p : ByteArray × ByteArray} (h1 : p.1.size ≤ maxLen) (h2 : p.2.size ≤ maxLen) : keyOf Try.prog 128 (.agg #[.string p.1, .string p.2]) = some (placeLit p) := by
  have hf : (Value.agg #[.string p.1, .string p.2]).formed Try.prog 128 = true := by simp [Value.formed, Try.underlying128, Try.cells128]
  unfold keyOf
  simp only [Try.underlying128, Try.keyType128, hf, Bool.and_self, if_true]
  obtain ⟨k, hk⟩ : ∃ k, Try.prog.types.size + 1 = k + 2 := ⟨Try.prog.types.size - 1, by have h : (128 : Nat) < Try.prog.types.size := Try.row128; omega⟩
  rw [hk]
  simp [Program.keyLits, Try.underlying128, Try.underlying9, Try.cells128, Value.cells, h1, h2, cells9', placeLit]

theorem place_inj {p q : ByteArray × ByteArray} (h1 : p.1.size ≤ maxLen) (h2 : p.2.size ≤ maxLen) (k1 : q.1.size ≤ maxLen) (k2 : q.2.size ≤ maxLen) (e : placeLit p = placeLit q) : p = q := by
  have := Try.law128.inj (place_key h1 h2) (by rw [e]; exact place_key k1 k2)
  simp only [Value.agg.injEq, Array.mk.injEq, List.cons.injEq, Value.string.injEq] at this
  exact Prod.ext this.1 this.2.1

/-- How a slice reads as an element of a map: by itself. -/
def sliceR : Value → Option (DataW Unit × List MemPlace)
  | .slice none n c => some (.agg [.lit (.bool false), .lit (.int .i64 n), .lit (.int .i64 c)], [])
  | .slice (some ⟨b, o, none⟩) n c => some (.agg [.lit (.bool true), .lit (.int .i64 b), .lit (.int .i64 o), .lit (.int .i64 n), .lit (.int .i64 c)], [])
  | _ => none

theorem sliceR_some {v : Value} {z : DataW Unit × List MemPlace} (h : sliceR v = some z) : ∃ a n c, v = .slice a n c ∧ z.2 = [] := by
  unfold sliceR at h
  split at h
  · exact ⟨_, _, _, rfl, by cases h; rfl⟩
  · exact ⟨_, _, _, rfl, by cases h; rfl⟩
  · cases h

theorem sliceR_inj {v v' : Value} {d : DataW Unit} {p p' : List MemPlace} (h : sliceR v = some (d, p)) (h' : sliceR v' = some (d, p')) : v = v' := by
  unfold sliceR at h h'
  split at h <;> split at h' <;> first | (cases h; done) | (cases h'; done) | (
    simp only [Option.some.injEq, Prod.mk.injEq] at h h'
    have e := h.1.trans h'.1.symm
    simp at e
    try simp [e]
    try omega)

theorem zero44 (w : World) : (zeroValue 44).run Try.prog w = .ok (.slice none 0 0) w := by kernel_rfl

/-- What an element of the map reads as where there is none. -/
def zero44D : DataW Unit := .agg [.lit (.bool false), .lit (.int .i64 0), .lit (.int .i64 0)]
theorem zero44R : sliceR (.slice none 0 0) = some (zero44D, []) := rfl

/-- A slice of the sorts of an arity. -/
def SortsV (W : World) (L : List (List ByteArray)) (v : Value) : Prop := ∃ (sa : Option Addr) (sb so sc : Nat), v = .slice sa L.length sc ∧ (L ≠ [] → sa = some ⟨sb, so, none⟩) ∧ SortsAt W sb so L

/-- The map of the sorts of arities that have been read. -/
structure PlacesAt (l : List Ari) (ms n : Nat) (D : DataW Unit) (W : World) : Prop where
  map : W.ownsMap Try.prog 128 sliceR ms n D
  has : ∀ p : ByteArray × ByteArray, p.1.size ≤ maxLen → p.2.size ≤ maxLen → (Maps.has D (placeLit p) = true ↔ p ∈ l.map pairOf)
  at_ : ∀ a, a ∈ l → ∃ v, sliceR v = some (D.atKey (placeLit (pairOf a)) zero44D, []) ∧ SortsV W a.sorts v
  isMap : Maps.IsMap D

/-- A cell lies in no map. -/
theorem cell_noMap {W : World} {p : Addr} {v : Value} {m : Nat} {es : Array MapEntry} {k : Nat} (h : W.cell? p = some v) (hm : W.heap[m]? = some (.map es k)) : p.block ≠ m := by
  intro e
  unfold World.cell? at h
  rw [e, hm] at h
  cases h

/-- All cells lie as they lay. -/
def KeepsCells (W W' : World) : Prop := W.heap.size ≤ W'.heap.size ∧ ∀ (p : Addr) (v : Value), W.cell? p = some v → W'.cell? p = some v

theorem KeepsCells.below {W W' : World} (h : Below W.heap.size W W') : KeepsCells W W' := ⟨h.size, fun p v hp => (h.cell (p := p) (by
  unfold World.cell? at hp
  cases ho : W.heap[p.block]? with
  | none => rw [ho] at hp; cases hp
  | some o => exact (Array.getElem?_eq_some_iff.1 ho).1)).trans hp⟩
theorem KeepsCells.grown {W W' : World} {m : Nat} {es : Array MapEntry} {k : Nat} (hm : W.heap[m]? = some (.map es k)) (h : W.grownBy W' (some m)) : KeepsCells W W' := ⟨h.size, fun p v hp => by
  have hb : p.block < W.heap.size := by
    unfold World.cell? at hp
    cases ho : W.heap[p.block]? with
    | none => rw [ho] at hp; cases hp
    | some o => exact (Array.getElem?_eq_some_iff.1 ho).1
  have hne := cell_noMap hp hm
  rw [← hp]
  unfold World.cell?
  rw [h.block p.block hb (by simpa using hne)]⟩

theorem StrsAt.cells {W W' : World} {b o : Nat} {l : List ByteArray} (h : StrsAt W b o l) (k : KeepsCells W W') : StrsAt W' b o l :=
  ⟨fun hn => Nat.lt_of_lt_of_le (h.lt hn) k.1, fun i hi => k.2 _ _ (h.cell i hi), h.size⟩
theorem SortAt.cells {W W' : World} {a : Option Addr} {x : List ByteArray} (h : SortAt W a x) (k : KeepsCells W W') : SortAt W' a x := by
  obtain ⟨b, o, h1, h2, h3⟩ := h
  exact ⟨b, o, h1, h2.cells k, h3⟩
theorem SortsAt.cells {W W' : World} {b o : Nat} {L : List (List ByteArray)} (h : SortsAt W b o L) (k : KeepsCells W W') : SortsAt W' b o L := by
  intro i hi
  obtain ⟨hlt, a, c, h1, h2⟩ := h i hi
  exact ⟨Nat.lt_of_lt_of_le hlt k.1, a, c, k.2 _ _ h1, h2.cells k⟩
theorem SortsV.cells {W W' : World} {L : List (List ByteArray)} {v : Value} (h : SortsV W L v) (k : KeepsCells W W') : SortsV W' L v := by
  obtain ⟨sa, sb, so, sc, h1, h2, h3⟩ := h
  exact ⟨sa, sb, so, sc, h1, h2, h3.cells k⟩

theorem PlacesAt.keep {l : List Ari} {ms n : Nat} {D : DataW Unit} {W W' : World} (h : PlacesAt l ms n D W) (hb : W'.heap[ms]? = W.heap[ms]?) (k : KeepsCells W W') : PlacesAt l ms n D W' := by
  obtain ⟨es, clock, h1, h2⟩ := h.map
  exact ⟨⟨es, clock, hb.trans h1, h2⟩, h.has, fun a ha => (by obtain ⟨v, h1, h2⟩ := h.at_ a ha; exact ⟨v, h1, h2.cells k⟩), h.isMap⟩
theorem PlacesAt.below {l : List Ari} {ms n : Nat} {D : DataW Unit} {W W' : World} (h : PlacesAt l ms n D W) (hb : Below W.heap.size W W') : PlacesAt l ms n D W' := h.keep (hb.block ms h.map.lt) (KeepsCells.below hb)

/-- A further arity. -/
theorem PlacesAt.put {l : List Ari} {ms n : Nat} {D d : DataW Unit} {W W' : World} (h : PlacesAt l ms n D W) {a : Ari} {v : Value} (hs1 : a.typ.size ≤ maxLen) (hs2 : a.cls.size ≤ maxLen) (hl : ∀ b, b ∈ l → b.typ.size ≤ maxLen ∧ b.cls.size ≤ maxLen) (hn : pairOf a ∉ l.map pairOf)
    (hv : sliceR v = some (d, [])) (hsv : SortsV W a.sorts v) (hg : W.grownBy W' (some ms)) (hmap : W'.ownsMap Try.prog 128 sliceR ms (n + 1) (D.put (placeLit (pairOf a)) d)) :
    PlacesAt (l ++ [a]) ms (n + 1) (D.put (placeLit (pairOf a)) d) W' := by
  obtain ⟨es, clock, hm, _⟩ := h.map
  have k := KeepsCells.grown hm hg
  have hkey : WideAt.IsKeyLit (placeLit (pairOf a)) := by exact trivial
  refine ⟨hmap, fun p hp1 hp2 => ?_, fun b hb => ?_, h.isMap.put _ _⟩
  · rw [List.map_append, List.mem_append]
    by_cases e : p = pairOf a
    · rw [e, Maps.has_put_same h.isMap hkey]
      simp
    · rw [Maps.has_put_other (fun e' => e (place_inj hp1 hp2 hs1 hs2 (by first | exact e' | exact e'.symm))), h.has p hp1 hp2]
      simp [e]
  · rcases List.mem_append.1 hb with hb | hb
    · obtain ⟨v', h1, h2⟩ := h.at_ b hb
      have hne : pairOf b ≠ pairOf a := fun e => hn (by rw [← e]; exact List.mem_map.2 ⟨b, hb, rfl⟩)
      refine ⟨v', ?_, h2.cells k⟩
      rw [Maps.atKey_put_other (fun e' => hne (place_inj (hl b hb).1 (hl b hb).2 hs1 hs2 (by first | exact e' | exact e'.symm)))]
      exact h1
    · rw [List.mem_singleton.1 hb]
      refine ⟨v, ?_, hsv.cells k⟩
      rw [Maps.atKey_put_same h.isMap hkey]
      exact hv
end Go.Proofs.Ytlaibimdkamcfaa
end

section
/-
  Args: the mathematics: what the arguments of a constructor must have for a sort, and for its Normal.
-/
namespace Go.Proofs.Ytlaibimdkamcfaa
open Go.RowKit Go.Maps

theorem isLeast_cover {α : Type} {K : α → Bool} {B : α → α → Bool} (o : Ord K B) {X X' : List α} (sub : ∀ c, c ∈ X' → c ∈ X) (cov : ∀ y, y ∈ X → ∃ x, x ∈ X' ∧ B x y = true) (z : α) : IsLeast B X z ↔ IsLeast B X' z := by
  constructor
  · rintro ⟨h1, h2⟩
    obtain ⟨x, hx, hb⟩ := cov z h1
    have := h2 x (sub x hx) hb
    subst this
    exact ⟨hx, fun d hd hb => h2 d (sub d hd) hb⟩
  · rintro ⟨h1, h2⟩
    refine ⟨sub z h1, fun d hd hb => ?_⟩
    obtain ⟨x, hx, hxd⟩ := cov d hd
    have := h2 x hx (o.trans _ _ _ hxd hb)
    subst this
    exact o.anti _ _ hb hxd

section
variable {cs : List Cls} {ts : List TD} {l : List Ari}

/-- The arity of a constructor at a class. -/
noncomputable def ariOf (l : List Ari) (n c : ByteArray) : Ari := ariAt l (aIdx l (n, c))

theorem ariOf_spec {n c : ByteArray} (h : (n, c) ∈ l.map pairOf) : ariOf l n c ∈ l ∧ (ariOf l n c).typ = n ∧ (ariOf l n c).cls = c := by
  have h1 := aIdx_lt h
  have h2 := aIdx_get h
  unfold ariOf
  rw [ariAt_eq h1]
  exact ⟨List.getElem_mem h1, congrArg Prod.fst h2, congrArg Prod.snd h2⟩

theorem ariOf_unique (hA : arisErr cs ts l = 0) {a : Ari} (ha : a ∈ l) : ariOf l a.typ a.cls = a := by
  have hm : (a.typ, a.cls) ∈ l.map pairOf := List.mem_map.2 ⟨a, ha, rfl⟩
  obtain ⟨h1, h2, h3⟩ := ariOf_spec hm
  obtain ⟨i, hi, hie⟩ := List.getElem_of_mem ha
  obtain ⟨j, hj, hje⟩ := List.getElem_of_mem h1
  have := aris_unique hA hi hj (by rw [hie, hje]; unfold pairOf; rw [h2, h3])
  subst this
  rw [← hje, hie]

/-- What an argument must be of, the classes of one arity behind those of the other. -/
noncomputable def needU (l : List Ari) (n : ByteArray) (s : List ByteArray) (i : Nat) : List ByteArray := s.flatMap fun c => sortOf (ariOf l n c).sorts i

theorem regular_up (hA : arisErr cs ts l = 0) (hR : regularB cs l = true) {n c d : ByteArray} (hm : (n, d) ∈ l.map pairOf) (hb : belowB cs d c = true) :
    (n, c) ∈ l.map pairOf ∧ ∀ i, i < (ariOf l n d).sorts.length → lessB (knownB cs) (belowB cs) (sortOf (ariOf l n d).sorts i) (sortOf (ariOf l n c).sorts i) = true := by
  obtain ⟨h1, h2, h3⟩ := ariOf_spec hm
  obtain ⟨kd, kc, hr⟩ := below_known hb
  unfold regularB at hR
  simp only [decide_eq_true_eq] at hR
  obtain ⟨b, hb1, hb2, hb3, hb4⟩ := hR _ h1 (idxOfC cs c) (idx_lt kc) (by rw [h3]; exact hr)
  have hc : (clsAt cs (idxOfC cs c)).name = c := by rw [clsAt_eq (idx_lt kc)]; exact idx_get kc
  rw [hc] at hb3
  rw [h2] at hb2
  have he := ariOf_unique hA hb1
  rw [hb2, hb3] at he
  exact ⟨List.mem_map.2 ⟨b, hb1, by unfold pairOf; rw [hb2, hb3]⟩, fun i hi => by rw [he]; exact hb4 i hi⟩

/-- All classes of a sort have an arity just if those of its Normal have. -/
theorem have_normal (hO : openErr cs = 0) (hA : arisErr cs ts l = 0) (hR : regularB cs l = true) {n : ByteArray} {s p : List ByteArray} (hp : IsNormalOf ltS (belowB cs) s p) (hk : ∀ c, c ∈ s → knownB cs c = true) :
    (∀ c, c ∈ p → (n, c) ∈ l.map pairOf) ↔ (∀ c, c ∈ s → (n, c) ∈ l.map pairOf) := by
  constructor
  · intro h c hc
    obtain ⟨d, hd, hb⟩ := least_below (classes_ord hO) hc (hk c hc)
    exact (regular_up hA hR (h d ((hp.mem d).2 hd)) hb).1
  · exact fun h c hc => h c ((hp.mem c).1 hc).1

theorem args_len (hA : arisErr cs ts l = 0) {n c : ByteArray} (hm : (n, c) ∈ l.map pairOf) : ((ariOf l n c).sorts.length : Int) = (tdAt ts (tIdx ts n)).arity := by
  obtain ⟨h1, h2, _⟩ := ariOf_spec hm
  have := (aris_mem hA h1).2.2.1
  rwa [h2] at this

theorem need_known (hA : arisErr cs ts l = 0) {n : ByteArray} {s : List ByteArray} (hs : ∀ c, c ∈ s → (n, c) ∈ l.map pairOf) {i : Nat} (hi : (i : Int) < (tdAt ts (tIdx ts n)).arity) (z : ByteArray) (hz : z ∈ needU l n s i) : knownB cs z = true := by
  obtain ⟨c, hc, hz⟩ := List.mem_flatMap.1 hz
  obtain ⟨h1, _, _⟩ := ariOf_spec (hs c hc)
  have hl := args_len hA (hs c hc)
  have := (sErr_zero ((aris_mem hA h1).2.2.2 i (by omega))).2.1
  exact List.all_eq_true.1 this z hz

/-- The least classes that an argument must be of are the same for a sort and for its Normal. -/
theorem need_normal (hO : openErr cs = 0) (hA : arisErr cs ts l = 0) (hR : regularB cs l = true) {n : ByteArray} {s p : List ByteArray} (hp : IsNormalOf ltS (belowB cs) s p) (hk : ∀ c, c ∈ s → knownB cs c = true)
    (hs : ∀ c, c ∈ s → (n, c) ∈ l.map pairOf) {i : Nat} (hi : (i : Int) < (tdAt ts (tIdx ts n)).arity) (z : ByteArray) : IsLeast (belowB cs) (needU l n s i) z ↔ IsLeast (belowB cs) (needU l n p i) z := by
  refine isLeast_cover (classes_ord hO) (fun c hc => ?_) (fun y hy => ?_) z
  · obtain ⟨d, hd, hc⟩ := List.mem_flatMap.1 hc
    exact List.mem_flatMap.2 ⟨d, ((hp.mem d).1 hd).1, hc⟩
  · obtain ⟨c, hc, hy⟩ := List.mem_flatMap.1 hy
    obtain ⟨d, hd, hb⟩ := least_below (classes_ord hO) hc (hk c hc)
    have hdp := (hp.mem d).2 hd
    have hdm := hs d hd.1
    have hl := args_len hA hdm
    have := (regular_up hA hR hdm hb).2 i (by omega)
    obtain ⟨x, hx, hxy⟩ := (lessB_iff.1 this).2 y hy
    exact ⟨x, List.mem_flatMap.2 ⟨d, hdp, hx⟩, hxy⟩

/-- One class after the other: the least ones so far stand for all. -/
theorem need_snoc (hO : openErr cs = 0) {X p y : List ByteArray} (hp : IsNormalOf ltS (belowB cs) X p) (kX : ∀ c, c ∈ X → knownB cs c = true) (ky : ∀ c, c ∈ y → knownB cs c = true) (z : ByteArray) : IsLeast (belowB cs) (X ++ y) z ↔ IsLeast (belowB cs) (p ++ y) z := by
  refine isLeast_cover (classes_ord hO) (fun c hc => ?_) (fun c hc => ?_) z
  · rcases List.mem_append.1 hc with h | h
    · exact List.mem_append.2 (.inl ((hp.mem c).1 h).1)
    · exact List.mem_append.2 (.inr h)
  · rcases List.mem_append.1 hc with h | h
    · obtain ⟨d, hd, hb⟩ := least_below (classes_ord hO) h (kX c h)
      exact ⟨d, List.mem_append.2 (.inl ((hp.mem d).2 hd)), hb⟩
    · exact ⟨c, List.mem_append.2 (.inr h), (classes_ord hO).refl c (ky c h)⟩

theorem needU_snoc (n c : ByteArray) (s : List ByteArray) (i : Nat) : needU l n (s ++ [c]) i = needU l n s i ++ sortOf (ariOf l n c).sorts i := by
  unfold needU
  rw [List.flatMap_append]
  simp
end
end Go.Proofs.Ytlaibimdkamcfaa
end

section
/-
  Ground: the mathematics, and how a type without variables lies in cells.
-/
namespace Go.Proofs.Ytlaibimdkamcfaa
open Go.RowKit Go.Maps

/-- That a constructor can have a sort. -/
def CanU (ts : List TD) (l : List Ari) (n : ByteArray) (s : List ByteArray) : Prop := n ∈ tnames ts ∧ ∀ c, c ∈ s → (n, c) ∈ l.map pairOf

/-- What its arguments must be of. -/
noncomputable def argsU (cs : List Cls) (ts : List TD) (l : List Ari) (n : ByteArray) (s : List ByteArray) : List (List ByteArray) :=
  (List.range (tdAt ts (tIdx ts n)).arity.toNat).map fun i => leastFrom (belowB cs) (needU l n s i) [] (needU l n s i)

section
variable {cs : List Cls} {ts : List TD} {l : List Ari}

theorem argsU_eq {n : ByteArray} {s : List ByteArray} {U : List (List ByteArray)} (hl : (U.length : Int) = (tdAt ts (tIdx ts n)).arity) (hn : ∀ i (h : i < U.length), IsNormalOf ltS (belowB cs) (needU l n s i) U[i]) : U = argsU cs ts l n s := by
  have hk : (tdAt ts (tIdx ts n)).arity.toNat = U.length := by omega
  unfold argsU
  rw [hk]
  refine List.ext_getElem (by simp) fun i h1 h2 => ?_
  rw [List.getElem_map, List.getElem_range]
  exact (hn i h1).unique ltS_irr ltS_trans (leastFrom_normal _ _) fun _ => Iff.rfl

/-- That there is a type of at most a depth that has a sort. -/
def Gr (cs : List Cls) (ts : List TD) (l : List Ari) : Nat → List ByteArray → Prop
  | 0, _ => False
  | d + 1, s => ∃ k, k < ts.length ∧ CanU ts l (tdAt ts k).name s ∧ ∀ u, u ∈ argsU cs ts l (tdAt ts k).name s → Gr cs ts l d u

/-- That a constructor, with arguments of at most a depth, has a sort. -/
def OkAt (cs : List Cls) (ts : List TD) (l : List Ari) (d : Nat) (n : ByteArray) (s : List ByteArray) : Prop := CanU ts l n s ∧ ∀ u, u ∈ argsU cs ts l n s → Gr cs ts l d u

theorem gr_succ {d : Nat} {s : List ByteArray} : Gr cs ts l (d + 1) s ↔ ∃ k, k < ts.length ∧ OkAt cs ts l d (tdAt ts k).name s := Iff.rfl

/-- An address of a cell of its own. -/
def PlainA (a : Option Addr) : Prop := ∀ x, a = some x → ∃ b o, x = ⟨b, o, none⟩

/-- A constructor with its arguments, as a value: it lies in blocks of S. -/
def RepC (S : Nat → Prop) (W : World) (R : List ByteArray → Value → Prop) (n : ByteArray) (U : List (List ByteArray)) (v : Value) : Prop :=
  ∃ (aa : Option Addr) (sc ac : Nat), PlainA aa ∧ v = .agg #[.int .i64 1, .string n, .int .i64 0, .slice none 0 sc, .slice aa U.length ac] ∧
    ∀ i (h : i < U.length), ∃ (b o : Nat) (v0 v1 v2 v3 v4 : Value), S b ∧ aa = some ⟨b, o, none⟩ ∧ W.cell? ⟨b, o + i * 5, none⟩ = some v0 ∧ W.cell? ⟨b, o + i * 5 + 1, none⟩ = some v1 ∧ W.cell? ⟨b, o + i * 5 + 2, none⟩ = some v2 ∧ W.cell? ⟨b, o + i * 5 + 3, none⟩ = some v3 ∧ W.cell? ⟨b, o + i * 5 + 4, none⟩ = some v4 ∧ R U[i] (.agg #[v0, v1, v2, v3, v4])

/-- The first type of a depth that has a sort, as a value: it lies in blocks of S. -/
def Rep (cs : List Cls) (ts : List TD) (l : List Ari) (S : Nat → Prop) (W : World) : Nat → List ByteArray → Value → Prop
  | 0, _, _ => False
  | d + 1, s, v => ∃ (k : Nat), k < ts.length ∧ OkAt cs ts l d (tdAt ts k).name s ∧ (∀ j, j < k → ¬ OkAt cs ts l d (tdAt ts j).name s) ∧ RepC S W (Rep cs ts l S W d) (tdAt ts k).name (argsU cs ts l (tdAt ts k).name s) v

theorem lt_of_cell {W : World} {p : Addr} {v : Value} (h : W.cell? p = some v) : p.block < W.heap.size := by
  unfold World.cell? at h
  cases ho : W.heap[p.block]? with
  | none => rw [ho] at h; cases h
  | some o => exact (Array.getElem?_eq_some_iff.1 ho).1

theorem cell_block {W W' : World} {p : Addr} (h : W'.heap[p.block]? = W.heap[p.block]?) : W'.cell? p = W.cell? p := by
  unfold World.cell?
  rw [h]

/-- Blocks of S, but for maps, that lie as they lay. -/
def SameIn (S : Nat → Prop) (W W' : World) : Prop := ∀ b, S b → b < W.heap.size → (∀ es k, W.heap[b]? ≠ some (.map es k)) → W'.heap[b]? = W.heap[b]?

theorem SameIn.trans {S : Nat → Prop} {A B C : World} (h : SameIn S A B) (k : SameIn S B C) (hs : A.heap.size ≤ B.heap.size) : SameIn S A C := fun b hb hl hn => by
  have e := h b hb hl hn
  exact (k b hb (by omega) (by rw [e]; exact hn)).trans e
theorem SameIn.below {S : Nat → Prop} {A B : World} (h : Below A.heap.size A B) : SameIn S A B := fun b _ hl _ => h.block b hl
theorem SameIn.refl (S : Nat → Prop) (A : World) : SameIn S A A := fun _ _ _ _ => rfl

theorem no_map {W : World} {b o : Nat} {v : Value} (h : W.cell? ⟨b, o, none⟩ = some v) : ∀ es k, W.heap[b]? ≠ some (.map es k) := fun _ _ hm => cell_noMap h hm rfl

theorem RepC.keep {S S' : Nat → Prop} {W W' : World} {R R' : List ByteArray → Value → Prop} {n : ByteArray} {U : List (List ByteArray)} {v : Value} (hk : SameIn S W W') (hs : ∀ b, S b → b < W.heap.size → S' b) (hR : ∀ u x, R u x → R' u x) (h : RepC S W R n U v) : RepC S' W' R' n U v := by
  obtain ⟨aa, sc, ac, hp, h4, h5⟩ := h
  refine ⟨aa, sc, ac, hp, h4, fun i hi => ?_⟩
  obtain ⟨b, o, v0, v1, v2, v3, v4, hb, ha, c0, c1, c2, c3, c4, hr⟩ := h5 i hi
  have hl := lt_of_cell c0
  have e := hk b hb hl (no_map c0)
  exact ⟨b, o, v0, v1, v2, v3, v4, hs b hb hl, ha, (cell_block (p := ⟨b, _, none⟩) e).trans c0, (cell_block (p := ⟨b, _, none⟩) e).trans c1, (cell_block (p := ⟨b, _, none⟩) e).trans c2, (cell_block (p := ⟨b, _, none⟩) e).trans c3, (cell_block (p := ⟨b, _, none⟩) e).trans c4, hR _ _ hr⟩

theorem Rep.keep {S S' : Nat → Prop} {W W' : World} (hk : SameIn S W W') (hs : ∀ b, S b → b < W.heap.size → S' b) : ∀ {d : Nat} {s : List ByteArray} {v : Value}, Rep cs ts l S W d s v → Rep cs ts l S' W' d s v
  | 0, _, _, h => h
  | d + 1, s, v, h => by
    obtain ⟨k, h1, h2, h3, h4⟩ := h
    exact ⟨k, h1, h2, h3, h4.keep hk hs fun u x hr => Rep.keep hk hs hr⟩

theorem Rep.mono {S S' : Nat → Prop} {W : World} (hs : ∀ b, S b → b < W.heap.size → S' b) {d : Nat} {s : List ByteArray} {v : Value} (h : Rep cs ts l S W d s v) : Rep cs ts l S' W d s v := h.keep (SameIn.refl _ _) hs

theorem Rep.gr {S : Nat → Prop} {W : World} {d : Nat} {s : List ByteArray} {v : Value} (h : Rep cs ts l S W d s v) : Gr cs ts l d s := by
  cases d with
  | zero => exact h
  | succ d => obtain ⟨k, h1, h2, _⟩ := h; exact ⟨k, h1, h2⟩

theorem Rep.form {S : Nat → Prop} {W : World} {d : Nat} {s : List ByteArray} {v : Value} (h : Rep cs ts l S W d s v) : ∃ (n : ByteArray) (aa : Option Addr) (sc m ac : Nat), v = .agg #[.int .i64 1, .string n, .int .i64 0, .slice none 0 sc, .slice aa m ac] := by
  cases d with
  | zero => exact h.elim
  | succ d => obtain ⟨k, _, _, _, _, _, _, _, h4, _⟩ := h; exact ⟨_, _, _, _, _, h4⟩

/-- Sorts for which constructors are asked the same. -/
def Alike (cs : List Cls) (ts : List TD) (l : List Ari) (s s' : List ByteArray) : Prop := ∀ k, k < ts.length → (CanU ts l (tdAt ts k).name s ↔ CanU ts l (tdAt ts k).name s') ∧ (CanU ts l (tdAt ts k).name s → argsU cs ts l (tdAt ts k).name s = argsU cs ts l (tdAt ts k).name s')

theorem Alike.ok {s s' : List ByteArray} (h : Alike cs ts l s s') {k : Nat} (hk : k < ts.length) {d : Nat} : OkAt cs ts l d (tdAt ts k).name s ↔ OkAt cs ts l d (tdAt ts k).name s' := by
  constructor
  · rintro ⟨h1, h2⟩
    refine ⟨(h k hk).1.1 h1, ?_⟩
    rw [← (h k hk).2 h1]; exact h2
  · rintro ⟨h1, h2⟩
    have h1' := (h k hk).1.2 h1
    refine ⟨h1', ?_⟩
    rw [(h k hk).2 h1']; exact h2

theorem Alike.gr {s s' : List ByteArray} (h : Alike cs ts l s s') {d : Nat} : Gr cs ts l d s ↔ Gr cs ts l d s' := by
  cases d with
  | zero => exact Iff.rfl
  | succ d => exact ⟨fun ⟨k, hk, h'⟩ => ⟨k, hk, (h.ok hk).1 h'⟩, fun ⟨k, hk, h'⟩ => ⟨k, hk, (h.ok hk).2 h'⟩⟩

theorem Alike.rep {s s' : List ByteArray} (h : Alike cs ts l s s') {S : Nat → Prop} {W : World} {d : Nat} {v : Value} (r : Rep cs ts l S W d s v) : Rep cs ts l S W d s' v := by
  cases d with
  | zero => exact r
  | succ d =>
    obtain ⟨k, h1, h2, h3, h4⟩ := r
    have e := (h k h1).2 h2.1
    rw [e] at h4
    exact ⟨k, h1, (h.ok h1).1 h2, fun j hj hn => h3 j hj ((h.ok (by omega)).2 hn), h4⟩

theorem Alike.symm {s s' : List ByteArray} (h : Alike cs ts l s s') : Alike cs ts l s' s := fun k hk => ⟨(h k hk).1.symm, fun hc => ((h k hk).2 ((h k hk).1.2 hc)).symm⟩

theorem Alike.rep' {s s' : List ByteArray} (h : Alike cs ts l s s') {S : Nat → Prop} {W : World} {d : Nat} {v : Value} (r : Rep cs ts l S W d s' v) : Rep cs ts l S W d s v := h.symm.rep r

theorem alike_normal (hO : openErr cs = 0) (hT : typesErr ts = 0) (hA : arisErr cs ts l = 0) (hR : regularB cs l = true) {s p : List ByteArray} (hp : IsNormalOf ltS (belowB cs) s p) (hk : ∀ c, c ∈ s → knownB cs c = true) : Alike cs ts l s p := fun k _ => by
  have hiff := have_normal (n := (tdAt ts k).name) hO hA hR hp hk
  refine ⟨⟨fun ⟨a, b⟩ => ⟨a, hiff.2 b⟩, fun ⟨a, b⟩ => ⟨a, hiff.1 b⟩⟩, fun ⟨_, hs⟩ => ?_⟩
  unfold argsU
  refine List.map_congr_left fun i hi => ?_
  have hi' : i < (tdAt ts (tIdx ts (tdAt ts k).name)).arity.toNat := List.mem_range.1 hi
  exact (leastFrom_normal (belowB cs) _).unique ltS_irr ltS_trans (leastFrom_normal (belowB cs) _) (need_normal hO hA hR hp hk hs (by omega))

/-- What an argument must be of is known. -/
theorem argsU_known (hA : arisErr cs ts l = 0) {n : ByteArray} {s : List ByteArray} (hs : CanU ts l n s) {u : List ByteArray} (hu : u ∈ argsU cs ts l n s) : (∀ c, c ∈ u → knownB cs c = true) ∧ u.Pairwise ltS := by
  unfold argsU at hu
  obtain ⟨i, hi, rfl⟩ := List.mem_map.1 hu
  have hN := leastFrom_normal (belowB cs) (needU l n s i)
  exact ⟨fun c hc => need_known hA hs.2 (by have := List.mem_range.1 hi; omega) c ((hN.mem c).1 hc).1, hN.asc⟩

theorem nodup_len {α : Type} [DecidableEq α] : ∀ {u m : List α}, u.Nodup → (∀ c, c ∈ u → c ∈ m) → u.length ≤ m.length
  | [], _, _, _ => Nat.zero_le _
  | c :: u, m, h, hs => by
    have hc := hs c List.mem_cons_self
    obtain ⟨h1, h2⟩ := List.nodup_cons.1 h
    have := nodup_len (m := m.erase c) h2 fun x hx => (List.mem_erase_of_ne (fun e => h1 (by rw [← e]; exact hx))).2 (hs x (List.mem_cons_of_mem _ hx))
    have h3 := List.length_erase_of_mem hc
    have h4 := List.length_pos_of_mem hc
    simp only [List.length_cons]
    omega

/-- A sort of known classes, ascending, has no more classes than there are. -/
theorem known_len {u : List ByteArray} (hk : ∀ c, c ∈ u → knownB cs c = true) (ha : u.Pairwise ltS) : u.length ≤ cs.length := by
  have h := @nodup_len ByteArray (fun a b => Classical.propDecidable (a = b)) u (cs.map (·.name)) (ha.imp fun h e => by subst e; exact ltS_irr _ h) fun c hc => by
    have hk' := hk c hc
    exact List.mem_map.2 ⟨_, List.getElem_mem (idx_lt hk'), idx_get hk'⟩
  rwa [List.length_map] at h
end
end Go.Proofs.Ytlaibimdkamcfaa
end

