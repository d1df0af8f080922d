/-
  The map of the sorts of arities: its keys, its elements.
-/
import Derived.Test.YtlaibimdkamcfaaH3
import Derived.DeepKeys4
import Derived.WideKeyArgs2
namespace Go.Proofs.Ytlaibimdkamcfaa
open Go.RowKit Go.Maps Go.WideMaps

theorem Try.row128 : (128 : TypeId) < Try.prog.types.size := of_decide_eq_true (by kernel_rfl)
theorem Try.laidOut' : laidOutB Try.prog = true := by kernel_rfl
theorem Try.wide128 : (match Try.prog.underlying 128 with | some (.array _ _) | some (.struct _) => true | _ => false) = true := by kernel_rfl
set_option maxRecDepth 100000 in
theorem Try.law128 : KeyLaw Try.prog 128 := deep_law_laid Try.laidOut' (m := 2) (by omega) Try.row128 (by kernel_rfl) Try.wide128
theorem Try.keyed128 : Keyed Try.prog 128 := Keyed.of_law Try.law128
theorem Try.keyType128 : Try.prog.keyType 128 = true := by kernel_rfl
theorem cells9' : Try.prog.cellsOf 9 = 1 := by kernel_rfl
theorem Try.cells128 : Try.prog.cellsOf 128 = 2 := by kernel_rfl

/-- The key of a place. -/
def placeLit (p : ByteArray × ByteArray) : Lit := .string (keyBytes [.string p.1.data.toList, .string p.2.data.toList])

theorem place_key {p : ByteArray × ByteArray} (h1 : p.1.size ≤ maxLen) (h2 : p.2.size ≤ maxLen) : keyOf Try.prog 128 (.agg #[.string p.1, .string p.2]) = some (placeLit p) := by
  have hf : (Value.agg #[.string p.1, .string p.2]).formed Try.prog 128 = true := by simp [Value.formed, Try.underlying128, Try.cells128]
  unfold keyOf
  simp only [Try.underlying128, Try.keyType128, hf, Bool.and_self, if_true]
  obtain ⟨k, hk⟩ : ∃ k, Try.prog.types.size + 1 = k + 2 := ⟨Try.prog.types.size - 1, by have h : (128 : Nat) < Try.prog.types.size := Try.row128; omega⟩
  rw [hk]
  simp [Program.keyLits, Try.underlying128, Try.underlying9, Try.cells128, Value.cells, h1, h2, cells9', placeLit]

theorem place_inj {p q : ByteArray × ByteArray} (h1 : p.1.size ≤ maxLen) (h2 : p.2.size ≤ maxLen) (k1 : q.1.size ≤ maxLen) (k2 : q.2.size ≤ maxLen) (e : placeLit p = placeLit q) : p = q := by
  have := Try.law128.inj (place_key h1 h2) (by rw [e]; exact place_key k1 k2)
  simp only [Value.agg.injEq, Array.mk.injEq, List.cons.injEq, Value.string.injEq] at this
  exact Prod.ext this.1 this.2.1

/-- How a slice reads as an element of a map: by itself. -/
def sliceR : Value → Option (DataW Unit × List MemPlace)
  | .slice none n c => some (.agg [.lit (.bool false), .lit (.int .i64 n), .lit (.int .i64 c)], [])
  | .slice (some ⟨b, o, none⟩) n c => some (.agg [.lit (.bool true), .lit (.int .i64 b), .lit (.int .i64 o), .lit (.int .i64 n), .lit (.int .i64 c)], [])
  | _ => none

theorem sliceR_some {v : Value} {z : DataW Unit × List MemPlace} (h : sliceR v = some z) : ∃ a n c, v = .slice a n c ∧ z.2 = [] := by
  unfold sliceR at h
  split at h
  · exact ⟨_, _, _, rfl, by cases h; rfl⟩
  · exact ⟨_, _, _, rfl, by cases h; rfl⟩
  · cases h

theorem sliceR_inj {v v' : Value} {d : DataW Unit} {p p' : List MemPlace} (h : sliceR v = some (d, p)) (h' : sliceR v' = some (d, p')) : v = v' := by
  unfold sliceR at h h'
  split at h <;> split at h' <;> first | (cases h; done) | (cases h'; done) | (
    simp only [Option.some.injEq, Prod.mk.injEq] at h h'
    have e := h.1.trans h'.1.symm
    simp at e
    try simp [e]
    try omega)

theorem zero44 (w : World) : (zeroValue 44).run Try.prog w = .ok (.slice none 0 0) w := by kernel_rfl

/-- What an element of the map reads as where there is none. -/
def zero44D : DataW Unit := .agg [.lit (.bool false), .lit (.int .i64 0), .lit (.int .i64 0)]
theorem zero44R : sliceR (.slice none 0 0) = some (zero44D, []) := rfl

/-- A slice of the sorts of an arity. -/
def SortsV (W : World) (L : List (List ByteArray)) (v : Value) : Prop := ∃ (sa : Option Addr) (sb so sc : Nat), v = .slice sa L.length sc ∧ (L ≠ [] → sa = some ⟨sb, so, none⟩) ∧ SortsAt W sb so L

/-- The map of the sorts of arities that have been read. -/
structure PlacesAt (l : List Ari) (ms n : Nat) (D : DataW Unit) (W : World) : Prop where
  map : W.ownsMap Try.prog 128 sliceR ms n D
  has : ∀ p : ByteArray × ByteArray, p.1.size ≤ maxLen → p.2.size ≤ maxLen → (Maps.has D (placeLit p) = true ↔ p ∈ l.map pairOf)
  at_ : ∀ a, a ∈ l → ∃ v, sliceR v = some (D.atKey (placeLit (pairOf a)) zero44D, []) ∧ SortsV W a.sorts v
  isMap : Maps.IsMap D

/-- A cell lies in no map. -/
theorem cell_noMap {W : World} {p : Addr} {v : Value} {m : Nat} {es : Array MapEntry} {k : Nat} (h : W.cell? p = some v) (hm : W.heap[m]? = some (.map es k)) : p.block ≠ m := by
  intro e
  unfold World.cell? at h
  rw [e, hm] at h
  cases h

/-- All cells lie as they lay. -/
def KeepsCells (W W' : World) : Prop := W.heap.size ≤ W'.heap.size ∧ ∀ (p : Addr) (v : Value), W.cell? p = some v → W'.cell? p = some v

theorem KeepsCells.below {W W' : World} (h : Below W.heap.size W W') : KeepsCells W W' := ⟨h.size, fun p v hp => (h.cell (p := p) (by
  unfold World.cell? at hp
  cases ho : W.heap[p.block]? with
  | none => rw [ho] at hp; cases hp
  | some o => exact (Array.getElem?_eq_some_iff.1 ho).1)).trans hp⟩
theorem KeepsCells.grown {W W' : World} {m : Nat} {es : Array MapEntry} {k : Nat} (hm : W.heap[m]? = some (.map es k)) (h : W.grownBy W' (some m)) : KeepsCells W W' := ⟨h.size, fun p v hp => by
  have hb : p.block < W.heap.size := by
    unfold World.cell? at hp
    cases ho : W.heap[p.block]? with
    | none => rw [ho] at hp; cases hp
    | some o => exact (Array.getElem?_eq_some_iff.1 ho).1
  have hne := cell_noMap hp hm
  rw [← hp]
  unfold World.cell?
  rw [h.block p.block hb (by simpa using hne)]⟩

theorem StrsAt.cells {W W' : World} {b o : Nat} {l : List ByteArray} (h : StrsAt W b o l) (k : KeepsCells W W') : StrsAt W' b o l :=
  ⟨fun hn => Nat.lt_of_lt_of_le (h.lt hn) k.1, fun i hi => k.2 _ _ (h.cell i hi), h.size⟩
theorem SortAt.cells {W W' : World} {a : Option Addr} {x : List ByteArray} (h : SortAt W a x) (k : KeepsCells W W') : SortAt W' a x := by
  obtain ⟨b, o, h1, h2, h3⟩ := h
  exact ⟨b, o, h1, h2.cells k, h3⟩
theorem SortsAt.cells {W W' : World} {b o : Nat} {L : List (List ByteArray)} (h : SortsAt W b o L) (k : KeepsCells W W') : SortsAt W' b o L := by
  intro i hi
  obtain ⟨hlt, a, c, h1, h2⟩ := h i hi
  exact ⟨Nat.lt_of_lt_of_le hlt k.1, a, c, k.2 _ _ h1, h2.cells k⟩
theorem SortsV.cells {W W' : World} {L : List (List ByteArray)} {v : Value} (h : SortsV W L v) (k : KeepsCells W W') : SortsV W' L v := by
  obtain ⟨sa, sb, so, sc, h1, h2, h3⟩ := h
  exact ⟨sa, sb, so, sc, h1, h2, h3.cells k⟩

theorem PlacesAt.keep {l : List Ari} {ms n : Nat} {D : DataW Unit} {W W' : World} (h : PlacesAt l ms n D W) (hb : W'.heap[ms]? = W.heap[ms]?) (k : KeepsCells W W') : PlacesAt l ms n D W' := by
  obtain ⟨es, clock, h1, h2⟩ := h.map
  exact ⟨⟨es, clock, hb.trans h1, h2⟩, h.has, fun a ha => (by obtain ⟨v, h1, h2⟩ := h.at_ a ha; exact ⟨v, h1, h2.cells k⟩), h.isMap⟩
theorem PlacesAt.below {l : List Ari} {ms n : Nat} {D : DataW Unit} {W W' : World} (h : PlacesAt l ms n D W) (hb : Below W.heap.size W W') : PlacesAt l ms n D W' := h.keep (hb.block ms h.map.lt) (KeepsCells.below hb)

/-- A further arity. -/
theorem PlacesAt.put {l : List Ari} {ms n : Nat} {D d : DataW Unit} {W W' : World} (h : PlacesAt l ms n D W) {a : Ari} {v : Value} (hs1 : a.typ.size ≤ maxLen) (hs2 : a.cls.size ≤ maxLen) (hl : ∀ b, b ∈ l → b.typ.size ≤ maxLen ∧ b.cls.size ≤ maxLen) (hn : pairOf a ∉ l.map pairOf)
    (hv : sliceR v = some (d, [])) (hsv : SortsV W a.sorts v) (hg : W.grownBy W' (some ms)) (hmap : W'.ownsMap Try.prog 128 sliceR ms (n + 1) (D.put (placeLit (pairOf a)) d)) :
    PlacesAt (l ++ [a]) ms (n + 1) (D.put (placeLit (pairOf a)) d) W' := by
  obtain ⟨es, clock, hm, _⟩ := h.map
  have k := KeepsCells.grown hm hg
  have hkey : WideAt.IsKeyLit (placeLit (pairOf a)) := by exact trivial
  refine ⟨hmap, fun p hp1 hp2 => ?_, fun b hb => ?_, h.isMap.put _ _⟩
  · rw [List.map_append, List.mem_append]
    by_cases e : p = pairOf a
    · rw [e, Maps.has_put_same h.isMap hkey]
      simp
    · rw [Maps.has_put_other (fun e' => e (place_inj hp1 hp2 hs1 hs2 (by first | exact e' | exact e'.symm))), h.has p hp1 hp2]
      simp [e]
  · rcases List.mem_append.1 hb with hb | hb
    · obtain ⟨v', h1, h2⟩ := h.at_ b hb
      have hne : pairOf b ≠ pairOf a := fun e => hn (by rw [← e]; exact List.mem_map.2 ⟨b, hb, rfl⟩)
      refine ⟨v', ?_, h2.cells k⟩
      rw [Maps.atKey_put_other (fun e' => hne (place_inj (hl b hb).1 (hl b hb).2 hs1 hs2 (by first | exact e' | exact e'.symm)))]
      exact h1
    · rw [List.mem_singleton.1 hb]
      refine ⟨v, ?_, hsv.cells k⟩
      rw [Maps.atKey_put_same h.isMap hkey]
      exact hv
end Go.Proofs.Ytlaibimdkamcfaa
