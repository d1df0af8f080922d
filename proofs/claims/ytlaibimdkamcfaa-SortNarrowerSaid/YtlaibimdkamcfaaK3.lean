import Derived.Test.YtlaibimdkamcfaaShelfJ
import Derived.Test.YtlaibimdkamcfaaK0
section
/-
  Ground: the keys of what was found: strings.Join is injective on names; structs of a string and a number as keys.
-/
namespace Go.Proofs.Ytlaibimdkamcfaa
open Go.RowKit Go.Maps Go.WideMaps

/-- A sort, written with commas. -/
def joinS (x : List ByteArray) : ByteArray := ⟨(Lib.join (x.map (·.data.toList)) [44]).toArray⟩

theorem comma_sep : ∀ {a b r q : List UInt8}, (44 : UInt8) ∉ a → (44 : UInt8) ∉ b → a ++ 44 :: r = b ++ 44 :: q → a = b ∧ r = q
  | [], [], _, _, _, _, h => ⟨rfl, by simpa using h⟩
  | [], y :: b, _, _, _, hb, h => by simp only [List.nil_append, List.cons_append, List.cons.injEq] at h; exact absurd (by rw [← h.1]; simp) hb
  | x :: a, [], _, _, ha, _, h => by simp only [List.nil_append, List.cons_append, List.cons.injEq] at h; exact absurd (by rw [h.1]; simp) ha
  | x :: a, y :: b, _, _, ha, hb, h => by
    simp only [List.cons_append, List.cons.injEq] at h
    obtain ⟨rfl, h⟩ := h
    obtain ⟨e1, e2⟩ := comma_sep (fun e => ha (List.mem_cons_of_mem _ e)) (fun e => hb (List.mem_cons_of_mem _ e)) h
    exact ⟨by rw [e1], e2⟩

theorem join_two (x y : List UInt8) (r : List (List UInt8)) : Lib.join (x :: y :: r) [44] = x ++ 44 :: Lib.join (y :: r) [44] := by
  rw [Lib.join_cons, Lib.join_cons]
  simp [Lib.joinTail]

theorem join_inj : ∀ {l m : List (List UInt8)}, (∀ a, a ∈ l → a ≠ [] ∧ (44 : UInt8) ∉ a) → (∀ a, a ∈ m → a ≠ [] ∧ (44 : UInt8) ∉ a) → Lib.join l [44] = Lib.join m [44] → l = m
  | [], [], _, _, _ => rfl
  | [], y :: m, _, hm, h => by
    rw [Lib.join_nil, Lib.join_cons] at h
    exact absurd (List.append_eq_nil_iff.1 h.symm).1 (hm y List.mem_cons_self).1
  | x :: l, [], hl, _, h => by
    rw [Lib.join_nil, Lib.join_cons] at h
    exact absurd (List.append_eq_nil_iff.1 h).1 (hl x List.mem_cons_self).1
  | [x], [y], _, _, h => by rw [Lib.join_one, Lib.join_one] at h; rw [h]
  | [x], y :: z :: m, hl, _, h => by
    rw [Lib.join_one, join_two] at h
    exact absurd (by rw [h]; simp) (hl x List.mem_cons_self).2
  | x :: z :: l, [y], _, hm, h => by
    rw [Lib.join_one, join_two] at h
    exact absurd (by rw [← h]; simp) (hm y List.mem_cons_self).2
  | x :: z :: l, y :: u :: m, hl, hm, h => by
    rw [join_two, join_two] at h
    obtain ⟨e1, e2⟩ := comma_sep (hl x List.mem_cons_self).2 (hm y List.mem_cons_self).2 h
    rw [e1, join_inj (fun a ha => hl a (List.mem_cons_of_mem _ ha)) (fun a ha => hm a (List.mem_cons_of_mem _ ha)) e2]

/-- A name is not empty and has no comma. -/
theorem comma_name : ∀ {l : List UInt8} {f : Bool}, (44 : UInt8) ∈ l → nameFrom f l = false
  | [], _, h => by cases h
  | b :: r, f, h => by
    unfold nameFrom
    rcases List.mem_cons.1 h with e | e
    · subst e
      rw [show startsB (((44 : UInt8).toNat : Nat) : Int) = false by decide, show contB (((44 : UInt8).toNat : Nat) : Int) = false by decide]
      simp
    · rw [comma_name e, Bool.and_false]

theorem name_plain {c : ByteArray} (h : nameB c = true) : c.data.toList ≠ [] ∧ (44 : UInt8) ∉ c.data.toList := by
  unfold nameB at h
  simp only [Bool.and_eq_true, decide_eq_true_eq] at h
  obtain ⟨⟨h1, _⟩, h3⟩ := h
  refine ⟨fun e => ?_, fun e => by rw [comma_name e] at h3; cases h3⟩
  have : c.data.toList.length = c.size := by rw [Array.length_toList]; rfl
  rw [e] at this
  simp at this
  omega

theorem known_name {cs : List Cls} (hO : openErr cs = 0) {c : ByteArray} (h : knownB cs c = true) : nameB c = true := by
  have h1 := open_cls hO (idxOfC cs c) (idx_lt h)
  rw [clsAt_eq (idx_lt h)] at h1
  unfold clsErr at h1
  rw [idx_get h] at h1
  by_cases hn : nameB c = true
  · exact hn
  · rw [if_neg hn] at h1
    cases h1

theorem known_40 {cs : List Cls} (hO : openErr cs = 0) {c : ByteArray} (h : knownB cs c = true) : c.size ≤ 40 := by
  have := known_name hO h
  unfold nameB at this
  simp only [Bool.and_eq_true, decide_eq_true_eq] at this
  exact this.1.2

theorem joinS_inj {cs : List Cls} (hO : openErr cs = 0) {x y : List ByteArray} (hx : ∀ c, c ∈ x → knownB cs c = true) (hy : ∀ c, c ∈ y → knownB cs c = true) (h : joinS x = joinS y) : x = y := by
  have plain : ∀ {z : List ByteArray}, (∀ c, c ∈ z → knownB cs c = true) → ∀ a, a ∈ z.map (·.data.toList) → a ≠ [] ∧ (44 : UInt8) ∉ a := fun hz a ha => by
    obtain ⟨c, hc, rfl⟩ := List.mem_map.1 ha
    exact name_plain (known_name hO (hz c hc))
  have e : Lib.join (x.map (·.data.toList)) [44] = Lib.join (y.map (·.data.toList)) [44] := by
    unfold joinS at h
    have := congrArg (fun b => b.data.toList) h
    simpa using this
  have e2 := join_inj (plain hx) (plain hy) e
  exact (List.map_inj_right (fun a b hab => by
    have : a.data = b.data := Array.toList_inj.1 hab
    cases a; cases b; simpa using this)).1 e2

theorem lens_40 : ∀ l : List ByteArray, (∀ z, z ∈ l → z.size ≤ 40) → Lib.lens (l.map (·.data.toList)) ≤ 40 * l.length := by
  intro l
  induction l with
  | nil => intro _; simp [Lib.lens]
  | cons z l ih =>
    intro hz
    have h1 := ih fun u hu => hz u (List.mem_cons_of_mem _ hu)
    have h2 := hz z List.mem_cons_self
    simp only [Lib.lens, List.map_cons, List.sum_cons, List.length_cons, Array.length_toList] at h1 ⊢
    have : z.data.size = z.size := rfl
    omega

theorem join_any {a : Option Addr} {x : List ByteArray} {c : Nat} (w : World) (hx : SortAt w a x) (hc : x.length ≤ c) (hl : x.length ≤ 300) (hs : ∀ z, z ∈ x → z.size ≤ 40) :
    Calls Try.prog 79 #[.slice a x.length c, .string ⟨#[44]⟩] w fun e w' => e = .returned (.string (joinS x)) ∧ Below w.heap.size w w' := by
  obtain ⟨b, o, h1, h2, h3⟩ := hx
  cases x with
  | nil =>
    refine (Try.strings_Join_none a c ⟨#[44]⟩ w).mono ?_
    rintro e w' ⟨rfl, rfl⟩
    exact ⟨rfl, Below.refl _ _⟩
  | cons y r =>
    have e := h1 (by simp)
    subst e
    refine Try.strings_Join b o c (y :: r) ⟨#[44]⟩ w (fun j z hz => ?_) (h2.lt (by simp)) (by omega) hc ?_
    · have hj := (List.getElem?_eq_some_iff.1 hz).1
      rw [← (List.getElem?_eq_some_iff.1 hz).2]
      exact h2.cell j hj
    · rw [List.map_cons, Lib.join_length]
      have := lens_40 (y :: r) hs
      simp only [List.length_map, List.map_cons, List.length_cons] at this hl ⊢
      simp
      omega

/-! ### The keys of both maps -/
theorem Try.row122 : (122 : TypeId) < Try.prog.types.size := of_decide_eq_true (by kernel_rfl)
theorem Try.wide122 : (match Try.prog.underlying 122 with | some (.array _ _) | some (.struct _) => true | _ => false) = true := by kernel_rfl
set_option maxRecDepth 100000 in
theorem Try.law122 : KeyLaw Try.prog 122 := deep_law_laid Try.laidOut' (m := 2) (by omega) Try.row122 (by kernel_rfl) Try.wide122
theorem Try.keyed122 : Keyed Try.prog 122 := Keyed.of_law Try.law122
theorem Try.keyType122 : Try.prog.keyType 122 = true := by kernel_rfl
theorem Try.cells122 : Try.prog.cellsOf 122 = 2 := by kernel_rfl
theorem cells3' : Try.prog.cellsOf 3 = 1 := by kernel_rfl

/-- The key of a question. -/
def wantLit (s : ByteArray) (d : Nat) : Lit := .string (keyBytes [.string s.data.toList, .int .i64 d])

theorem want_key {s : ByteArray} {d : Nat} (h1 : s.size ≤ maxLen) (h2 : d ≤ 5) : keyOf Try.prog 122 (.agg #[.string s, .int .i64 d]) = some (wantLit s d) := by
  have hf : (Value.agg #[.string s, .int .i64 d]).formed Try.prog 122 = true := by simp [Value.formed, Try.underlying122, Try.cells122]
  unfold keyOf
  simp only [Try.underlying122, Try.keyType122, hf, Bool.and_self, if_true]
  obtain ⟨k, hk⟩ : ∃ k, Try.prog.types.size + 1 = k + 2 := ⟨Try.prog.types.size - 1, by have h : (122 : Nat) < Try.prog.types.size := Try.row122; omega⟩
  rw [hk]
  have hw : (Lit.int IntKind.i64 (d : Int)).wf = true := by
    have : d = 0 ∨ d = 1 ∨ d = 2 ∨ d = 3 ∨ d = 4 ∨ d = 5 := by omega
    rcases this with rfl | rfl | rfl | rfl | rfl | rfl <;> rfl
  simp [Program.keyLits, Try.underlying122, Try.underlying9, Try.underlying3, Try.cells122, Value.cells, h1, hw, cells9', cells3', wantLit]

theorem want_inj {s z : ByteArray} {d e : Nat} (h1 : s.size ≤ maxLen) (h2 : d ≤ 5) (k1 : z.size ≤ maxLen) (k2 : e ≤ 5) (h : wantLit s d = wantLit z e) : s = z ∧ d = e := by
  have := Try.law122.inj (want_key h1 h2) (by rw [h]; exact want_key k1 k2)
  simp only [Value.agg.injEq, Array.mk.injEq, List.cons.injEq, Value.string.injEq, Value.int.injEq, true_and, and_true] at this
  exact ⟨this.1, by omega⟩
end Go.Proofs.Ytlaibimdkamcfaa
end

section
/-
  Ground: what was found so far, in two maps.
-/
namespace Go.Proofs.Ytlaibimdkamcfaa
open Go.RowKit Go.Maps Go.WideMaps

/-- How a type reads as an element of a map: by itself. -/
def typeR : Value → Option (DataW Unit × List MemPlace)
  | .agg a => match a.toList with
    | [.int .i64 p, .string n, .int .i64 q, x, y] => match sliceR x, sliceR y with
      | some (dx, _), some (dy, _) => some (.agg [.lit (.int .i64 p), .lit (.string n.data.toList), .lit (.int .i64 q), dx, dy], [])
      | _, _ => none
    | _ => none
  | _ => none

theorem typeR_some {v : Value} {z : DataW Unit × List MemPlace} (h : typeR v = some z) : ∃ (p : Int) (n : ByteArray) (q : Int) (x y : Value) (dx dy : DataW Unit) (px py : List MemPlace), v = .agg #[.int .i64 p, .string n, .int .i64 q, x, y] ∧ sliceR x = some (dx, px) ∧ sliceR y = some (dy, py) ∧ z = (.agg [.lit (.int .i64 p), .lit (.string n.data.toList), .lit (.int .i64 q), dx, dy], []) := by
  unfold typeR at h
  split at h
  · rename_i a
    split at h
    · rename_i p n q x y hl
      split at h
      · rename_i dx px dy py h1 h2
        cases h
        refine ⟨p, n, q, x, y, dx, dy, px, py, ?_, h1, h2, rfl⟩
        rw [← hl]
      · cases h
    · cases h
  · cases h

theorem typeR_inj {v v' : Value} {d : DataW Unit} {p p' : List MemPlace} (h : typeR v = some (d, p)) (h' : typeR v' = some (d, p')) : v = v' := by
  obtain ⟨a, n, q, x, y, dx, dy, px, py, rfl, hx, hy, e⟩ := typeR_some h
  obtain ⟨a', n', q', x', y', dx', dy', px', py', rfl, hx', hy', e'⟩ := typeR_some h'
  have ed := (Prod.mk.inj e).1.symm.trans (Prod.mk.inj e').1
  simp only [DataW.agg.injEq, List.cons.injEq, DataW.lit.injEq, Lit.int.injEq, Lit.string.injEq, true_and, and_true] at ed
  obtain ⟨rfl, e2, rfl, rfl, rfl⟩ := ed
  have en : n = n' := by
    have : n.data = n'.data := Array.toList_inj.1 e2
    cases n; cases n'; simpa using this
  rw [en, sliceR_inj hx hx', sliceR_inj hy hy']

theorem sliceR_plain {a : Option Addr} (h : PlainA a) (n c : Nat) : ∃ d, sliceR (.slice a n c) = some (d, []) := by
  cases a with
  | none => exact ⟨_, rfl⟩
  | some x =>
    obtain ⟨b, o, rfl⟩ := h x rfl
    exact ⟨_, rfl⟩

theorem typeR_plain {p q : Int} {n : ByteArray} {xa ya : Option Addr} {xn xc yn yc : Nat} (hx : PlainA xa) (hy : PlainA ya) : ∃ d, typeR (.agg #[.int .i64 p, .string n, .int .i64 q, .slice xa xn xc, .slice ya yn yc]) = some (d, []) := by
  obtain ⟨dx, h1⟩ := sliceR_plain hx xn xc
  obtain ⟨dy, h2⟩ := sliceR_plain hy yn yc
  refine ⟨.agg [.lit (.int .i64 p), .lit (.string n.data.toList), .lit (.int .i64 q), dx, dy], ?_⟩
  show (match sliceR (.slice xa xn xc), sliceR (.slice ya yn yc) with | some (dx, _), some (dy, _) => some (DataW.agg [.lit (.int .i64 p), .lit (.string n.data.toList), .lit (.int .i64 q), dx, dy], []) | _, _ => none) = _
  rw [h1, h2]

theorem repC_typeR {S : Nat → Prop} {W : World} {R : List ByteArray → Value → Prop} {n : ByteArray} {U : List (List ByteArray)} {v : Value} (h : RepC S W R n U v) : ∃ d, typeR v = some (d, []) := by
  obtain ⟨aa, sc, ac, h2, rfl, _⟩ := h
  exact typeR_plain (fun x e => by cases e) h2

/-- The zero type. -/
def zeroT : Value := .agg #[.int .i64 0, .string ⟨#[]⟩, .int .i64 0, .slice none 0 0, .slice none 0 0]
theorem zero50 (w : World) : (zeroValue 50).run Try.prog w = .ok zeroT w := by kernel_rfl
def zero50D : DataW Unit := .agg [.lit (.int .i64 0), .lit (.string []), .lit (.int .i64 0), zero44D, zero44D]
theorem zero50R : typeR zeroT = some (zero50D, []) := rfl
theorem zero4 (w : World) : (zeroValue 4).run Try.prog w = .ok (.bool false) w := by kernel_rfl

/-- How a bool reads as an element of a map. -/
def boolR : Value → Option (DataW Unit × List MemPlace)
  | .bool b => some (.lit (.bool b), [])
  | _ => none

theorem boolR_some {v : Value} {z : DataW Unit × List MemPlace} (h : boolR v = some z) : ∃ b, v = .bool b ∧ z = (.lit (.bool b), []) := by
  unfold boolR at h
  split at h
  · exact ⟨_, rfl, by cases h; rfl⟩
  · cases h

/-- Both maps. -/
structure Memo (cs : List Cls) (ts : List TD) (l : List Ari) (S : Nat → Prop) (f m nf nm : Nat) (W : World) : Prop where
  ne : f ≠ m
  ex : ∃ (D E : DataW Unit), W.ownsMap Try.prog 122 typeR f nf D ∧ Maps.IsMap D ∧ W.ownsMap Try.prog 122 boolR m nm E ∧ Maps.IsMap E ∧
    (∀ (s : List ByteArray) (d : Nat), (∀ c, c ∈ s → knownB cs c = true) → s.length ≤ 20 → d ≤ 5 → Maps.has D (wantLit (joinS s) d) = true → ∃ v, typeR v = some (D.atKey (wantLit (joinS s) d) zero50D, []) ∧ Rep cs ts l S W d s v) ∧
    (∀ (s : List ByteArray) (d : Nat), (∀ c, c ∈ s → knownB cs c = true) → s.length ≤ 20 → d ≤ 5 → E.atKey (wantLit (joinS s) d) (.lit (.bool false)) = .lit (.bool true) → ¬ Gr cs ts l d s)

section
variable {cs : List Cls} {ts : List TD} {l : List Ari}

theorem Memo.keep {S S' : Nat → Prop} {f m nf nm : Nat} {W W' : World} (h : Memo cs ts l S f m nf nm W) (hf : W'.heap[f]? = W.heap[f]?) (hm : W'.heap[m]? = W.heap[m]?) (hk : SameIn S W W') (hs : ∀ b, S b → b < W.heap.size → S' b) : Memo cs ts l S' f m nf nm W' := by
  obtain ⟨ne, D, E, ⟨es, c, h1, h2⟩, h3, ⟨es', c', h4, h5⟩, h6, h7, h8⟩ := h
  exact ⟨ne, D, E, ⟨es, c, hf.trans h1, h2⟩, h3, ⟨es', c', hm.trans h4, h5⟩, h6, fun s d a b c e => (by obtain ⟨v, q1, q2⟩ := h7 s d a b c e; exact ⟨v, q1, q2.keep hk hs⟩), h8⟩

theorem Memo.lt {S : Nat → Prop} {f m nf nm : Nat} {W : World} (h : Memo cs ts l S f m nf nm W) : f < W.heap.size ∧ m < W.heap.size := by
  obtain ⟨ne, D, E, h1, h3, h4, _⟩ := h
  exact ⟨h1.lt, h4.lt⟩

theorem Memo.maps {S : Nat → Prop} {f m nf nm : Nat} {W : World} (h : Memo cs ts l S f m nf nm W) : (∃ es k, W.heap[f]? = some (.map es k)) ∧ ∃ es k, W.heap[m]? = some (.map es k) := by
  obtain ⟨ne, D, E, ⟨es, c, h1, h2⟩, h3, ⟨es', c', h4, h5⟩, _⟩ := h
  exact ⟨⟨es, c, h1⟩, ⟨es', c', h4⟩⟩

theorem Memo.below {S : Nat → Prop} {f m nf nm : Nat} {W W' : World} (h : Memo cs ts l S f m nf nm W) (hb : Below W.heap.size W W') : Memo cs ts l S f m nf nm W' := h.keep (hb.block f h.lt.1) (hb.block m h.lt.2) (SameIn.below hb) (fun _ h _ => h)

theorem joinS_size {x : List ByteArray} (hl : x.length ≤ 300) (hs : ∀ z, z ∈ x → z.size ≤ 40) : (joinS x).size ≤ maxLen := by
  have e : (joinS x).size = (Lib.join (x.map (·.data.toList)) [44]).length := by unfold joinS; show (List.toArray _).size = _; simp
  rw [e]
  cases x with
  | nil => simp [Lib.join_nil, maxLen]
  | cons y r =>
    rw [List.map_cons, Lib.join_length]
    have := lens_40 (y :: r) hs
    simp only [List.length_map, List.map_cons, List.length_cons] at this hl ⊢
    unfold maxLen
    simp
    omega

/-- What is found of a question. -/
theorem memo_found {S : Nat → Prop} {f m nf nm : Nat} {W : World} (h : Memo cs ts l S f m nf nm W) (hO : openErr cs = 0) {s : List ByteArray} {d : Nat} (hk : ∀ c, c ∈ s → knownB cs c = true) (hl : s.length ≤ 20) (hd : d ≤ 5) :
    ∃ (p : Int) (n : ByteArray) (q : Int) (xa ya : Option Addr) (xn xc yn yc : Nat) (b : Bool), (Instr.lookup 91 (.map (some f)) (.agg #[.string (joinS s), .int .i64 d]) true).run Try.prog W = .ok (.tuple #[.agg #[.int .i64 p, .string n, .int .i64 q, .slice xa xn xc, .slice ya yn yc], .bool b]) W ∧ (b = true → Rep cs ts l S W d s (.agg #[.int .i64 p, .string n, .int .i64 q, .slice xa xn xc, .slice ya yn yc])) := by
  obtain ⟨ne, D, E, h1, h3, h4, h6, h7, h8⟩ := h
  have hz := joinS_size (x := s) (by omega) fun z hz => known_40 hO (hk z hz)
  obtain ⟨v, ps, hr, hv⟩ := World.ownsMap.look_ok h1 Try.keyed122 Try.underlying91 (zero50 _) zero50R (want_key hz hd)
  obtain ⟨p, n, q, x, y, dx, dy, px, py, rfl, hx, hy, _⟩ := typeR_some hv
  obtain ⟨xa, xn, xc, rfl, _⟩ := sliceR_some hx
  obtain ⟨ya, yn, yc, rfl, _⟩ := sliceR_some hy
  refine ⟨p, n, q, xa, ya, xn, xc, yn, yc, _, hr, fun hb => ?_⟩
  obtain ⟨v', hv', hrep⟩ := h7 s d hk hl hd hb
  rw [typeR_inj hv hv']
  exact hrep

theorem memo_none {S : Nat → Prop} {f m nf nm : Nat} {W : World} (h : Memo cs ts l S f m nf nm W) (hO : openErr cs = 0) {s : List ByteArray} {d : Nat} (hk : ∀ c, c ∈ s → knownB cs c = true) (hl : s.length ≤ 20) (hd : d ≤ 5) :
    ∃ (b : Bool), (Instr.lookup 92 (.map (some m)) (.agg #[.string (joinS s), .int .i64 d]) false).run Try.prog W = .ok (.bool b) W ∧ (b = true → ¬ Gr cs ts l d s) := by
  obtain ⟨ne, D, E, h1, h3, h4, h6, h7, h8⟩ := h
  have hz := joinS_size (x := s) (by omega) fun z hz => known_40 hO (hk z hz)
  obtain ⟨v, ps, hr, hv⟩ := World.ownsMap.lookup h4 Try.keyed122 Try.underlying92 (zero4 _) (show boolR (.bool false) = some (.lit (.bool false), []) from rfl) (want_key hz hd)
  obtain ⟨b, rfl, he⟩ := boolR_some hv
  refine ⟨b, hr, fun hb => h8 s d hk hl hd ?_⟩
  rw [(Prod.mk.inj he).1, hb]

theorem memo_put_found {S : Nat → Prop} {f m nf nm : Nat} {W : World} (h : Memo cs ts l S f m nf nm W) (hO : openErr cs = 0) {s : List ByteArray} {d : Nat} (hk : ∀ c, c ∈ s → knownB cs c = true) (hl : s.length ≤ 20) (hd : d ≤ 5) (hn : nf < maxLen) {v : Value} {x : DataW Unit} (hv : typeR v = some (x, [])) (hr : Rep cs ts l S W d s v) :
    ∃ W', (Instr.mapUpdate 91 (.map (some f)) (.agg #[.string (joinS s), .int .i64 d]) v).run Try.prog W = .ok () W' ∧ Memo cs ts l S f m (nf + 1) nm W' ∧ W.grownBy W' (some f) ∧ SameIn S W W' := by
  have hmaps := h.maps
  obtain ⟨ne, D, E, h1, h3, h4, h6, h7, h8⟩ := h
  have hz := joinS_size (x := s) (by omega) fun z hz => known_40 hO (hk z hz)
  obtain ⟨W', hu, hmap, hg⟩ := World.ownsMap.update h1 Try.keyed122 Try.underlying91 hn (want_key hz hd) hv
  obtain ⟨⟨es, c, hf⟩, _⟩ := hmaps
  have hsame : SameIn S W W' := fun b _ hb hnm => hg.block b hb (fun e => by cases e; exact hnm _ _ hf)
  have hkey : WideAt.IsKeyLit (wantLit (joinS s) d) := by exact trivial
  refine ⟨W', hu, ⟨ne, _, E, hmap, h3.put _ _, h4.kept hg (by simpa using Ne.symm ne), h6, fun s' d' hk' hl' hd' hh => ?_, h8⟩, hg, hsame⟩
  by_cases e : s' = s ∧ d' = d
  · obtain ⟨rfl, rfl⟩ := e
    refine ⟨v, ?_, hr.keep hsame fun _ h _ => h⟩
    rw [Maps.atKey_put_same h3 hkey]
    exact hv
  · have hne : wantLit (joinS s') d' ≠ wantLit (joinS s) d := fun e' => by
      have hz' := joinS_size (x := s') (by omega) fun z hz => known_40 hO (hk' z hz)
      obtain ⟨e1, e2⟩ := want_inj hz' hd' hz hd e'
      exact e ⟨joinS_inj hO hk' hk e1, e2⟩
    rw [Maps.has_put_other (fun e' => hne (by first | exact e' | exact e'.symm))] at hh
    obtain ⟨v', hv', hrep⟩ := h7 s' d' hk' hl' hd' hh
    refine ⟨v', ?_, hrep.keep hsame fun _ h _ => h⟩
    rw [Maps.atKey_put_other (fun e' => hne (by first | exact e' | exact e'.symm))]
    exact hv'

theorem memo_put_none {S : Nat → Prop} {f m nf nm : Nat} {W : World} (h : Memo cs ts l S f m nf nm W) (hO : openErr cs = 0) {s : List ByteArray} {d : Nat} (hk : ∀ c, c ∈ s → knownB cs c = true) (hl : s.length ≤ 20) (hd : d ≤ 5) (hn : nm < maxLen) (hr : ¬ Gr cs ts l d s) :
    ∃ W', (Instr.mapUpdate 92 (.map (some m)) (.agg #[.string (joinS s), .int .i64 d]) (.bool true)).run Try.prog W = .ok () W' ∧ Memo cs ts l S f m nf (nm + 1) W' ∧ W.grownBy W' (some m) ∧ SameIn S W W' := by
  have hmaps := h.maps
  obtain ⟨ne, D, E, h1, h3, h4, h6, h7, h8⟩ := h
  have hz := joinS_size (x := s) (by omega) fun z hz => known_40 hO (hk z hz)
  obtain ⟨W', hu, hmap, hg⟩ := World.ownsMap.update h4 Try.keyed122 Try.underlying92 hn (want_key hz hd) (show boolR (.bool true) = some (.lit (.bool true), []) from rfl)
  obtain ⟨_, ⟨es, c, hf⟩⟩ := hmaps
  have hsame : SameIn S W W' := fun b _ hb hnm => hg.block b hb (fun e => by cases e; exact hnm _ _ hf)
  have hkey : WideAt.IsKeyLit (wantLit (joinS s) d) := by exact trivial
  refine ⟨W', hu, ⟨ne, D, _, h1.kept hg (by simpa using ne), h3, hmap, h6.put _ _, fun s' d' hk' hl' hd' hh => ?_, fun s' d' hk' hl' hd' hh => ?_⟩, hg, hsame⟩
  · obtain ⟨v', hv', hrep⟩ := h7 s' d' hk' hl' hd' hh
    exact ⟨v', hv', hrep.keep hsame fun _ h _ => h⟩
  · by_cases e : s' = s ∧ d' = d
    · obtain ⟨rfl, rfl⟩ := e
      exact hr
    · have hne : wantLit (joinS s') d' ≠ wantLit (joinS s) d := fun e' => by
        have hz' := joinS_size (x := s') (by omega) fun z hz => known_40 hO (hk' z hz)
        obtain ⟨e1, e2⟩ := want_inj hz' hd' hz hd e'
        exact e ⟨joinS_inj hO hk' hk e1, e2⟩
      rw [Maps.atKey_put_other (fun e' => hne (by first | exact e' | exact e'.symm))] at hh
      exact h8 s' d' hk' hl' hd' hh
end
end Go.Proofs.Ytlaibimdkamcfaa
end

