/-
  Written signs and their named symbols: replaced from the left, and back again.
-/
import Derived.Lib.Strings
namespace Go.Proofs.Ytlpopbpddfegfaa

abbrev Bs := List UInt8

/-- The written signs with their named symbols, in order. -/
def pairsL : List (Bs × Bs) := [
  ([61, 61, 62], [92, 60, 76, 111, 110, 103, 114, 105, 103, 104, 116, 97, 114, 114, 111, 119, 62]),
  ([45, 45, 62], [92, 60, 108, 111, 110, 103, 114, 105, 103, 104, 116, 97, 114, 114, 111, 119, 62]),
  ([61, 61], [92, 60, 101, 113, 117, 105, 118, 62]),
  ([61, 62], [92, 60, 82, 105, 103, 104, 116, 97, 114, 114, 111, 119, 62]),
  ([33, 33], [92, 60, 65, 110, 100, 62]),
  ([37], [92, 60, 108, 97, 109, 98, 100, 97, 62]),
  ([38], [92, 60, 97, 110, 100, 62]),
  ([124], [92, 60, 111, 114, 62]),
  ([126], [92, 60, 110, 111, 116, 62]),
  ([33], [92, 60, 102, 111, 114, 97, 108, 108, 62])]

/-- What is replaced, by what: the signs by their symbols (true), or the way back. -/
def fromOf (d : Bool) (p : Bs × Bs) : Bs := if d then p.1 else p.2
def toOf (d : Bool) (p : Bs × Bs) : Bs := if d then p.2 else p.1

def firstOf (d : Bool) (l : Bs) : Option (Bs × Bs) := pairsL.find? fun p => Lib.hasPrefix l (fromOf d p)

/-- What is taken of a text and what is written for it. -/
def stepOf (d : Bool) (l : Bs) : Bs × Bs := match firstOf d l with
  | some p => (fromOf d p, toOf d p)
  | none => (l.take 1, l.take 1)

def replF (d : Bool) : Nat → Bs → Bs
  | 0, _ => []
  | n + 1, l => if l = [] then [] else (stepOf d l).2 ++ replF d n (l.drop (stepOf d l).1.length)

def repl (d : Bool) (l : Bs) : Bs := replF d l.length l

theorem pair_mem {d : Bool} {l : Bs} {p : Bs × Bs} (h : firstOf d l = some p) : p ∈ pairsL ∧ Lib.hasPrefix l (fromOf d p) = true :=
  ⟨List.mem_of_find?_eq_some h, List.find?_some (p := fun p => Lib.hasPrefix l (fromOf d p)) h⟩

theorem pairs_len : ∀ p, p ∈ pairsL → ∀ d, 1 ≤ (fromOf d p).length ∧ (fromOf d p).length ≤ 18 ∧ 1 ≤ (toOf d p).length ∧ (toOf d p).length ≤ 18 := by decide

theorem step_len (d : Bool) {l : Bs} (hl : l ≠ []) : 1 ≤ (stepOf d l).1.length ∧ (stepOf d l).1.length ≤ l.length ∧ (stepOf d l).2.length ≤ 18 := by
  unfold stepOf
  cases h : firstOf d l with
  | none => cases l with
    | nil => exact absurd rfl hl
    | cons c r => simp
  | some p =>
    have hp := pair_mem h
    have h1 := pairs_len p hp.1 d
    have h2 : (fromOf d p).length ≤ l.length := (List.isPrefixOf_iff_prefix.1 hp.2).length_le
    exact ⟨h1.1, h2, h1.2.2.2⟩

theorem replF_enough (d : Bool) : ∀ (n m : Nat) (l : Bs), l.length ≤ n → l.length ≤ m → replF d n l = replF d m l
  | 0, m, l, hn, _ => by
    have : l = [] := List.length_eq_zero_iff.1 (Nat.le_zero.1 hn)
    subst this
    cases m <;> simp [replF]
  | n + 1, 0, l, _, hm => by
    have : l = [] := List.length_eq_zero_iff.1 (Nat.le_zero.1 hm)
    subst this
    simp [replF]
  | n + 1, m + 1, l, hn, hm => by
    simp only [replF]
    by_cases hl : l = []
    · simp [hl]
    · rw [if_neg hl, if_neg hl]
      have h := step_len d hl
      rw [replF_enough d n m _ (by simp; omega) (by simp; omega)]

theorem repl_nil (d : Bool) : repl d [] = [] := rfl
theorem repl_step (d : Bool) {l : Bs} (hl : l ≠ []) : repl d l = (stepOf d l).2 ++ repl d (l.drop (stepOf d l).1.length) := by
  have h := step_len d hl
  unfold repl
  cases hn : l.length with
  | zero => omega
  | succ n =>
    simp only [replF]
    rw [if_neg hl]
    congr 1
    exact replF_enough d _ _ _ (by simp; omega) (Nat.le_refl _)

/-- The step at a pair that is the first one to fit. -/
theorem step_hit {d : Bool} {l : Bs} {k : Nat} {p : Bs × Bs} (hp : pairsL[k]? = some p) (hno : ∀ (j : Nat) (q : Bs × Bs), j < k → pairsL[j]? = some q → Lib.hasPrefix l (fromOf d q) = false) (hyes : Lib.hasPrefix l (fromOf d p) = true) : stepOf d l = (fromOf d p, toOf d p) := by
  have : firstOf d l = some p := by
    unfold firstOf
    rw [List.find?_eq_some_iff_getElem]
    obtain ⟨hk, e⟩ := List.getElem?_eq_some_iff.1 hp
    refine ⟨hyes, k, hk, e, fun j hj => ?_⟩
    have := hno j _ hj (List.getElem?_eq_getElem (by omega))
    simp [this]
  unfold stepOf
  rw [this]

theorem step_miss {d : Bool} {l : Bs} (hno : ∀ (j : Nat) (q : Bs × Bs), pairsL[j]? = some q → Lib.hasPrefix l (fromOf d q) = false) : stepOf d l = (l.take 1, l.take 1) := by
  have : firstOf d l = none := by
    unfold firstOf
    rw [List.find?_eq_none]
    intro q hq
    obtain ⟨j, hj, e⟩ := List.mem_iff_getElem.1 hq
    have := hno j q (by rw [List.getElem?_eq_getElem hj, e])
    simp [this]
  unfold stepOf
  rw [this]

/-- The signs hold no backslash, the symbols begin with one and hold no other one; no sign begins with a byte that stands in a symbol. -/
theorem signs_plain : ∀ p, p ∈ pairsL → ∀ c, c ∈ p.1 → c ≠ 92 := by decide
theorem symbols_begin : ∀ p, p ∈ pairsL → p.2.head? = some 92 := by decide
theorem symbols_rest : ∀ p, p ∈ pairsL → ∀ c, c ∈ p.2.tail → c ≠ 92 := by decide
theorem symbol_bytes : ∀ p, p ∈ pairsL → ∀ q, q ∈ pairsL → ∀ c, c ∈ p.2 → q.1.head? ≠ some c := by decide
theorem signs_ne : ∀ p, p ∈ pairsL → p.1 ≠ [] ∧ p.2 ≠ [] := by decide
theorem symbols_prefix : ∀ p, p ∈ pairsL → ∀ q, q ∈ pairsL → p.2.isPrefixOf q.2 = true → p = q := by decide

theorem no_prefix_head {p l : Bs} {c : UInt8} (hp : p ≠ []) (h : p.head? ≠ some c) : Lib.hasPrefix (c :: l) p = false := by
  cases p with
  | nil => exact absurd rfl hp
  | cons x r =>
    have : (x == c) = false := by
      rw [beq_eq_false_iff_ne]
      intro e
      exact h (by simp [e])
    simp [Lib.hasPrefix, List.isPrefixOf, this]

/-- A byte with which no sign begins stays. -/
theorem repl_byte {c : UInt8} {l : Bs} (h : ∀ q, q ∈ pairsL → q.1.head? ≠ some c) : repl true (c :: l) = c :: repl true l := by
  rw [repl_step true (by simp)]
  have : stepOf true (c :: l) = ([c], [c]) := step_miss fun j q hq => no_prefix_head (signs_ne q (List.mem_of_getElem? hq)).1 (h q (List.mem_of_getElem? hq))
  rw [this]
  rfl

theorem repl_bytes {x l : Bs} (h : ∀ q, q ∈ pairsL → ∀ c, c ∈ x → q.1.head? ≠ some c) : repl true (x ++ l) = x ++ repl true l := by
  induction x with
  | nil => rfl
  | cons c r ih =>
    rw [List.cons_append, repl_byte (fun q hq => h q hq c (by simp)), ih fun q hq c hc => h q hq c (by simp [hc])]
    rfl

/-- The way back: a byte that is no backslash stays. -/
theorem back_byte {c : UInt8} {l : Bs} (h : c ≠ 92) : repl false (c :: l) = c :: repl false l := by
  rw [repl_step false (by simp)]
  have : stepOf false (c :: l) = ([c], [c]) := step_miss fun j q hq => no_prefix_head (signs_ne q (List.mem_of_getElem? hq)).2 (by
    show q.2.head? ≠ _
    rw [symbols_begin q (List.mem_of_getElem? hq)]
    intro e
    exact h (Option.some.inj e).symm)
  rw [this]
  rfl

theorem back_bytes {x l : Bs} (h : ∀ c, c ∈ x → c ≠ 92) : repl false (x ++ l) = x ++ repl false l := by
  induction x with
  | nil => rfl
  | cons c r ih =>
    rw [List.cons_append, back_byte (h c (by simp)), ih fun c hc => h c (by simp [hc])]
    rfl

/-- The way back of a symbol. -/
theorem back_symbol {p : Bs × Bs} (hp : p ∈ pairsL) (l : Bs) : repl false (p.2 ++ l) = p.1 ++ repl false l := by
  have hne := (signs_ne p hp).2
  have hl : p.2 ++ l ≠ [] := by simp [hne]
  rw [repl_step false hl]
  have hf : firstOf false (p.2 ++ l) = some p := by
    cases h : firstOf false (p.2 ++ l) with
    | none =>
      have := List.find?_eq_none.1 h p hp
      exact absurd (List.isPrefixOf_iff_prefix.2 (List.prefix_append p.2 l)) this
    | some q =>
      have hq := pair_mem h
      have h1 : q.2 <+: p.2 ++ l := List.isPrefixOf_iff_prefix.1 hq.2
      rcases Nat.le_total q.2.length p.2.length with hle | hle
      · rw [symbols_prefix q hq.1 p hp (List.isPrefixOf_iff_prefix.2 (List.prefix_of_prefix_length_le h1 (List.prefix_append _ _) hle))]
      · rw [symbols_prefix p hp q hq.1 (List.isPrefixOf_iff_prefix.2 (List.prefix_of_prefix_length_le (List.prefix_append _ _) h1 hle))]
  have : stepOf false (p.2 ++ l) = (p.2, p.1) := by
    unfold stepOf
    rw [hf]
    rfl
  rw [this]
  simp

/-- Where no symbol stands a backslash stays. -/
theorem back_none {l : Bs} (h : ∀ q, q ∈ pairsL → Lib.hasPrefix (92 :: l) q.2 = false) : repl false (92 :: l) = 92 :: repl false l := by
  rw [repl_step false (by simp)]
  have : stepOf false (92 :: l) = ([92], [92]) := step_miss fun j q hq => h q (List.mem_of_getElem? hq)
  rw [this]
  rfl

/-- Bytes without a backslash that a replaced text begins with begin the text, too. -/
theorem begins_back : ∀ (n : Nat) (x l : Bs), l.length ≤ n → (∀ c, c ∈ x → c ≠ 92) → x <+: repl true l → x <+: l
  | n, [], l, _, _, _ => List.nil_prefix
  | 0, c :: r, l, hn, _, h => by
    have : l = [] := List.length_eq_zero_iff.1 (Nat.le_zero.1 hn)
    subst this
    exact h
  | n + 1, c :: r, l, hn, hx, h => by
    by_cases hl : l = []
    · subst hl; exact h
    · rw [repl_step true hl] at h
      cases hf : firstOf true l with
      | some p =>
        have hp := (pair_mem hf).1
        have e : stepOf true l = (p.1, p.2) := by unfold stepOf; rw [hf]; rfl
        rw [e] at h
        have hb := symbols_begin p hp
        have hne := hx c (by simp)
        exfalso
        cases hp2 : p.2 with
        | nil => simp [hp2] at hb
        | cons y z =>
          simp only [hp2, List.head?_cons, Option.some.injEq] at hb
          simp only [hp2, List.cons_append, List.cons_prefix_cons] at h
          exact hne (h.1.trans hb)
      | none =>
        have e : stepOf true l = (l.take 1, l.take 1) := by unfold stepOf; rw [hf]
        rw [e] at h
        cases l with
        | nil => exact absurd rfl hl
        | cons y z =>
          simp only [List.take_succ_cons, List.take_zero, List.cons_append, List.nil_append, List.length_cons, List.length_nil, Nat.zero_add, List.drop_succ_cons, List.drop_zero, List.cons_prefix_cons] at h
          rw [List.cons_prefix_cons]
          exact ⟨h.1, begins_back n r z (by simpa using hn) (fun c hc => hx c (by simp [hc])) h.2⟩

/-- P14.5: Plain of Symbols is Plain. -/
theorem plain_symbols : ∀ (n : Nat) (l : Bs), l.length ≤ n → repl false (repl true l) = repl false l
  | 0, l, hn => by
    have : l = [] := List.length_eq_zero_iff.1 (Nat.le_zero.1 hn)
    subst this
    rfl
  | n + 1, l, hn => by
    by_cases hl : l = []
    · subst hl; rfl
    · have hlen := step_len true hl
      cases hf : firstOf true l with
      | some p =>
        have hp := pair_mem hf
        have e : stepOf true l = (p.1, p.2) := by unfold stepOf; rw [hf]; rfl
        rw [repl_step true hl, e, back_symbol hp.1]
        rw [e] at hlen
        simp only at hlen
        have ih := plain_symbols n (l.drop p.1.length) (by simp; omega)
        rw [ih]
        obtain ⟨r, hr⟩ := List.isPrefixOf_iff_prefix.1 hp.2
        have hr' : p.1 ++ r = l := hr
        rw [← hr', back_bytes (signs_plain p hp.1)]
        simp
      | none =>
        have e : stepOf true l = (l.take 1, l.take 1) := by unfold stepOf; rw [hf]
        rw [repl_step true hl, e]
        cases l with
        | nil => exact absurd rfl hl
        | cons y z =>
          simp only [List.take_succ_cons, List.take_zero, List.cons_append, List.nil_append, List.length_cons, List.length_nil, Nat.zero_add, List.drop_succ_cons, List.drop_zero]
          have ih := plain_symbols n z (by simpa using hn)
          by_cases hy : y = 92
          · subst hy
            by_cases hs : ∃ q, q ∈ pairsL ∧ Lib.hasPrefix (92 :: z) q.2 = true
            · obtain ⟨q, hq, hpre⟩ := hs
              obtain ⟨r, hr⟩ := List.isPrefixOf_iff_prefix.1 hpre
              have hz : repl true (92 :: z) = q.2 ++ repl true r := by
                rw [← hr, repl_bytes fun q' hq' c hc => symbol_bytes q hq q' hq' c hc]
              have hz' : repl true (92 :: z) = 92 :: repl true z := repl_byte fun q' hq' => symbol_bytes q hq q' hq' 92 (by
                have hb := symbols_begin q hq
                exact List.mem_of_mem_head? hb)
              rw [← hz', hz, back_symbol hq, ← hr, back_symbol hq]
              have hq2 := (signs_ne q hq).2
              have hpos : 0 < q.2.length := List.length_pos_iff.2 hq2
              have hlr : q.2.length + r.length = z.length + 1 := by
                have := congrArg List.length hr
                simpa using this
              rw [plain_symbols n r (by simp only [List.length_cons] at hn; omega)]
            · have h1 : ∀ q, q ∈ pairsL → Lib.hasPrefix (92 :: z) q.2 = false := fun q hq => by
                cases h : Lib.hasPrefix (92 :: z) q.2 with
                | false => rfl
                | true => exact absurd ⟨q, hq, h⟩ hs
              have h2 : ∀ q, q ∈ pairsL → Lib.hasPrefix (92 :: repl true z) q.2 = false := fun q hq => by
                cases h : Lib.hasPrefix (92 :: repl true z) q.2 with
                | false => rfl
                | true =>
                  have hpre : q.2 <+: 92 :: repl true z := List.isPrefixOf_iff_prefix.1 h
                  have hb := symbols_begin q hq
                  have hrest := symbols_rest q hq
                  have h1q := h1 q hq
                  cases hq2 : q.2 with
                  | nil => simp [hq2] at hb
                  | cons x t =>
                    simp only [hq2, List.head?_cons, Option.some.injEq, List.tail_cons] at hb hrest
                    rw [hq2, List.cons_prefix_cons] at hpre
                    have := begins_back z.length t z (Nat.le_refl _) hrest hpre.2
                    have h3 : Lib.hasPrefix (92 :: z) q.2 = true := by
                      rw [hq2]
                      exact List.isPrefixOf_iff_prefix.2 (List.cons_prefix_cons.2 ⟨hb, this⟩)
                    rw [h3] at h1q
                    cases h1q
              rw [back_none h1, back_none h2, ih]
          · rw [back_byte hy, back_byte hy, ih]

theorem plain_symbols_any (l : Bs) : repl false (repl true l) = repl false l := plain_symbols l.length l (Nat.le_refl _)

theorem repl_length (d : Bool) : ∀ (n : Nat) (l : Bs), l.length ≤ n → (repl d l).length ≤ 18 * l.length
  | 0, l, hn => by
    have : l = [] := List.length_eq_zero_iff.1 (Nat.le_zero.1 hn)
    subst this
    simp [repl, replF]
  | n + 1, l, hn => by
    by_cases hl : l = []
    · subst hl; simp [repl, replF]
    · have h := step_len d hl
      rw [repl_step d hl]
      have ih := repl_length d n (l.drop (stepOf d l).1.length) (by simp; omega)
      simp only [List.length_append, List.length_drop] at ih ⊢
      omega
end Go.Proofs.Ytlpopbpddfegfaa
