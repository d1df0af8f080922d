import Derived.Test.YtlaibimdkamcfaaF7
section
/-
  The reference's sorts: the error of sorts in a theory.
-/
namespace Go.Proofs.Ytlaibimdkamcfaa
open Go.RowKit Go.Maps

theorem refKnown_uni {nm : ByteArray} {ca ta ra oa ya qa : Option Addr} {cc tn tc rn rc on oc yn yc qn qc cb co : Nat} {cs : List Cls} {g : Nat} {W0 : World} (h : ThyAt nm ca ta ra oa ya qa cc tn tc rn rc on oc yn yc qn qc cb co cs g W0) (W : World) {xa : Option Addr} {x : List ByteArray} {xc : Nat} (hx : Hid (SortAt W0 xa x)) (hb : Hid (Below W0.heap.size W0 W)) :
    Calls Try.prog 46 #[.agg #[.string nm, .slice ca cs.length cc, .slice ta tn tc, .slice ra rn rc, .slice oa on oc, .slice ya yn yc, .slice qa qn qc], .slice xa x.length xc] W fun e W' =>
      e = .returned (.bool (x.all (knownB cs))) ∧ Hid (Below W0.heap.size W0 W') ∧ W'.cell? ⟨g, 0, none⟩ = some (.string nm) ∧ W'.cell? ⟨g, 1, none⟩ = some (.slice ca cs.length cc) ∧ W'.cell? ⟨g, 2, none⟩ = some (.slice ta tn tc) ∧ W'.cell? ⟨g, 3, none⟩ = some (.slice ra rn rc) ∧ W'.cell? ⟨g, 4, none⟩ = some (.slice oa on oc) ∧ W'.cell? ⟨g, 5, none⟩ = some (.slice ya yn yc) ∧ W'.cell? ⟨g, 6, none⟩ = some (.slice qa qn qc) := by
  have hT := h.later hb.out
  refine (refKnown_any (xc := xc) W hT.cla hT.thy.cls hT.len (hx.out.later hb.out)).mono ?_
  rintro e W' ⟨rfl, hb'⟩
  exact ⟨rfl, Lib.hid (hb.out.trans (hb'.mono hb.out.size)), (hT.later hb').cells⟩

/-- Sorts in a row of memory. -/
def SortsAt (W : World) (b o : Nat) (L : List (List ByteArray)) : Prop := ∀ i (h : i < L.length), b < W.heap.size ∧ ∃ a c, W.cell? ⟨b, o + i, none⟩ = some (.slice a L[i].length c) ∧ SortAt W a L[i]

theorem SortsAt.later {W W' : World} {b o : Nat} {L : List (List ByteArray)} (h : SortsAt W b o L) (hb : Below W.heap.size W W') : SortsAt W' b o L := by
  intro i hi
  obtain ⟨hlt, a, c, h1, h2⟩ := h i hi
  exact ⟨Nat.lt_of_lt_of_le hlt hb.size, a, c, (hb.cell (p := ⟨b, _, none⟩) hlt).trans h1, h2.later hb⟩

def sortOf (L : List (List ByteArray)) (i : Nat) : List ByteArray := L.getD i []
theorem sortOf_eq {L : List (List ByteArray)} {i : Nat} (h : i < L.length) : sortOf L i = L[i] := by simp [sortOf, h]

/-- The error of sorts. -/
noncomputable def sortsErr (cs : List Cls) (L : List (List ByteArray)) : Int := if openErr cs = 0 then firstErr L.length (fun i => sortErr (knownB cs) (sortOf L i)) else openErr cs

theorem sortsErr_open {cs : List Cls} {L : List (List ByteArray)} (h : openErr cs ≠ 0) : sortsErr cs L = openErr cs := by unfold sortsErr; rw [if_neg h]
theorem sortsErr_at {cs : List Cls} {L : List (List ByteArray)} {i : Nat} (hO : openErr cs = 0) (hi : i < L.length) (hz : ∀ j, j < i → sortErr (knownB cs) (sortOf L j) = 0) {E : Int} (he : sortErr (knownB cs) L[i] = E) (h0 : E ≠ 0) : sortsErr cs L = E := by
  unfold sortsErr
  rw [if_pos hO, firstErr_at hi hz (by rw [sortOf_eq hi, he]; exact h0), sortOf_eq hi, he]
theorem sortsErr_none {cs : List Cls} {L : List (List ByteArray)} (hO : openErr cs = 0) (hz : ∀ j, j < L.length → sortErr (knownB cs) (sortOf L j) = 0) : sortsErr cs L = 0 := by
  unfold sortsErr
  rw [if_pos hO, firstErr_zero.2 hz]

theorem sortErr_many {K : ByteArray → Bool} {s : List ByteArray} (h : 20 < s.length) : sortErr K s = 5 := by unfold sortErr; rw [if_pos h]
theorem sortErr_known {K : ByteArray → Bool} {s : List ByteArray} (h : ¬ 20 < s.length) : sortErr K s = if s.all K then 0 else 9 := by unfold sortErr; rw [if_neg h]

set_option maxRecDepth 100000 in
set_option maxHeartbeats 8000000 in
theorem refSorts_any {nm : ByteArray} {ca ta ra oa ya qa : Option Addr} {cc tn tc rn rc on oc yn yc qn qc cb co : Nat} {cs : List Cls} {lb lo lc : Nat} {L : List (List ByteArray)} (w : World)
    (hca : cs ≠ [] → ca = some ⟨cb, co, none⟩) (hcs : ClassesAt w cb co cs) (hcl : cs.length ≤ maxLen) (hL : SortsAt w lb lo L) (hl : L.length ≤ 9223372036854775807) :
    Calls Try.prog 51 #[.agg #[.string nm, .slice ca cs.length cc, .slice ta tn tc, .slice ra rn rc, .slice oa on oc, .slice ya yn yc, .slice qa qn qc], .slice (some ⟨lb, lo, none⟩) L.length lc] w fun e w' => e = .returned (.int .i64 (sortsErr cs L)) ∧ Below w.heap.size w w' := by
  have hb0 : Below w.heap.size w (w.alloc (.cells #[.string nm, .slice ca cs.length cc, .slice ta tn tc, .slice ra rn rc, .slice oa on oc, .slice ya yn yc, .slice qa qn qc] 29)) := (Below.refl _ w).alloc (Nat.le_refl _) _
  have HTH := Lib.hid (ThyAt.mk (Thy.mk (heap_alloc_new w (.cells #[.string nm, .slice ca cs.length cc, .slice ta tn tc, .slice ra rn rc, .slice oa on oc, .slice ya yn yc, .slice qa qn qc] 29)) (hcs.later hb0)) hca hcl : ThyAt nm ca ta ra oa ya qa cc tn tc rn rc on oc yn yc qn qc cb co cs w.heap.size _)
  have HB0 := Lib.hid hb0
  have HL := Lib.hid (hL.later hb0)
  clear hb0 hca hcs hcl hL
  obtain ⟨R, hR⟩ : ∃ R, sortsErr cs L = R := ⟨_, rfl⟩
  rw [hR]
  have HR := Lib.hid hR
  clear hR
  go_enter Try.func51, Try.ntmps51
  go_wp2_with fail
  generalize (w.alloc (.cells #[.string nm, .slice ca cs.length cc, .slice ta tn tc, .slice ra rn rc, .slice oa on oc, .slice ya yn yc, .slice qa qn qc] 29)) = w1 at *
  obtain ⟨ga, hga⟩ : ∃ q, w.heap.size = q := ⟨_, rfl⟩
  rw [hga] at HTH ⊢
  have HGA := Lib.hid hga
  clear hga
  obtain ⟨g0, g1, g2, g3, g4, g5, g6⟩ := HTH.out.cells
  go_wp2_with fail
  refine (refClasses_any w1 HTH.out.cla HTH.out.thy.cls HTH.out.len).mono ?_
  rintro e w2 ⟨rfl, hb2⟩
  have HT2 := Lib.hid (HTH.out.later hb2)
  have HL2 := Lib.hid (HL.out.later hb2)
  have HB2 := Lib.hid (HB0.out.trans (hb2.mono HB0.out.size))
  clear hb2 g0 g1 g2 g3 g4 g5 g6
  by_cases hO : openErr cs = 0
  · have HO := Lib.hid hO
    rw [hO]
    clear hO
    go_wp2_with fail
    go_loopw [6] (fun t wr => ∃ i : Nat, t = .int .i64 i ∧ i ≤ L.length ∧ (∀ j, j < i → sortErr (knownB cs) (sortOf L j) = 0) ∧ Below w2.heap.size w2 wr) (fun t _ => L.length - (intOf t).toNat)
    case atStart => exact ⟨0, rfl, Nat.zero_le _, fun j hj => by omega, Below.refl _ _⟩
    case round =>
      obtain ⟨i, rfl, hi, hp, hb⟩ := hrel
      have HP := Lib.hid hp
      have HB := Lib.hid hb
      have HBW := Lib.hid (HB2.out.trans (hb.mono HB2.out.size))
      have HTR := Lib.hid (HT2.out.later hb)
      have HLR := Lib.hid (HL2.out.later hb)
      clear hp hb
      by_cases hlt : i < L.length
      · obtain ⟨hlb, xa, xc, hcell, hxs⟩ := HLR.out i hlt
        have HAT := Lib.hid (fun E he h0 => sortsErr_at HO.out hlt HP.out (E := E) he h0)
        have HSO := Lib.hid (sortOf_eq hlt)
        obtain ⟨x, hx⟩ : ∃ x, L[i] = x := ⟨_, rfl⟩
        rw [hx] at hcell hxs HAT HSO
        have hlx : x.length ≤ 9223372036854775807 := hxs.choose_spec.choose_spec.2.2
        have HX := Lib.hid hxs
        have HLB := Lib.hid hlb
        have HC := Lib.hid hcell
        clear hx hxs hlb
        by_cases h20 : 20 < x.length
        · have HE := Lib.hid (HAT.out 5 (sortErr_many h20) (by decide))
          go_wp2_with fail
          go_ret
          refine ⟨?_, ?_⟩
          · rw [← HR.out, HE.out]; rfl
          · exact HBW.out
        · have HSE := Lib.hid (sortErr_known (K := knownB cs) h20)
          obtain ⟨g0, g1, g2, g3, g4, g5, g6⟩ := HTR.out.cells
          have HF := Lib.hid (fun W hb => refKnown_uni (xc := xc) HTR.out W HX hb)
          obtain ⟨B, hB⟩ : ∃ B, x.all (knownB cs) = B := ⟨_, rfl⟩
          rw [hB] at HF HSE
          have HBR := Lib.hid ((Below.refl wr.heap.size wr).drew)
          have k0 : wr.drew.cell? ⟨ga, 0, none⟩ = _ := g0
          have k1 : wr.drew.cell? ⟨ga, 1, none⟩ = _ := g1
          have k2 : wr.drew.cell? ⟨ga, 2, none⟩ = _ := g2
          have k3 : wr.drew.cell? ⟨ga, 3, none⟩ = _ := g3
          have k4 : wr.drew.cell? ⟨ga, 4, none⟩ = _ := g4
          have k5 : wr.drew.cell? ⟨ga, 5, none⟩ = _ := g5
          have k6 : wr.drew.cell? ⟨ga, 6, none⟩ = _ := g6
          have k7 : wr.drew.cell? ⟨lb, lo + i, none⟩ = _ := hcell
          clear hB
          go_wp2_with fail
          go_region_held3 (fun W => W.cell? ⟨lb, lo + i, none⟩ = some (.slice xa x.length xc) ∧ W.cell? ⟨ga, 0, none⟩ = some (.string nm) ∧ W.cell? ⟨ga, 1, none⟩ = some (.slice ca cs.length cc) ∧ W.cell? ⟨ga, 2, none⟩ = some (.slice ta tn tc) ∧ W.cell? ⟨ga, 3, none⟩ = some (.slice ra rn rc) ∧ W.cell? ⟨ga, 4, none⟩ = some (.slice oa on oc) ∧ W.cell? ⟨ga, 5, none⟩ = some (.slice ya yn yc) ∧ W.cell? ⟨ga, 6, none⟩ = some (.slice qa qn qc))
            (refine ⟨?_, ?_, ?_, ?_, ?_, ?_, ?_, ?_⟩ <;> assumption)
            ((go_at_call 46; refine (HF.out _ (by assumption)).mono ?_; rintro e w' ⟨rfl, hb', k0, k1, k2, k3, k4, k5, k6⟩; have k7 := (hb'.out.cell (p := ⟨lb, lo + i, none⟩) HLB.out).trans HC.out))
          cases B with
          | false =>
            have HE := Lib.hid (HAT.out 9 HSE.out (by decide))
            go_wp2_with fail
            go_ret
            refine ⟨?_, ?_⟩
            · rw [← HR.out, HE.out]; rfl
            · exact HBW.out.trans (hb'.out.mono HBW.out.size)
          | true =>
            go_wp2_with fail
            refine ⟨⟨i + 1, by simp only [Int.natCast_add, Int.natCast_one], by omega, fun j hj => ?_, HB.out.trans (hb'.out.mono HB.out.size)⟩, ?_⟩
            · by_cases e : j = i
              · subst e
                rw [HSO.out, HSE.out]; rfl
              · exact HP.out j (by omega)
            · show L.length - ((i : Int) + 1).toNat < L.length - ((i : Nat) : Int).toNat
              omega
      · have HE := Lib.hid (sortsErr_none HO.out fun j hj => HP.out j (by omega))
        go_wp2_with fail
        go_ret
        refine ⟨?_, ?_⟩
        · rw [← HR.out, HE.out]; rfl
        · exact HBW.out
  · have q1 : (openErr cs == 0) = false := by simpa using hO
    have q2 : (openErr cs != 0) = true := by simpa using hO
    have HE := Lib.hid (sortsErr_open (L := L) hO)
    obtain ⟨E, hE⟩ : ∃ E, openErr cs = E := ⟨_, rfl⟩
    rw [hE] at q1 q2 HE ⊢
    clear hO hE
    go_wp2_with fail
    go_ret
    refine ⟨?_, ?_⟩
    · rw [← HR.out, HE.out]; rfl
    · exact HB2.out
end Go.Proofs.Ytlaibimdkamcfaa
end

section
/-
  What Check says of a theory's type constructors and arities.
-/
namespace Go.Proofs.Ytlaibimdkamcfaa
open Classical

/-- A type constructor; an arity. -/
structure TD where
  name : ByteArray
  arity : Int
structure Ari where
  typ : ByteArray
  cls : ByteArray
  sorts : List (List ByteArray)

def tnames (ts : List TD) : List ByteArray := ts.map TD.name
def tdAt (ts : List TD) (i : Nat) : TD := ts.getD i ⟨ByteArray.empty, 0⟩
def ariAt (l : List Ari) (i : Nat) : Ari := l.getD i ⟨ByteArray.empty, ByteArray.empty, []⟩
def pairOf (a : Ari) : ByteArray × ByteArray := (a.typ, a.cls)

theorem tdAt_eq {ts : List TD} {i : Nat} (h : i < ts.length) : tdAt ts i = ts[i] := by simp [tdAt, h]
theorem ariAt_eq {l : List Ari} {i : Nat} (h : i < l.length) : ariAt l i = l[i] := by simp [ariAt, h]

/-- The error of a type constructor behind others of these names. -/
noncomputable def tdErr (pre : List ByteArray) (d : TD) : Int := if nameB d.name = true then (if d.name ∈ pre then 10 else if d.arity < 0 ∨ 10 < d.arity then 4 else 0) else 30
noncomputable def typesErr (ts : List TD) : Int := if 300 < ts.length then 5 else firstErr ts.length fun i => tdErr (tnames (ts.take i)) (tdAt ts i)

/-- The number of a type constructor. -/
noncomputable def tIdx (ts : List TD) (s : ByteArray) : Nat := (tnames ts).findIdx (fun x => decide (x = s))
noncomputable def refT (ts : List TD) (s : ByteArray) : Int := if s ∈ tnames ts then (tIdx ts s : Nat) else -1
/-- The number of an arity. -/
noncomputable def aIdx (l : List Ari) (p : ByteArray × ByteArray) : Nat := (l.map pairOf).findIdx (fun x => decide (x = p))
noncomputable def refA (l : List Ari) (p : ByteArray × ByteArray) : Int := if p ∈ l.map pairOf then (aIdx l p : Nat) else -1

/-- A sort of known classes is normal. -/
noncomputable def normB (cs : List Cls) (s : List ByteArray) : Bool := decide (s.Pairwise ltS ∧ ∀ c, c ∈ s → IsLeast (belowB cs) s c)
/-- The error of a sort of an arity. -/
noncomputable def sErr (cs : List Cls) (s : List ByteArray) : Int := if 20 < s.length then 5 else if s.all (knownB cs) = true then (if normB cs s = true then 0 else 14) else 9
/-- The error of an arity behind others. -/
noncomputable def ariErr (cs : List Cls) (ts : List TD) (pre : List (ByteArray × ByteArray)) (a : Ari) : Int :=
  if a.typ ∈ tnames ts ∧ knownB cs a.cls = true then (if pairOf a ∈ pre then 10 else if (a.sorts.length : Int) ≠ (tdAt ts (tIdx ts a.typ)).arity then 5 else firstErr a.sorts.length fun n => sErr cs (sortOf a.sorts n)) else 9
noncomputable def arisErr (cs : List Cls) (ts : List TD) (l : List Ari) : Int := if 300 < l.length then 5 else firstErr l.length fun i => ariErr cs ts ((l.take i).map pairOf) (ariAt l i)

/-- An arity has, for a class above its own one, another one that asks for no more. -/
def HasAbove (cs : List Cls) (l : List Ari) (a : Ari) (k : Nat) : Prop :=
  ∃ b, b ∈ l ∧ b.typ = a.typ ∧ b.cls = (clsAt cs k).name ∧ ∀ n, n < a.sorts.length → lessB (knownB cs) (belowB cs) (sortOf a.sorts n) (sortOf b.sorts n) = true
def RegularAt (cs : List Cls) (l : List Ari) (a : Ari) : Prop := ∀ k, k < cs.length → Reach (supOf cs) (idxOfC cs a.cls) k → HasAbove cs l a k
noncomputable def regularB (cs : List Cls) (l : List Ari) : Bool := decide (∀ a, a ∈ l → RegularAt cs l a)

/-- The error of a theory's classes, type constructors and arities. -/
noncomputable def checkErr (cs : List Cls) (ts : List TD) (l : List Ari) : Int :=
  if openErr cs ≠ 0 then openErr cs else if typesErr ts ≠ 0 then typesErr ts else if arisErr cs ts l ≠ 0 then arisErr cs ts l else if regularB cs l = true then 0 else 31

section
variable {ts : List TD} {l : List Ari}

theorem tnames_length : (tnames ts).length = ts.length := List.length_map _
theorem tnames_get {i : Nat} (hi : i < ts.length) : (tnames ts)[i]'(by rw [tnames_length]; exact hi) = ts[i].name := by unfold tnames; rw [List.getElem_map]
theorem tnames_take (i : Nat) : tnames (ts.take i) = (tnames ts).take i := List.map_take

/-- The first place of a list that has what is looked for. -/
theorem find_at {α : Type} [DecidableEq α] {x : List α} {p : α} {i : Nat} (hi : i < x.length) (hb : (x.take i).all (fun c => !decide (c = p)) = true) (he : x[i] = p) : x.findIdx (fun c => decide (c = p)) = i := by
  rw [List.findIdx_eq hi]
  refine ⟨decide_eq_true he, fun j hj => ?_⟩
  have := List.all_eq_true.1 hb x[j] (List.mem_take_iff_getElem.2 ⟨j, by omega, rfl⟩)
  simpa using this

theorem find_lt {α : Type} [DecidableEq α] {x : List α} {p : α} (h : p ∈ x) : x.findIdx (fun c => decide (c = p)) < x.length :=
  List.findIdx_lt_length_of_exists ⟨p, h, by simp⟩
theorem find_get {α : Type} [DecidableEq α] {x : List α} {p : α} (h : p ∈ x) : x[x.findIdx (fun c => decide (c = p))]'(find_lt h) = p := by
  have := List.findIdx_getElem (xs := x) (p := fun c => decide (c = p)) (w := find_lt h)
  simpa using this
/-- It is among the first ones just if its number is one of theirs. -/
theorem find_take {α : Type} [DecidableEq α] {x : List α} {p : α} (i : Nat) : p ∈ x.take i ↔ p ∈ x ∧ x.findIdx (fun c => decide (c = p)) < i := by
  constructor
  · intro h
    refine ⟨List.mem_of_mem_take h, ?_⟩
    have h1 := find_lt h
    rw [List.length_take] at h1
    rw [← List.take_append_drop i x, List.findIdx_append, if_pos (List.findIdx_lt_length_of_exists ⟨p, h, by simp⟩)]
    omega
  · rintro ⟨h, hlt⟩
    exact List.mem_take_iff_getElem.2 ⟨_, by have := find_lt h; omega, find_get h⟩
theorem find_self {α : Type} [DecidableEq α] {x : List α} {i : Nat} (hi : i < x.length) : x.findIdx (fun c => decide (c = x[i])) = i ↔ x[i] ∉ x.take i := by
  have hle : x.findIdx (fun c => decide (c = x[i])) ≤ i := by
    refine Nat.le_of_not_lt fun hn => ?_
    have := List.not_of_lt_findIdx hn
    simp at this
  rw [find_take]
  have := List.getElem_mem hi
  constructor
  · intro h; rintro ⟨_, h2⟩; omega
  · intro h
    have : ¬ x.findIdx (fun c => decide (c = x[i])) < i := fun hn => h ⟨this, hn⟩
    omega

theorem refT_neg {s : ByteArray} : refT ts s < 0 ↔ s ∉ tnames ts := by
  unfold refT
  by_cases h : s ∈ tnames ts
  · rw [if_pos h]; constructor
    · intro h'; omega
    · intro h'; exact absurd h h'
  · rw [if_neg h]; exact ⟨fun _ => h, fun _ => by decide⟩
theorem refT_self {i : Nat} (hi : i < ts.length) : refT ts ts[i].name = i ↔ ts[i].name ∉ tnames (ts.take i) := by
  have hm : ts[i].name ∈ tnames ts := List.mem_map.2 ⟨_, List.getElem_mem hi, rfl⟩
  have h2 := find_self (x := tnames ts) (i := i) (by rw [tnames_length]; exact hi)
  simp only [tnames_get hi] at h2
  rw [tnames_take, ← h2]
  unfold refT tIdx
  rw [if_pos hm]
  omega
theorem refT_at {s : ByteArray} {i : Nat} (hi : i < ts.length) (hb : (ts.take i).all (fun d => !decide (d.name = s)) = true) (he : ts[i].name = s) : refT ts s = i := by
  have hm : s ∈ tnames ts := List.mem_map.2 ⟨_, List.getElem_mem hi, he⟩
  unfold refT tIdx
  rw [if_pos hm, find_at (i := i) (by rw [tnames_length]; exact hi) ?_ (by rw [tnames_get hi]; exact he)]
  rw [← tnames_take]
  unfold tnames
  rw [List.all_map]
  exact hb
theorem refT_none {s : ByteArray} (hb : ts.all (fun d => !decide (d.name = s)) = true) : refT ts s = -1 := by
  unfold refT
  rw [if_neg]
  intro h
  obtain ⟨d, hd, e⟩ := List.mem_map.1 h
  have := List.all_eq_true.1 hb d hd
  simp [e] at this

theorem refA_neg {p : ByteArray × ByteArray} : refA l p < 0 ↔ p ∉ l.map pairOf := by
  unfold refA
  by_cases h : p ∈ l.map pairOf
  · rw [if_pos h]; constructor
    · intro h'; omega
    · intro h'; exact absurd h h'
  · rw [if_neg h]; exact ⟨fun _ => h, fun _ => by decide⟩
theorem refA_self {i : Nat} (hi : i < l.length) : refA l (pairOf l[i]) = i ↔ pairOf l[i] ∉ (l.take i).map pairOf := by
  have hm : pairOf l[i] ∈ l.map pairOf := List.mem_map.2 ⟨_, List.getElem_mem hi, rfl⟩
  have h2 := find_self (x := l.map pairOf) (i := i) (by simpa using hi)
  simp only [List.getElem_map] at h2
  rw [List.map_take, ← h2]
  unfold refA aIdx
  rw [if_pos hm]
  omega
theorem refA_at {p : ByteArray × ByteArray} {i : Nat} (hi : i < l.length) (hb : (l.take i).all (fun d => !decide (pairOf d = p)) = true) (he : pairOf l[i] = p) : refA l p = i := by
  have hm : p ∈ l.map pairOf := List.mem_map.2 ⟨_, List.getElem_mem hi, he⟩
  unfold refA aIdx
  rw [if_pos hm, find_at (i := i) (by simpa using hi) ?_ (by rw [List.getElem_map]; exact he)]
  rw [← List.map_take, List.all_map]
  exact hb
theorem refA_none {p : ByteArray × ByteArray} (hb : l.all (fun d => !decide (pairOf d = p)) = true) : refA l p = -1 := by
  unfold refA
  rw [if_neg]
  intro h
  obtain ⟨d, hd, e⟩ := List.mem_map.1 h
  have := List.all_eq_true.1 hb d hd
  simp [e] at this
end
end Go.Proofs.Ytlaibimdkamcfaa

/-
  A theory's type constructors and arities in memory; the reference's Type and arity.
-/
namespace Go.Proofs.Ytlaibimdkamcfaa
open Go.RowKit Go.Maps

/-- Type constructors in memory. -/
def TypesAt (W : World) (b o : Nat) (ts : List TD) : Prop := ∀ i (h : i < ts.length), b < W.heap.size ∧ W.cell? ⟨b, o + i * 2, none⟩ = some (.string ts[i].name) ∧ W.cell? ⟨b, o + i * 2 + 1, none⟩ = some (.int .i64 ts[i].arity) ∧ ts[i].name.size ≤ maxLen ∧ (-9223372036854775808 ≤ ts[i].arity ∧ ts[i].arity ≤ 9223372036854775807)

theorem TypesAt.later {W W' : World} {b o : Nat} {ts : List TD} (h : TypesAt W b o ts) (hb : Below W.heap.size W W') : TypesAt W' b o ts := by
  intro i hi
  obtain ⟨hlt, h1, h2, h3, h4⟩ := h i hi
  exact ⟨Nat.lt_of_lt_of_le hlt hb.size, (hb.cell (p := ⟨b, _, none⟩) hlt).trans h1, (hb.cell (p := ⟨b, _, none⟩) hlt).trans h2, h3, h4⟩

/-- An arity in three cells. -/
def AriAt (W : World) (b o : Nat) (a : Ari) : Prop :=
  ∃ (sa : Option Addr) (sb so sc : Nat), W.cell? ⟨b, o, none⟩ = some (.string a.typ) ∧ W.cell? ⟨b, o + 1, none⟩ = some (.string a.cls) ∧ W.cell? ⟨b, o + 2, none⟩ = some (.slice sa a.sorts.length sc) ∧ (a.sorts ≠ [] → sa = some ⟨sb, so, none⟩) ∧ SortsAt W sb so a.sorts ∧
    a.typ.size ≤ maxLen ∧ a.cls.size ≤ maxLen ∧ a.sorts.length ≤ 9223372036854775807

def ArisAt (W : World) (b o : Nat) (l : List Ari) : Prop := ∀ i (h : i < l.length), b < W.heap.size ∧ AriAt W b (o + i * 3) l[i]

theorem ArisAt.later {W W' : World} {b o : Nat} {l : List Ari} (h : ArisAt W b o l) (hb : Below W.heap.size W W') : ArisAt W' b o l := by
  intro i hi
  obtain ⟨hlt, sa, sb, so, sc, h1, h2, h3, h4, h5, h6⟩ := h i hi
  exact ⟨Nat.lt_of_lt_of_le hlt hb.size, sa, sb, so, sc, (hb.cell (p := ⟨b, _, none⟩) hlt).trans h1, (hb.cell (p := ⟨b, _, none⟩) hlt).trans h2, (hb.cell (p := ⟨b, _, none⟩) hlt).trans h3, h4, h5.later hb, h6⟩

/-- A whole theory at hand: its box, its classes, its type constructors, its arities. -/
structure ThyF (nm : ByteArray) (ca ta ra oa ya qa : Option Addr) (cc tc rc on oc yn yc qn qc cb co tb to rb ro : Nat) (cs : List Cls) (ts : List TD) (l : List Ari) (g : Nat) (W : World) : Prop where
  at_ : ThyAt nm ca ta ra oa ya qa cc ts.length tc l.length rc on oc yn yc qn qc cb co cs g W
  tya : ts ≠ [] → ta = some ⟨tb, to, none⟩
  tys : TypesAt W tb to ts
  tyl : ts.length ≤ 9223372036854775807
  ara : l ≠ [] → ra = some ⟨rb, ro, none⟩
  ars : ArisAt W rb ro l
  arl : l.length ≤ 9223372036854775807

section
variable {nm : ByteArray} {ca ta ra oa ya qa : Option Addr} {cc tc rc on oc yn yc qn qc cb co tb to rb ro : Nat} {cs : List Cls} {ts : List TD} {l : List Ari} {g : Nat}

theorem ThyF.later {W W' : World} (h : ThyF nm ca ta ra oa ya qa cc tc rc on oc yn yc qn qc cb co tb to rb ro cs ts l g W) (hb : Below W.heap.size W W') : ThyF nm ca ta ra oa ya qa cc tc rc on oc yn yc qn qc cb co tb to rb ro cs ts l g W' :=
  ⟨h.at_.later hb, h.tya, h.tys.later hb, h.tyl, h.ara, h.ars.later hb, h.arl⟩

/-- The theory of one box in another box. -/
theorem ThyF.boxed {W W' : World} {g' : Nat} (h : ThyF nm ca ta ra oa ya qa cc tc rc on oc yn yc qn qc cb co tb to rb ro cs ts l g W) (hb : Below W.heap.size W W') (hg : W'.heap[g']? = some (.cells #[.string nm, .slice ca cs.length cc, .slice ta ts.length tc, .slice ra l.length rc, .slice oa on oc, .slice ya yn yc, .slice qa qn qc] 29 (0, 0))) :
    ThyF nm ca ta ra oa ya qa cc tc rc on oc yn yc qn qc cb co tb to rb ro cs ts l g' W' :=
  ⟨⟨⟨hg, h.at_.thy.cls.later hb⟩, h.at_.cla, h.at_.len⟩, h.tya, h.tys.later hb, h.tyl, h.ara, h.ars.later hb, h.arl⟩
end

set_option maxRecDepth 100000 in
set_option maxHeartbeats 2000000 in
theorem refType_any {nm : ByteArray} {ca ta ra oa ya qa : Option Addr} {cc tc rc on oc yn yc qn qc cb co tb to rb ro : Nat} {cs : List Cls} {ts : List TD} {l : List Ari} {g : Nat} {W0 : World} (h : ThyF nm ca ta ra oa ya qa cc tc rc on oc yn yc qn qc cb co tb to rb ro cs ts l g W0) (s : ByteArray) (w : World) (hs : s.size ≤ maxLen) (hb : Below W0.heap.size W0 w) :
    Calls Try.prog 55 #[.agg #[.string nm, .slice ca cs.length cc, .slice ta ts.length tc, .slice ra l.length rc, .slice oa on oc, .slice ya yn yc, .slice qa qn qc], .string s] w fun e w' => e = .returned (.int .i64 (refT ts s)) ∧ Below W0.heap.size W0 w' := by
  have hb0 : Below w.heap.size w (w.alloc (.cells #[.string nm, .slice ca cs.length cc, .slice ta ts.length tc, .slice ra l.length rc, .slice oa on oc, .slice ya yn yc, .slice qa qn qc] 29)) := (Below.refl _ w).alloc (Nat.le_refl _) _
  have HTH := Lib.hid ((h.later hb).boxed hb0 (heap_alloc_new w _))
  have HB0 := Lib.hid (hb.trans (hb0.mono hb.size))
  have HTL := Lib.hid h.tyl
  have htl := h.tyl
  clear hb0 h hb
  obtain ⟨R, hR⟩ : ∃ R, refT ts s = R := ⟨_, rfl⟩
  rw [hR]
  have HR := Lib.hid hR
  clear hR
  unfold maxLen at hs
  go_enter Try.func55, Try.ntmps55
  go_wp2_with fail
  generalize (w.alloc (.cells #[.string nm, .slice ca cs.length cc, .slice ta ts.length tc, .slice ra l.length rc, .slice oa on oc, .slice ya yn yc, .slice qa qn qc] 29)) = w1 at *
  obtain ⟨ga, hga⟩ : ∃ q, w.heap.size = q := ⟨_, rfl⟩
  rw [hga] at HTH ⊢
  clear hga
  obtain ⟨g0, g1, g2, g3, g4, g5, g6⟩ := HTH.out.at_.cells
  go_loop [5] (fun t => ∃ i : Nat, t = .int .i64 i ∧ i ≤ ts.length ∧ (ts.take i).all (fun c => !decide (c.name = s)) = true) (fun t => ts.length - (intOf t).toNat)
  case atStart => exact ⟨0, rfl, Nat.zero_le _, by simp⟩
  case round =>
    obtain ⟨i, rfl, hi, hp⟩ := hrel
    by_cases hlt : i < ts.length
    · have e := HTH.out.tya (by intro e; subst e; simp at hlt)
      subst e
      obtain ⟨hcb, c0, c1, c2, c3⟩ := HTH.out.tys i hlt
      have HP := Lib.hid hp
      have hts : (ts.take (i + 1)).all (fun c => !decide (c.name = s)) = !decide (ts[i].name = s) := by
        rw [← List.take_append_getElem hlt, List.all_append, hp]; simp
      have HTS := Lib.hid hts
      have HAT := Lib.hid (fun he => refT_at hlt hp he)
      obtain ⟨c, hc⟩ : ∃ c, ts[i].name = c := ⟨_, rfl⟩
      rw [hc] at c0 c2 HTS HAT
      clear hp hts hc c1 c3
      have hq := toList_beq c s
      by_cases hd : c = s
      · rw [decide_eq_true hd] at hq
        have HD := Lib.hid hd
        clear hd
        go_wp2_with fail
        go_ret
        refine ⟨?_, HB0.out⟩
        rw [← HR.out, HAT.out HD.out]; rfl
      · rw [decide_eq_false hd] at hq HTS
        clear hd
        go_wp2_with fail
        go_round
        case rel => exact ⟨i + 1, by go_num, by omega, HTS.out⟩
        case measure => simp [intOf]; omega
    · have ht : ts.take i = ts := List.take_of_length_le (by omega)
      rw [ht] at hp
      have HP := Lib.hid hp
      clear hp ht
      go_wp2_with fail
      go_ret
      refine ⟨?_, HB0.out⟩
      rw [← HR.out, refT_none HP.out]; rfl

set_option maxRecDepth 100000 in
set_option maxHeartbeats 2000000 in
theorem refArity_any {nm : ByteArray} {ca ta ra oa ya qa : Option Addr} {cc tc rc on oc yn yc qn qc cb co tb to rb ro : Nat} {cs : List Cls} {ts : List TD} {l : List Ari} {g : Nat} {W0 : World} (h : ThyF nm ca ta ra oa ya qa cc tc rc on oc yn yc qn qc cb co tb to rb ro cs ts l g W0) (s z : ByteArray) (w : World) (hs : s.size ≤ maxLen) (hz : z.size ≤ maxLen) (hb : Below W0.heap.size W0 w) :
    Calls Try.prog 65 #[.agg #[.string nm, .slice ca cs.length cc, .slice ta ts.length tc, .slice ra l.length rc, .slice oa on oc, .slice ya yn yc, .slice qa qn qc], .string s, .string z] w fun e w' => e = .returned (.int .i64 (refA l (s, z))) ∧ Below W0.heap.size W0 w' := by
  have hb0 : Below w.heap.size w (w.alloc (.cells #[.string nm, .slice ca cs.length cc, .slice ta ts.length tc, .slice ra l.length rc, .slice oa on oc, .slice ya yn yc, .slice qa qn qc] 29)) := (Below.refl _ w).alloc (Nat.le_refl _) _
  have HTH := Lib.hid ((h.later hb).boxed hb0 (heap_alloc_new w _))
  have HB0 := Lib.hid (hb.trans (hb0.mono hb.size))
  have htl := h.arl
  clear hb0 h hb
  obtain ⟨R, hR⟩ : ∃ R, refA l (s, z) = R := ⟨_, rfl⟩
  rw [hR]
  have HR := Lib.hid hR
  clear hR
  unfold maxLen at hs hz
  go_enter Try.func65, Try.ntmps65
  go_wp2_with fail
  generalize (w.alloc (.cells #[.string nm, .slice ca cs.length cc, .slice ta ts.length tc, .slice ra l.length rc, .slice oa on oc, .slice ya yn yc, .slice qa qn qc] 29)) = w1 at *
  obtain ⟨ga, hga⟩ : ∃ q, w.heap.size = q := ⟨_, rfl⟩
  rw [hga] at HTH ⊢
  clear hga
  obtain ⟨g0, g1, g2, g3, g4, g5, g6⟩ := HTH.out.at_.cells
  go_loop [7] (fun t => ∃ i : Nat, t = .int .i64 i ∧ i ≤ l.length ∧ (l.take i).all (fun d => !decide (pairOf d = (s, z))) = true) (fun t => l.length - (intOf t).toNat)
  case atStart => exact ⟨0, rfl, Nat.zero_le _, by simp⟩
  case round =>
    obtain ⟨i, rfl, hi, hp⟩ := hrel
    by_cases hlt : i < l.length
    · have e := HTH.out.ara (by intro e; subst e; simp at hlt)
      subst e
      obtain ⟨hcb, sa, sb, so, sc, c0, c1, c2, c3, c4, c5, c6, c7⟩ := HTH.out.ars i hlt
      have HP := Lib.hid hp
      have hts : (l.take (i + 1)).all (fun d => !decide (pairOf d = (s, z))) = !decide (pairOf l[i] = (s, z)) := by
        rw [← List.take_append_getElem hlt, List.all_append, hp]; simp
      have HTS := Lib.hid hts
      have HAT := Lib.hid (fun he => refA_at (p := (s, z)) hlt hp he)
      obtain ⟨c, hc⟩ : ∃ c, l[i] = c := ⟨_, rfl⟩
      rw [hc] at c0 c1 c5 c6 HTS HAT
      clear hp hts hc c2 c3 c4 c7
      have hq := toList_beq c.typ s
      have hq2 := toList_beq c.cls z
      by_cases hd : c.typ = s
      · rw [decide_eq_true hd] at hq
        by_cases hd2 : c.cls = z
        · rw [decide_eq_true hd2] at hq2
          have HD := Lib.hid (show pairOf c = (s, z) by unfold pairOf; rw [hd, hd2])
          clear hd hd2
          go_wp2_with fail
          go_ret
          refine ⟨?_, HB0.out⟩
          rw [← HR.out, HAT.out HD.out]; rfl
        · rw [decide_eq_false hd2] at hq2
          have HD := Lib.hid (show (l.take (i + 1)).all (fun d => !decide (pairOf d = (s, z))) = true by
            rw [HTS.out, decide_eq_false]; · rfl
            · unfold pairOf; intro e; exact hd2 (Prod.mk.inj e).2)
          clear hd hd2
          go_wp2_with fail
          go_round
          case rel => exact ⟨i + 1, by go_num, by omega, HD.out⟩
          case measure => simp [intOf]; omega
      · rw [decide_eq_false hd] at hq
        have HD := Lib.hid (show (l.take (i + 1)).all (fun d => !decide (pairOf d = (s, z))) = true by
          rw [HTS.out, decide_eq_false]; · rfl
          · unfold pairOf; intro e; exact hd (Prod.mk.inj e).1)
        clear hd
        go_wp2_with fail
        go_round
        case rel => exact ⟨i + 1, by go_num, by omega, HD.out⟩
        case measure => simp [intOf]; omega
    · have ht : l.take i = l := List.take_of_length_le (by omega)
      rw [ht] at hp
      have HP := Lib.hid hp
      clear hp ht
      go_wp2_with fail
      go_ret
      refine ⟨?_, HB0.out⟩
      rw [← HR.out, refA_none HP.out]; rfl
end Go.Proofs.Ytlaibimdkamcfaa
end

