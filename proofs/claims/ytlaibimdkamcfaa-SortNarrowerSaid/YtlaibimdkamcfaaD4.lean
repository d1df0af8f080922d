import Derived.Test.YtlaibimdkamcfaaD3
import Derived.Test.YtlaibimdkamcfaaB2
import Derived.RangeFuncKeeps
import Derived.RangeFuncBound
import Derived.RangeFuncLeaves
import Derived.Shelf.Abstract
import Derived.OwnWalkIn
import Derived.TacticsInMore
import Derived.LoopNIn
import Derived.LoopIn
import Derived.Maps.AppendAt
import Derived.RangeFuncBox
import Derived.Outline
/-
  Algebra.upward's iterator: the classes above one, each once.
-/
namespace Go.Proofs.Ytlaibimdkamcfaa
open Go.RowKit Go.Shelf

theorem Try.info3 : (Try.prog.info? 3).map (fun i => (i.zero, i.size, i.bytes)) = some (some (.int .i64 0), 1, 8) := by kernel_rfl

def intV (l : List Nat) : List Value := l.map fun (j : Nat) => .int .i64 (j : Int)

/-- What is known when some have come (ys) and some are to come (st). -/
structure UpSt (sup : Nat → List Nat) (i n : Nat) (ys st : List Nat) : Prop where
  nodup : (ys ++ st).Nodup
  reach : ∀ j, j ∈ ys ++ st → Reach sup i j
  done : ∀ y, y ∈ ys → ∀ s, s ∈ sup y → s ∈ ys ++ st
  self : i ∈ ys ++ st

theorem own_pop {W : World} {base e g k cap : Nat} {xs : List Value} {x : Value} (h : W.ownsRow base e 1 (.slice (some ⟨g, 0, none⟩) (k + 1) cap) (k + 1) (xs ++ [x])) :
    W.cell? ⟨g, k, none⟩ = some x ∧ W.ownsRow base e 1 (.slice (some ⟨g, 0, none⟩) k cap) k xs ∧ k + 1 ≤ cap ∧ cap ≤ 9223372036854775807 ∧ xs.length = k := by
  have hl : xs.length = k := by have := h.1; simp at this; omega
  rcases h.2 with ⟨h0, _⟩ | ⟨g', cap', cur, hv, hb, hg, hk, hm, hs, ht⟩
  · cases h0
  · cases hv
    simp only [Nat.mul_one] at ht hs
    have h63 : cap ≤ 9223372036854775807 := by unfold maxLen at hm; omega
    have hcur : cur.toList.take k = xs := by
      have := congrArg (List.take k) ht
      rw [List.take_take, Nat.min_eq_left (by omega), List.take_append_of_le_length (by omega), List.take_of_length_le (show xs.length ≤ k by omega)] at this
      exact this
    refine ⟨?_, ⟨by omega, .inr ⟨g, cap, cur, rfl, hb, hg, by omega, hm, by omega, by rw [Nat.mul_one]; exact hcur⟩⟩, hk, h63, hl⟩
    rw [Lib.cell_of_heap hg]
    have h2 : (cur.toList.take (k + 1))[k]? = some x := by rw [ht, List.getElem?_append_right (by omega), hl]; simp
    rw [List.getElem?_take_of_lt (by omega)] at h2
    simpa using h2

theorem nodup_le : ∀ {n : Nat} {l : List Nat}, l.Nodup → (∀ x, x ∈ l → x < n) → l.length ≤ n
  | 0, l, _, h => by
    cases l with
    | nil => simp
    | cons a l => exact absurd (h a List.mem_cons_self) (by omega)
  | n + 1, l, hn, h => by
    have h1 : (l.erase n).Nodup := hn.erase n
    have h2 := nodup_le h1 (n := n) (fun x hx => by
      have := (hn.mem_erase_iff).1 hx
      have := h x this.2
      omega)
    have h3 : l.length ≤ (l.erase n).length + 1 := by
      rw [List.length_erase]
      split <;> omega
    omega

theorem UpSt.lt {sup : Nat → List Nat} {i n : Nat} {ys st : List Nat} (h : UpSt sup i n ys st) (hs : ∀ i j, j ∈ sup i → j < i) (hi : i < n) {j : Nat} (hj : j ∈ ys ++ st) : j < n := by
  have := (h.reach j hj).le hs
  omega
theorem UpSt.len {sup : Nat → List Nat} {i n : Nat} {ys st : List Nat} (h : UpSt sup i n ys st) (hs : ∀ i j, j ∈ sup i → j < i) (hi : i < n) : ys.length + st.length ≤ n := by
  have := nodup_le h.nodup (fun j hj => h.lt hs hi hj)
  simpa using this

def sliceLen : Value → Nat
  | .slice _ n _ => n
  | _ => 0

/-- At the head of a round. -/
def UpRel (sup : Nat → List Nat) (i n x B : Nat) (w : World) (J : List Nat → World → Prop) (t : Value) (wr : World) : Prop :=
  ∃ ys st, UpSt sup i n ys st ∧ wr.ownsRow B 3 1 t st.length (intV st) ∧ SeenAt (B + 1) (fun j => decide (j ∈ ys ++ st)) wr ∧ J ys wr ∧ Held x w wr ∧ B + 2 ≤ wr.heap.size ∧ sliceLen t = st.length

/-- In the midst of a round: k of the supers of nx have been looked at. -/
structure InSt (sup : Nat → List Nat) (i : Nat) (ys : List Nat) (nx k : Nat) (st : List Nat) : Prop where
  nodup : (ys ++ [nx] ++ st).Nodup
  reach : ∀ j, j ∈ ys ++ [nx] ++ st → Reach sup i j
  done : ∀ y, y ∈ ys → ∀ s, s ∈ sup y → s ∈ ys ++ [nx] ++ st
  part : ∀ s, s ∈ (sup nx).take k → s ∈ ys ++ [nx] ++ st
  self : i ∈ ys ++ [nx] ++ st

theorem mem_shift (ys st : List Nat) (nx j : Nat) : j ∈ ys ++ [nx] ++ st ↔ j ∈ ys ++ (st ++ [nx]) := by
  simp only [List.mem_append, List.mem_singleton, or_assoc]
  rw [or_comm (a := j = nx)]

theorem InSt.start {sup : Nat → List Nat} {i n nx : Nat} {ys st : List Nat} (h : UpSt sup i n ys (st ++ [nx])) : InSt sup i ys nx 0 st := by
  have hm : ∀ j, j ∈ ys ++ [nx] ++ st ↔ j ∈ ys ++ (st ++ [nx]) := mem_shift ys st nx
  refine ⟨?_, fun j hj => h.reach j ((hm j).1 hj), fun y hy s hs => (hm s).2 (h.done y hy s hs), fun s hs => (by simp at hs), (hm i).2 h.self⟩
  refine h.nodup.perm ?_ 
  rw [List.append_assoc]
  exact List.Perm.append_left _ List.perm_append_comm

theorem InSt.skip {sup : Nat → List Nat} {i nx k : Nat} {ys st : List Nat} (h : InSt sup i ys nx k st) (hk : k < (sup nx).length) (hm : (sup nx)[k] ∈ ys ++ [nx] ++ st) : InSt sup i ys nx (k + 1) st :=
  ⟨h.nodup, h.reach, h.done, fun s hs => (by
    rw [← List.take_append_getElem hk] at hs
    rcases List.mem_append.1 hs with hs | hs
    · exact h.part s hs
    · rw [List.mem_singleton.1 hs]; exact hm), h.self⟩

theorem InSt.push {sup : Nat → List Nat} {i nx k : Nat} {ys st : List Nat} (h : InSt sup i ys nx k st) (hk : k < (sup nx).length) (hm : (sup nx)[k] ∉ ys ++ [nx] ++ st) : InSt sup i ys nx (k + 1) (st ++ [(sup nx)[k]]) := by
  have hsub : ∀ s, s ∈ ys ++ [nx] ++ st → s ∈ ys ++ [nx] ++ (st ++ [(sup nx)[k]]) := fun s hs => by rw [← List.append_assoc]; exact List.mem_append_left _ hs
  refine ⟨?_, ?_, fun y hy s hs => hsub s (h.done y hy s hs), ?_, hsub _ h.self⟩
  · rw [← List.append_assoc, List.nodup_append]
    refine ⟨h.nodup, by simp, fun a ha b hb => ?_⟩
    rw [List.mem_singleton.1 hb]
    rintro rfl
    exact hm ha
  · intro j hj
    rw [← List.append_assoc] at hj
    rcases List.mem_append.1 hj with hj | hj
    · exact h.reach j hj
    · rw [List.mem_singleton.1 hj]
      exact (h.reach nx (by simp)).snoc (List.getElem_mem hk)
  · intro s hs
    rw [← List.take_append_getElem hk] at hs
    rcases List.mem_append.1 hs with hs | hs
    · exact hsub s (h.part s hs)
    · rw [List.mem_singleton.1 hs]; simp

theorem InSt.fin {sup : Nat → List Nat} {i n nx k : Nat} {ys st : List Nat} (h : InSt sup i ys nx k st) (hk : (sup nx).length ≤ k) : UpSt sup i n (ys ++ [nx]) st := by
  refine ⟨h.nodup, h.reach, fun y hy s hs => ?_, h.self⟩
  rcases List.mem_append.1 hy with hy | hy
  · exact h.done y hy s hs
  · rw [List.mem_singleton.1 hy] at hs
    exact h.part s (by rw [List.take_of_length_le hk]; exact hs)

theorem grown_set (w : World) (a : Addr) (u : Value) : w.grownBy (w.setCell a u).drew (some a.block) := by
  refine ⟨rfl, rfl, rfl, by simp, fun k hk hne => Below.heap_setCell w a u k (fun e => hne (by rw [e]))⟩

/-- In the midst of a round. -/
def InRel (sup : Nat → List Nat) (i x B : Nat) (w : World) (J : List Nat → World → Prop) (ys : List Nat) (nx M : Nat) (t q : Value) (wr : World) : Prop :=
  ∃ k st, k ≤ (sup nx).length ∧ q = .int .i64 (k : Nat) ∧ InSt sup i ys nx k st ∧ wr.ownsRow B 3 1 t st.length (intV st) ∧ SeenAt (B + 1) (fun j => decide (j ∈ ys ++ [nx] ++ st)) wr ∧ J (ys ++ [nx]) wr ∧ Held x w wr ∧ B + 2 ≤ wr.heap.size ∧ sliceLen t = st.length ∧ 2 * unset (B + 1) wr + sliceLen t ≤ M

set_option maxRecDepth 100000 in
set_option maxHeartbeats 4000000 in
theorem upward_core (m n i x ca ga uc sb so : Nat) (sup : Nat → List Nat) (w : World) (hn : n ≤ 300) (hi : i < n) (hs : ∀ i j, j ∈ sup i → j < i) (hsz : ∀ i, (sup i).length ≤ 300)
    (hca : ca < w.heap.size) (hcx : ca ≠ x) (hga : ga < w.heap.size) (hgx : ga ≠ x) (hx : x < w.heap.size)
    (hc : w.cell? ⟨ca, 0, none⟩ = some (.int .i64 (i : Int))) (hg : w.cell? ⟨ga, 2, none⟩ = some (.slice (some ⟨sb, so, none⟩) n uc)) (hsup : SupAt sup n x w.heap.size w sb so)
    (l : Nat) (J Jx : List Nat → World → Prop) (W : World) (hW : Below w.heap.size w W) (hJ : Firm W.heap.size J)
    (hY : ∀ pre nx W1, J pre W1 → nx < 320 → pre.length < 320 → YieldAt Fence.wide (m - 1) Try.prog l #[.int .i64 (nx : Nat)] W1 fun e W' =>
      (e = .returned (.bool true) ∧ J (pre ++ [nx]) W' ∧ KeepsC x W1 W') ∨ (e = .returned (.bool false) ∧ Jx (pre ++ [nx]) W')) (h0 : J [] W) :
    CallsIn Fence.wide m Try.prog 83 #[.func (.yield l) #[] #[], .pointer (some ⟨ca, 0, none⟩), .pointer (some ⟨ga, 0, none⟩)] W fun e W' =>
      (∃ v, e = .returned v) ∧ ((∃ xs : List Nat, (xs.Nodup ∧ ∀ j, j ∈ xs ↔ Reach sup i j) ∧ J xs W') ∨ (∃ pre, True ∧ Jx pre W')) := by
  have hdd : ∀ k : Nat, (Fence.wide.depth.isSome = true → 1 ≤ k) := fun k h => by cases h
  have hcW := (hW.cell (p := ⟨ca, 0, none⟩) hca).trans hc
  have HW0 := Lib.hid ((Held.refl x w).below hW)
  have HY := Lib.hid hY
  have HJ := Lib.hid hJ
  have HG := Lib.hid hg
  have HSZ := Lib.hid hsz
  clear hsz
  clear hc hg hJ hY
  have b2 : Below W.heap.size W ((W.alloc (.cells #[.int .i64 (i : Int)] 3)).alloc (.cells #[.int .u64 0, .int .u64 0, .int .u64 0, .int .u64 0, .int .u64 0] 109)) := ((Below.refl _ W).alloc (Nat.le_refl _) _).alloc (by simp) _
  have hw2 : ((W.alloc (.cells #[.int .i64 (i : Int)] 3)).alloc (.cells #[.int .u64 0, .int .u64 0, .int .u64 0, .int .u64 0, .int .u64 0] 109)).heap[W.heap.size]? = some (.cells #[.int .i64 (i : Int)] 3 (0, 0)) := by rw [Below.heap_alloc _ _ _ (by simp)]; exact heap_alloc_new W _
  have hs2 : ((W.alloc (.cells #[.int .i64 (i : Int)] 3)).alloc (.cells #[.int .u64 0, .int .u64 0, .int .u64 0, .int .u64 0, .int .u64 0] 109)).heap[W.heap.size + 1]? = some (.cells #[.int .u64 0, .int .u64 0, .int .u64 0, .int .u64 0, .int .u64 0] 109 (0, 0)) := Go.heap_alloc2_new W _ _
  have hz2 : ((W.alloc (.cells #[.int .i64 (i : Int)] 3)).alloc (.cells #[.int .u64 0, .int .u64 0, .int .u64 0, .int .u64 0, .int .u64 0] 109)).heap.size = W.heap.size + 2 := by simp
  have hc2 : ((W.alloc (.cells #[.int .i64 (i : Int)] 3)).alloc (.cells #[.int .u64 0, .int .u64 0, .int .u64 0, .int .u64 0, .int .u64 0] 109)).cell? ⟨ca, 0, none⟩ = some (.int .i64 (i : Int)) := (b2.cell (p := ⟨ca, 0, none⟩) (by show ca < W.heap.size; have := hW.size; omega)).trans hcW
  have HJ2 := Lib.hid (HJ.out _ _ _ h0 b2)
  clear h0
  have B2 := Lib.hid b2
  have HW2 := Lib.hid hw2
  have HS2 := Lib.hid hs2
  have HZ2 := Lib.hid hz2
  clear b2 hw2 hs2 hz2
  obtain ⟨i0, hi0, hz0, hz1, hzb⟩ := info_parts Try.info3
  obtain ⟨w2, hw2e⟩ : ∃ q, (W.alloc (.cells #[.int .i64 (i : Int)] 3)).alloc (.cells #[.int .u64 0, .int .u64 0, .int .u64 0, .int .u64 0, .int .u64 0] 109) = q := ⟨_, rfl⟩
  rw [hw2e] at B2 HW2 HS2 HZ2 HJ2
  have HC2 := Lib.hid hc2
  rw [hw2e] at HC2
  have HE := Lib.hid hw2e
  clear hw2e
  -- the class itself is seen
  have S0 := SeenAt.new w2 HS2.out
  obtain ⟨v, hv1, hv2, hv3, hv4, hv5⟩ := S0.word (j := i) (by omega)
  have HA := Lib.hid (add_any (W.heap.size + 1) 0 i v w2 (by omega) hv1 hv2 hv3)
  have HS3 := Lib.hid hv5
  have HB3 := Lib.hid ((B2.out.setCell (p := ⟨W.heap.size + 1, 0 + i / 64, none⟩) (by show W.heap.size ≤ W.heap.size + 1; omega) (.int .u64 ((v ||| 2 ^ (i % 64) : Nat) : Int))).drew)
  have HW3 := Lib.hid (show (w2.setCell ⟨W.heap.size + 1, 0 + i / 64, none⟩ (.int .u64 ((v ||| 2 ^ (i % 64) : Nat) : Int))).drew.heap[W.heap.size]? = some (.cells #[.int .i64 (i : Int)] 3 (0, 0)) from (Below.heap_setCell w2 ⟨W.heap.size + 1, 0 + i / 64, none⟩ _ W.heap.size (by show W.heap.size ≠ W.heap.size + 1; omega)).trans HW2.out)
  have HZ3 := Lib.hid (show (w2.setCell ⟨W.heap.size + 1, 0 + i / 64, none⟩ (.int .u64 ((v ||| 2 ^ (i % 64) : Nat) : Int))).drew.heap.size = W.heap.size + 2 from (by have := HZ2.out; simp only [World.size_drew, World.size_setCell]; exact this))
  have HJ3 := Lib.hid (HJ.out [] w2 (w2.setCell ⟨W.heap.size + 1, 0 + i / 64, none⟩ (.int .u64 ((v ||| 2 ^ (i % 64) : Nat) : Int))).drew HJ2.out (((Below.refl _ w2).setCell (p := ⟨W.heap.size + 1, 0 + i / 64, none⟩) (by show W.heap.size ≤ W.heap.size + 1; omega) _).drew))
  clear S0 hv1 hv2 hv3 hv4 hv5 HS2 HW2
  refine callsIn_of_wp Try.func83 rfl trivial ?_ rfl
  simp only [Try.ntmps83, List.size_toArray, List.length_cons, List.length_nil, Nat.reduceAdd, Nat.reduceSub, Array.replicate_succ, Array.replicate_zero, List.push_toArray, List.append_toArray, List.nil_append, List.cons_append]
  gi_wp2
  refine ⟨trivial, hdd _, ?_⟩
  rw [HE.out]
  refine (callsIn_wide.2 HA.out).mono ?_
  rintro e w3 ⟨rfl, hw3⟩
  rw [← hw3] at HS3 HB3 HW3 HZ3 HJ3
  clear hw3 hc2 hcW
  gi_wp2
  have hU0 : UpSt sup i n [] [i] := ⟨by simp, fun j hj => (by (obtain rfl : j = i := by simpa using hj); exact .refl _), fun y hy => (nomatch hy), by simp⟩
  have hO0 : w3.ownsRow W.heap.size 3 1 (.slice (some ⟨W.heap.size, 0, none⟩) 1 1) 1 (intV [i]) := ⟨rfl, .inr ⟨_, 1, _, rfl, Nat.le_refl _, HW3.out, by decide, by decide, rfl, rfl⟩⟩
  have hH0 : Held x w w3 := HW0.out.below (HB3.out.mono hW.size)
  have hz3 : W.heap.size + 2 ≤ w3.heap.size := by have := HZ3.out; omega
  have hS0 : SeenAt (W.heap.size + 1) (fun j => decide (j ∈ [] ++ [i])) w3 := HS3.out.congr fun j => by simp
  have R0 : UpRel sup i n x W.heap.size w J (.slice (some ⟨W.heap.size, 0, none⟩) 1 1) w3 := ⟨[], [i], hU0, hO0, hS0, HJ3.out, hH0, hz3, rfl⟩
  have HR0 := Lib.hid R0
  clear R0 hS0 hz3 hH0 hO0 hU0 HJ3 HZ3 HW3 HB3 HS3 HA HC2 HJ2 HZ2 HE B2 HW0
  gi_loopw [4] (fun t wr => UpRel sup i n x W.heap.size w J t wr) (fun t wr => 2 * unset (W.heap.size + 1) wr + sliceLen t)
  case atStart => exact HR0.out
  case round =>
    obtain ⟨ys, st, hU, ho, hS, hj, hH, hz, hsl⟩ := hrel
    have hsb : SeenAt (W.heap.size + 1) (fun j => decide (j ∈ ys ++ st)) wr := hS
    have HSE := Lib.hid hS
    have HJR := Lib.hid hj
    have HHR := Lib.hid hH
    have HUS := Lib.hid hU
    clear hS hj hH hU hsb
    rcases List.eq_nil_or_concat st with rfl | ⟨st', nx, rfl⟩
    · have ht : ∃ a c, u4 = Value.slice a 0 c := by
        rcases ho.2 with ⟨h, _⟩ | ⟨g, cap, _, h, _⟩
        · exact ⟨_, _, h⟩
        · exact ⟨_, _, h⟩
      obtain ⟨a, c, rfl⟩ := ht
      gi_wp2
      go_end0
      have hU := HUS.out
      refine ⟨⟨_, rfl⟩, .inl ⟨ys, ⟨by simpa using hU.nodup, fun j => ⟨fun hj => hU.reach j (by simpa using hj), fun hr => ?_⟩⟩, HJR.out⟩⟩
      have h2 := hr.closed (P := fun j => j ∈ ys) (by simpa using hU.self) (fun y hy s hs' => by simpa using hU.done y hy s hs')
      exact h2
    · rw [List.concat_eq_append] at *
      have hlen : (st' ++ [nx]).length = st'.length + 1 := by simp
      rw [hlen] at ho hsl
      have hiv : intV (st' ++ [nx]) = intV st' ++ [.int .i64 (nx : Int)] := by simp [intV]
      rw [hiv] at ho
      obtain ⟨g, cap, rfl⟩ := ownsRow_succ ho
      obtain ⟨hg1, ho1, hk, hm, _⟩ := own_pop ho
      have hgb : W.heap.size ≤ g := (ho.lt g rfl).1
      have HO1 := Lib.hid ho1
      have hgs : g ≠ W.heap.size + 1 := by
        intro e
        exact HSE.out.apart (by decide) ho (by rw [← e]; rfl)
      clear ho ho1 hlen hiv
      have hlen2 := HUS.out.len hs hi
      simp only [List.length_append, List.length_cons, List.length_nil] at hlen2
      obtain ⟨fn, tmps, assign, body, hy, hR⟩ := HY.out ys nx wr HJR.out (by have := HUS.out.lt hs hi (j := nx) (by simp); omega) (by omega)
      have hnx : nx < n := HUS.out.lt hs hi (by simp)
      have HRn := Lib.hid hR
      clear hR hlen2
      gi_wp2
      refine ⟨hdd _, ?_⟩
      refine HRn.out.mono ?_
      rintro e W' (⟨rfl, hJ', hk⟩ | ⟨rfl, hJx'⟩)
      · have hzz := hk.size
        have hH' := HHR.out.keeps hk
        have HS' := Lib.hid (HSE.out.keeps hk (by have := hW.size; omega))
        have HO' := Lib.hid (hk.own (by have := hW.size; omega) HO1.out)
        have g2 := hH'.cell hgx hga HG.out
        obtain ⟨sa, sbb, soo, scc, r1, r2, r3⟩ := hsup.row nx hnx
        have r1' := hH'.cell (hsup.blk (by omega)).2 (hsup.blk (by omega)).1 r1
        have HSA := Lib.hid r2
        have HR3 := Lib.hid r3
        have HJ' := Lib.hid hJ'
        have HH' := Lib.hid hH'
        clear r1 r2 r3 hk hJ' hH'
        gi_wp2
        have HS2 : SeenAt (W.heap.size + 1) (fun j => decide (j ∈ ys ++ [nx] ++ st')) W' := HS'.out.congr fun j => by
          rw [Bool.eq_iff_iff, decide_eq_true_eq, decide_eq_true_eq, mem_shift]
        have hM : 2 * unset (W.heap.size + 1) W' + st'.length ≤ 2 * unset (W.heap.size + 1) wr + st'.length := by
          rw [HS'.out.unset, HSE.out.unset]; exact Nat.le_refl _
        have HMO := Lib.hid (show sliceLen (.slice (some ⟨g, 0, none⟩) (st'.length + 1) cap) = st'.length + 1 from rfl)
        have I0 : InRel sup i x W.heap.size w J ys nx (2 * unset (W.heap.size + 1) wr + st'.length) (.slice (some ⟨g, 0, none⟩) st'.length cap) (.int .i64 ((0 : Nat) : Int)) W' :=
          ⟨0, st', Nat.zero_le _, rfl, .start HUS.out, HO'.out, HS2, HJ'.out, HH'.out, by omega, rfl, hM⟩
        have HI0 := Lib.hid I0
        obtain ⟨M, hMe⟩ : ∃ M, 2 * unset (W.heap.size + 1) wr + st'.length = M := ⟨_, rfl⟩
        rw [hMe] at HI0
        have HMe := Lib.hid hMe
        clear I0 HS2 hM HS' HO' HJ' HH' hMe
        obtain ⟨wo, hwo⟩ : ∃ wo : World, wr = wo := ⟨_, rfl⟩
        subst hwo
        gi_loopw [4, 38] (fun t q wr => InRel sup i x W.heap.size w J ys nx M t q wr) (fun _ q _ => (sup nx).length - (intOf q).toNat)
        case atStart => exact HI0.out
        case round =>
          obtain ⟨k, st, hk, rfl, hI, ho, hS, hj, hH, hz2, hsl2, hM⟩ := hrel
          have HUI := Lib.hid hI
          have HL2 := Lib.hid hsl2
          have HJI := Lib.hid hj
          have HHI := Lib.hid hH
          have HMI := Lib.hid hM
          by_cases hlt : k < (sup nx).length
          · have hsn : sup nx ≠ [] := by intro e; rw [e] at hlt; simp at hlt
            obtain ⟨hsa, hbb, hbx⟩ := HSA.out hsn
            subst hsa
            have hc1 := hH.cell hbx hbb (HR3.out k hlt)
            have hsm := List.getElem_mem hlt
            have HSK := Lib.hid (fun hm => hI.skip hlt hm)
            have HPU := Lib.hid (fun hm => hI.push hlt hm)
            obtain ⟨s, hse⟩ : ∃ s, (sup nx)[k] = s := ⟨_, rfl⟩
            rw [hse] at hc1 hsm HSK HPU
            have hsl := hs nx s hsm
            have HSM := Lib.hid hsm
            obtain ⟨v, hv1, hv2, hv3, hv4, hv5⟩ := hS.word (j := s) (by omega)
            have HHs := Lib.hid (has_any (W.heap.size + 1) 0 s v wr (by omega) hv1 hv3)
            rw [hv4] at HHs
            have HAs := Lib.hid (add_any (W.heap.size + 1) 0 s v wr (by omega) hv1 hv2 hv3)
            have HS0 := Lib.hid hS
            have HO0 := Lib.hid ho
            have HS5 := Lib.hid hv5
            have hk300 := HSZ.out nx
            clear hv1 hv2 hv3 hv4 hv5 hS ho hI hj hH hM hsn hsm hse hsl2
            by_cases hm : s ∈ ys ++ [nx] ++ st
            · rw [decide_eq_true hm] at HHs
              have HM2 := Lib.hid hm
              clear hm
              gi_wp2
              refine ⟨trivial, hdd _, ?_⟩
              refine (callsIn_wide.2 HHs.out).mono ?_
              rintro e w4 ⟨rfl, h4⟩
              rw [h4]
              clear h4
              gi_wp2
              refine ⟨⟨k + 1, st, by omega, by simp only [Int.natCast_add, Int.natCast_one], HSK.out HM2.out, HO0.out, HS0.out, HJI.out, HHI.out, hz2, HL2.out, HMI.out⟩, ?_⟩
              show (sup nx).length - ((k : Int) + 1).toNat < (sup nx).length - ((k : Nat) : Int).toNat
              omega
            · rw [decide_eq_false hm] at HHs
              have HM2 := Lib.hid hm
              clear hm
              gi_wp2
              refine ⟨trivial, hdd _, ?_⟩
              refine (callsIn_wide.2 HHs.out).mono ?_
              rintro e w4 ⟨rfl, h4⟩
              rw [h4]
              clear h4
              gi_wp2
              refine ⟨trivial, hdd _, ?_⟩
              refine (callsIn_wide.2 HAs.out).mono ?_
              rintro e w5 ⟨rfl, h5⟩
              have ho5 : w5.ownsRow W.heap.size 3 1 u4 st.length (intV st) := by rw [h5]; exact HO0.out.kept (grown_set wr _ _) (.inr (HS0.out.apart (by decide) HO0.out))
              have hz5 : W.heap.size + 2 ≤ w5.heap.size := by rw [h5]; simpa using hz2
              have hb5 : Below W.heap.size wr w5 := by rw [h5]; exact ((Below.refl _ wr).setCell (p := ⟨W.heap.size + 1, 0 + s / 64, none⟩) (by show W.heap.size ≤ W.heap.size + 1; omega) _).drew
              have hS5 := HS5.out
              rw [← h5] at hS5
              have HO5 := Lib.hid ho5
              have HZ5 := Lib.hid hz5
              have HB5 := Lib.hid hb5
              have HS6 := Lib.hid hS5
              have hl5 : st.length + 1 ≤ 301 := by
                have h1 := nodup_le (n := n) (l := ys ++ [nx] ++ st) HUI.out.nodup (fun j hj => by have := (HUI.out.reach j hj).le hs; omega)
                simp only [List.length_append, List.length_cons, List.length_nil] at h1
                omega
              clear h5 ho5 hb5 hS5 hz5
              gi_wp2_with (gi_at_builtin; refine wpListIn_append_own _ rfl _ _ 106 rfl W.heap.size 3 i0 (.int .i64 0) 1 8 Try.underlying106 hi0 hz0 hz1 hzb rfl (by decide) _ _ _ rfl (HO5.out.alloc _) ⟨w5.heap.size, 0, none⟩ 1 1 [.int .i64 (s : Int)] rfl rfl (cell_one_new _ _ _) (by simp [Value.oneCell']) (by unfold maxLen; omega) (by omega) (by have := HZ5.out; simp; omega) ?_; intro v' w6 hown6 hgrow6 _)
              have hb6 : Below W.heap.size w5 w6 := ((Below.refl W.heap.size w5).alloc (by have := HZ5.out; omega) _).grown hgrow6 (by have := HZ5.out; simp; omega) (fun q e => (HO5.out.lt q e).1)
              have hbb6 := HB5.out.trans hb6
              obtain ⟨g6, cap6, hv6⟩ := ownsRow_succ hown6
              have hS6a : SeenAt (W.heap.size + 1) (fun j => decide (j ∈ ys ++ [nx] ++ st) || decide (j = s)) w6 :=
                (HS6.out.below ((Below.refl w5.heap.size w5).alloc (Nat.le_refl _) _) (by have := HZ5.out; omega)).grown hgrow6 (HS6.out.apart (by decide) HO5.out)
              have hS6b : SeenAt (W.heap.size + 1) (fun j => decide (j ∈ ys ++ [nx] ++ (st ++ [s]))) w6 := hS6a.congr fun j => by
                rw [Bool.eq_iff_iff, Bool.or_eq_true, decide_eq_true_eq, decide_eq_true_eq, decide_eq_true_eq]
                simp only [List.mem_append, List.mem_singleton, or_assoc]
              have hnot : notIn (fun j => decide (j ∈ ys ++ [nx] ++ st) || decide (j = s)) < notIn (fun j => decide (j ∈ ys ++ [nx] ++ st)) := notIn_add (by omega) (decide_eq_false HM2.out)
              have hl6 : (st ++ [s]).length = st.length + 1 := by simp
              refine ⟨⟨k + 1, st ++ [s], by omega, by simp only [Int.natCast_add, Int.natCast_one], HPU.out HM2.out, ?_, hS6b, HJ.out _ _ _ HJI.out hbb6, HHI.out.below (hbb6.mono hW.size), Nat.le_trans hz2 hbb6.size, ?_, ?_⟩, ?_⟩
              · rw [hl6]
                have : intV (st ++ [s]) = intV st ++ [.int .i64 (s : Int)] := by simp [intV]
                rw [this]
                exact hown6
              · rw [hv6, hl6]; rfl
              · have h1 := HMI.out
                rw [HS0.out.unset, HL2.out] at h1
                rw [hS6a.unset, hv6]
                show 2 * notIn _ + (st.length + 1) ≤ M
                omega
              · show (sup nx).length - ((k : Int) + 1).toNat < (sup nx).length - ((k : Nat) : Int).toNat
                omega
          · gi_wp2
            refine ⟨⟨ys ++ [nx], st, HUI.out.fin (by omega), ho, hS, HJI.out, HHI.out, hz2, HL2.out⟩, ?_⟩
            have h1 := HMI.out
            have h2 := HMe.out
            rw [HMO.out]
            omega
      · gi_wp2
        (try simp only [Exit.inBlock, Exit.then])
        exact bodyPost_ret (results_none rfl _ _ _) rfl ⟨⟨_, rfl⟩, .inr ⟨_, trivial, hJx'⟩⟩

/-- The iterator of upward: whatever the loop does, all classes above come, each once. -/
theorem upward_iter (m n i x ca ga uc sb so : Nat) (sup : Nat → List Nat) (w : World) (hn : n ≤ 300) (hi : i < n) (hs : ∀ i j, j ∈ sup i → j < i) (hsz : ∀ i, (sup i).length ≤ 300)
    (hca : ca < w.heap.size) (hcx : ca ≠ x) (hga : ga < w.heap.size) (hgx : ga ≠ x) (hx : x < w.heap.size)
    (hc : w.cell? ⟨ca, 0, none⟩ = some (.int .i64 (i : Int))) (hg : w.cell? ⟨ga, 2, none⟩ = some (.slice (some ⟨sb, so, none⟩) n uc)) (hsup : SupAt sup n x w.heap.size w sb so) :
    SeqB Fence.wide m Try.prog 83 #[.pointer (some ⟨ca, 0, none⟩), .pointer (some ⟨ga, 0, none⟩)] (fun j : Fin 320 => #[.int .i64 (j.val : Nat)]) (KeepsC x)
      (fun ys => ∀ j, j ∈ ys.map Fin.val ↔ Reach sup i j) (fun _ => True) 320 w := by
  intro l J Jx W hW hJ hJx hY h0
  refine (upward_core m n i x ca ga uc sb so sup w hn hi hs hsz hca hcx hga hgx hx hc hg hsup l (fun ns W => ∃ ys : List (Fin 320), ys.map Fin.val = ns ∧ J ys W) (fun ns W => ∃ ys : List (Fin 320), Jx ys W) W hW ?_ ?_ ⟨[], rfl, h0⟩).mono ?_
  · rintro s A A' ⟨ys, h1, h2⟩ hb
    exact ⟨ys, h1, hJ _ _ _ h2 hb⟩
  · rintro pre nx W1 ⟨ys, rfl, hj⟩ hnx hlen
    refine (hY ys ⟨nx, hnx⟩ W1 hj (by simpa using hlen)).mono fun e W' h => ?_
    rcases h with ⟨he, h1, h2⟩ | ⟨he, h1⟩
    · exact .inl ⟨he, ⟨_, by simp, h1⟩, h2⟩
    · exact .inr ⟨he, _, h1⟩
  · rintro e W' ⟨hv, (⟨xs, ⟨_, hx⟩, ys, rfl, hj⟩ | ⟨pre, _, ys, hj⟩)⟩
    · exact ⟨hv, .inl ⟨ys, hx, hj⟩⟩
    · exact ⟨hv, .inr ⟨ys, trivial, hj⟩⟩
end Go.Proofs.Ytlaibimdkamcfaa

/-
  Algebra.upward; what a function with ranges over functions in a loop leaves with: marks, one behind the other; a loop whose rounds push marks.
-/
namespace Go.Proofs.Ytlaibimdkamcfaa
open Go.RowKit Go.Shelf

set_option maxRecDepth 100000 in
set_option maxHeartbeats 1000000 in
theorem upward_any (na ua ba ta : Option Addr) (nl nc ul uc bl bc tl tc i : Nat) (mv tm sm : Option Nat) (w : World) :
    Calls Try.prog 68 #[.agg #[.slice na nl nc, .map mv, .slice ua ul uc, .slice ba bl bc, .slice ta tl tc, .map tm, .map sm], .int .i64 (i : Int)] w fun e w' =>
      e = .returned (.func (.func 83) #[] #[.pointer (some ⟨w.heap.size + 1, 0, none⟩), .pointer (some ⟨w.heap.size, 0, none⟩)]) ∧
      w' = (w.alloc (.cells #[.slice na nl nc, .map mv, .slice ua ul uc, .slice ba bl bc, .slice ta tl tc, .map tm, .map sm] 70)).alloc (.cells #[.int .i64 (i : Int)] 3) := by
  go_enter Try.func68, Try.ntmps68
  go_wp2_with fail
  go_ret
  exact ⟨rfl, rfl⟩

def marksOf (Ds : List Nat) : List Deferred := Ds.map fun D => { target := .collected D, args := #[] }

/-- The lists of deferred calls that the ranges have left: empty ones, from block B on. -/
structure MarksAt (B : Nat) (Ds : List Nat) (W : World) : Prop where
  nodup : Ds.Nodup
  at_ : ∀ D, D ∈ Ds → B ≤ D ∧ W.heap[D]? = some (.deferred (some []))

/-- Whatever is no list of deferred calls lies as it lay. -/
structure KeepsND (W W' : World) : Prop where
  size : W.heap.size ≤ W'.heap.size
  same : ∀ (b : Nat) (o : Obj), W.heap[b]? = some o → (∀ ds, o ≠ .deferred ds) → W'.heap[b]? = some o
theorem KeepsND.refl (W : World) : KeepsND W W := ⟨Nat.le_refl _, fun _ _ h _ => h⟩
theorem KeepsND.trans {A B C : World} (h : KeepsND A B) (k : KeepsND B C) : KeepsND A C := ⟨Nat.le_trans h.size k.size, fun b o hb hd => k.same b o (h.same b o hb hd) hd⟩

theorem MarksAt.later {B B' : Nat} {Ds : List Nat} {W W' : World} (h : MarksAt B Ds W) (hs : ∀ D, D ∈ Ds → D < B') (hb : Below B' W W') : MarksAt B Ds W' :=
  ⟨h.nodup, fun D hD => ⟨(h.at_ D hD).1, (hb.block D (hs D hD)).trans (h.at_ D hD).2⟩⟩

theorem leaves_marks {F : Fence} {n : Nat} {P : Program} {fn : Func} {tmps : Array Value} {R : Ending → World → Prop} {B : Nat} : ∀ (Ds : List Nat) (W : World), MarksAt B Ds W →
    (∀ W', Below B W W' → KeepsND W W' → LeavesIn F n P fn tmps R [] .returning W') → LeavesInM F n P fn tmps R (marksOf Ds) .returning W
  | [], W, _, h => h W (Below.refl _ _) (.refl _)
  | D :: Ds, W, hm, h => by
    have hD := hm.at_ D List.mem_cons_self
    have hn := List.nodup_cons.1 hm.nodup
    have hk : KeepsND W (W.putObj D (.deferred none)) := by
      refine ⟨by simp, fun b o hb hd => ?_⟩
      by_cases e : b = D
      · subst e; rw [hD.2] at hb; cases hb; exact absurd rfl (hd _)
      · exact (World.putObj_heap_other e).trans hb
    refine ⟨by simp, .inl ⟨D, _, rfl, run_takeDeferred hD.2, ?_⟩⟩
    refine leaves_marks (B := B) Ds _ ⟨hn.2, fun D' hD' => ⟨(hm.at_ D' (List.mem_cons_of_mem _ hD')).1, ?_⟩⟩ fun W' hb hk' => h W' ((below_put hD.2 hD.1).trans hb) (hk.trans hk')
    exact (World.putObj_heap_other (by rintro rfl; exact hn.1 hD')).trans (hm.at_ D' (List.mem_cons_of_mem _ hD')).2

/-- A loop whose rounds push marks: the frame as a function of the slots that it writes. -/
theorem loop_marks {F : Fence} {n : Nat} {P : Program} {c : Code} {Q : Exit → Act → World → Prop} (T : (Nat → Value) → Array Value) (Rel : (Nat → Value) → List Deferred → World → Prop) (μ : Array Value → Nat) {s0 : Nat → Value} {ds0 : List Deferred} {w : World} (h0 : Rel s0 ds0 w)
    (round : ∀ s ds w, Rel s ds w → c.wpIn F n P (Exit.then (fun a' w' => a'.tmps = T (fun i => a'.tmps.getD i undef) ∧ Rel (fun i => a'.tmps.getD i undef) a'.defers w' ∧ μ a'.tmps < μ (T s)) Q) { tmps := T s, defers := ds } w) :
    (Code.loop c).wpIn F n P Q { tmps := T s0, defers := ds0 } w := by
  refine wpIn_loop (fun a w => ∃ s ds, a = { tmps := T s, defers := ds } ∧ Rel s ds w) (fun a _ => μ a.tmps) ⟨s0, ds0, rfl, h0⟩ ?_
  rintro a w ⟨s, ds, rfl, hr⟩
  refine wpIn_mono (round s ds w hr) ?_
  rintro e a' w' h
  cases e with
  | normal =>
    obtain ⟨h1, h2, h3⟩ := h
    refine ⟨⟨_, a'.defers, ?_, h2⟩, h3⟩
    cases a'
    simp only [Act.mk.injEq, and_true]
    exact h1
  | _ => exact h
end Go.Proofs.Ytlaibimdkamcfaa

/-
  upward's iterator once more: what comes is reached.
-/
namespace Go.Proofs.Ytlaibimdkamcfaa
open Go.RowKit Go.Shelf Go.Maps

set_option maxRecDepth 100000 in
set_option maxHeartbeats 4000000 in
theorem upward_core' (m n i x ca ga uc sb so : Nat) (sup : Nat → List Nat) (w : World) (hn : n ≤ 300) (hi : i < n) (hs : ∀ i j, j ∈ sup i → j < i) (hsz : ∀ i, (sup i).length ≤ 300)
    (hca : ca < w.heap.size) (hcx : ca ≠ x) (hga : ga < w.heap.size) (hgx : ga ≠ x) (hx : x < w.heap.size)
    (hc : w.cell? ⟨ca, 0, none⟩ = some (.int .i64 (i : Int))) (hg : w.cell? ⟨ga, 2, none⟩ = some (.slice (some ⟨sb, so, none⟩) n uc)) (hsup : SupAt sup n x w.heap.size w sb so)
    (l : Nat) (J Jx : List Nat → World → Prop) (W : World) (hW : Below w.heap.size w W) (hJ : Firm W.heap.size J)
    (hY : ∀ pre nx W1, J pre W1 → Reach sup i nx → nx < 320 → pre.length < 320 → YieldAt Fence.wide (m - 1) Try.prog l #[.int .i64 (nx : Nat)] W1 fun e W' =>
      (e = .returned (.bool true) ∧ J (pre ++ [nx]) W' ∧ KeepsC x W1 W') ∨ (e = .returned (.bool false) ∧ Jx (pre ++ [nx]) W')) (h0 : J [] W) :
    CallsIn Fence.wide m Try.prog 83 #[.func (.yield l) #[] #[], .pointer (some ⟨ca, 0, none⟩), .pointer (some ⟨ga, 0, none⟩)] W fun e W' =>
      (∃ v, e = .returned v) ∧ ((∃ xs : List Nat, (xs.Nodup ∧ ∀ j, j ∈ xs ↔ Reach sup i j) ∧ J xs W') ∨ (∃ pre, True ∧ Jx pre W')) := by
  have hdd : ∀ k : Nat, (Fence.wide.depth.isSome = true → 1 ≤ k) := fun k h => by cases h
  have hcW := (hW.cell (p := ⟨ca, 0, none⟩) hca).trans hc
  have HW0 := Lib.hid ((Held.refl x w).below hW)
  have HY := Lib.hid hY
  have HJ := Lib.hid hJ
  have HG := Lib.hid hg
  have HSZ := Lib.hid hsz
  clear hsz
  clear hc hg hJ hY
  have b2 : Below W.heap.size W ((W.alloc (.cells #[.int .i64 (i : Int)] 3)).alloc (.cells #[.int .u64 0, .int .u64 0, .int .u64 0, .int .u64 0, .int .u64 0] 109)) := ((Below.refl _ W).alloc (Nat.le_refl _) _).alloc (by simp) _
  have hw2 : ((W.alloc (.cells #[.int .i64 (i : Int)] 3)).alloc (.cells #[.int .u64 0, .int .u64 0, .int .u64 0, .int .u64 0, .int .u64 0] 109)).heap[W.heap.size]? = some (.cells #[.int .i64 (i : Int)] 3 (0, 0)) := by rw [Below.heap_alloc _ _ _ (by simp)]; exact heap_alloc_new W _
  have hs2 : ((W.alloc (.cells #[.int .i64 (i : Int)] 3)).alloc (.cells #[.int .u64 0, .int .u64 0, .int .u64 0, .int .u64 0, .int .u64 0] 109)).heap[W.heap.size + 1]? = some (.cells #[.int .u64 0, .int .u64 0, .int .u64 0, .int .u64 0, .int .u64 0] 109 (0, 0)) := Go.heap_alloc2_new W _ _
  have hz2 : ((W.alloc (.cells #[.int .i64 (i : Int)] 3)).alloc (.cells #[.int .u64 0, .int .u64 0, .int .u64 0, .int .u64 0, .int .u64 0] 109)).heap.size = W.heap.size + 2 := by simp
  have hc2 : ((W.alloc (.cells #[.int .i64 (i : Int)] 3)).alloc (.cells #[.int .u64 0, .int .u64 0, .int .u64 0, .int .u64 0, .int .u64 0] 109)).cell? ⟨ca, 0, none⟩ = some (.int .i64 (i : Int)) := (b2.cell (p := ⟨ca, 0, none⟩) (by show ca < W.heap.size; have := hW.size; omega)).trans hcW
  have HJ2 := Lib.hid (HJ.out _ _ _ h0 b2)
  clear h0
  have B2 := Lib.hid b2
  have HW2 := Lib.hid hw2
  have HS2 := Lib.hid hs2
  have HZ2 := Lib.hid hz2
  clear b2 hw2 hs2 hz2
  obtain ⟨i0, hi0, hz0, hz1, hzb⟩ := info_parts Try.info3
  obtain ⟨w2, hw2e⟩ : ∃ q, (W.alloc (.cells #[.int .i64 (i : Int)] 3)).alloc (.cells #[.int .u64 0, .int .u64 0, .int .u64 0, .int .u64 0, .int .u64 0] 109) = q := ⟨_, rfl⟩
  rw [hw2e] at B2 HW2 HS2 HZ2 HJ2
  have HC2 := Lib.hid hc2
  rw [hw2e] at HC2
  have HE := Lib.hid hw2e
  clear hw2e
  -- the class itself is seen
  have S0 := SeenAt.new w2 HS2.out
  obtain ⟨v, hv1, hv2, hv3, hv4, hv5⟩ := S0.word (j := i) (by omega)
  have HA := Lib.hid (add_any (W.heap.size + 1) 0 i v w2 (by omega) hv1 hv2 hv3)
  have HS3 := Lib.hid hv5
  have HB3 := Lib.hid ((B2.out.setCell (p := ⟨W.heap.size + 1, 0 + i / 64, none⟩) (by show W.heap.size ≤ W.heap.size + 1; omega) (.int .u64 ((v ||| 2 ^ (i % 64) : Nat) : Int))).drew)
  have HW3 := Lib.hid (show (w2.setCell ⟨W.heap.size + 1, 0 + i / 64, none⟩ (.int .u64 ((v ||| 2 ^ (i % 64) : Nat) : Int))).drew.heap[W.heap.size]? = some (.cells #[.int .i64 (i : Int)] 3 (0, 0)) from (Below.heap_setCell w2 ⟨W.heap.size + 1, 0 + i / 64, none⟩ _ W.heap.size (by show W.heap.size ≠ W.heap.size + 1; omega)).trans HW2.out)
  have HZ3 := Lib.hid (show (w2.setCell ⟨W.heap.size + 1, 0 + i / 64, none⟩ (.int .u64 ((v ||| 2 ^ (i % 64) : Nat) : Int))).drew.heap.size = W.heap.size + 2 from (by have := HZ2.out; simp only [World.size_drew, World.size_setCell]; exact this))
  have HJ3 := Lib.hid (HJ.out [] w2 (w2.setCell ⟨W.heap.size + 1, 0 + i / 64, none⟩ (.int .u64 ((v ||| 2 ^ (i % 64) : Nat) : Int))).drew HJ2.out (((Below.refl _ w2).setCell (p := ⟨W.heap.size + 1, 0 + i / 64, none⟩) (by show W.heap.size ≤ W.heap.size + 1; omega) _).drew))
  clear S0 hv1 hv2 hv3 hv4 hv5 HS2 HW2
  refine callsIn_of_wp Try.func83 rfl trivial ?_ rfl
  simp only [Try.ntmps83, List.size_toArray, List.length_cons, List.length_nil, Nat.reduceAdd, Nat.reduceSub, Array.replicate_succ, Array.replicate_zero, List.push_toArray, List.append_toArray, List.nil_append, List.cons_append]
  gi_wp2
  refine ⟨trivial, hdd _, ?_⟩
  rw [HE.out]
  refine (callsIn_wide.2 HA.out).mono ?_
  rintro e w3 ⟨rfl, hw3⟩
  rw [← hw3] at HS3 HB3 HW3 HZ3 HJ3
  clear hw3 hc2 hcW
  gi_wp2
  have hU0 : UpSt sup i n [] [i] := ⟨by simp, fun j hj => (by (obtain rfl : j = i := by simpa using hj); exact .refl _), fun y hy => (nomatch hy), by simp⟩
  have hO0 : w3.ownsRow W.heap.size 3 1 (.slice (some ⟨W.heap.size, 0, none⟩) 1 1) 1 (intV [i]) := ⟨rfl, .inr ⟨_, 1, _, rfl, Nat.le_refl _, HW3.out, by decide, by decide, rfl, rfl⟩⟩
  have hH0 : Held x w w3 := HW0.out.below (HB3.out.mono hW.size)
  have hz3 : W.heap.size + 2 ≤ w3.heap.size := by have := HZ3.out; omega
  have hS0 : SeenAt (W.heap.size + 1) (fun j => decide (j ∈ [] ++ [i])) w3 := HS3.out.congr fun j => by simp
  have R0 : UpRel sup i n x W.heap.size w J (.slice (some ⟨W.heap.size, 0, none⟩) 1 1) w3 := ⟨[], [i], hU0, hO0, hS0, HJ3.out, hH0, hz3, rfl⟩
  have HR0 := Lib.hid R0
  clear R0 hS0 hz3 hH0 hO0 hU0 HJ3 HZ3 HW3 HB3 HS3 HA HC2 HJ2 HZ2 HE B2 HW0
  gi_loopw [4] (fun t wr => UpRel sup i n x W.heap.size w J t wr) (fun t wr => 2 * unset (W.heap.size + 1) wr + sliceLen t)
  case atStart => exact HR0.out
  case round =>
    obtain ⟨ys, st, hU, ho, hS, hj, hH, hz, hsl⟩ := hrel
    have hsb : SeenAt (W.heap.size + 1) (fun j => decide (j ∈ ys ++ st)) wr := hS
    have HSE := Lib.hid hS
    have HJR := Lib.hid hj
    have HHR := Lib.hid hH
    have HUS := Lib.hid hU
    clear hS hj hH hU hsb
    rcases List.eq_nil_or_concat st with rfl | ⟨st', nx, rfl⟩
    · have ht : ∃ a c, u4 = Value.slice a 0 c := by
        rcases ho.2 with ⟨h, _⟩ | ⟨g, cap, _, h, _⟩
        · exact ⟨_, _, h⟩
        · exact ⟨_, _, h⟩
      obtain ⟨a, c, rfl⟩ := ht
      gi_wp2
      go_end0
      have hU := HUS.out
      refine ⟨⟨_, rfl⟩, .inl ⟨ys, ⟨by simpa using hU.nodup, fun j => ⟨fun hj => hU.reach j (by simpa using hj), fun hr => ?_⟩⟩, HJR.out⟩⟩
      have h2 := hr.closed (P := fun j => j ∈ ys) (by simpa using hU.self) (fun y hy s hs' => by simpa using hU.done y hy s hs')
      exact h2
    · rw [List.concat_eq_append] at *
      have hlen : (st' ++ [nx]).length = st'.length + 1 := by simp
      rw [hlen] at ho hsl
      have hiv : intV (st' ++ [nx]) = intV st' ++ [.int .i64 (nx : Int)] := by simp [intV]
      rw [hiv] at ho
      obtain ⟨g, cap, rfl⟩ := ownsRow_succ ho
      obtain ⟨hg1, ho1, hk, hm, _⟩ := own_pop ho
      have hgb : W.heap.size ≤ g := (ho.lt g rfl).1
      have HO1 := Lib.hid ho1
      have hgs : g ≠ W.heap.size + 1 := by
        intro e
        exact HSE.out.apart (by decide) ho (by rw [← e]; rfl)
      clear ho ho1 hlen hiv
      have hlen2 := HUS.out.len hs hi
      simp only [List.length_append, List.length_cons, List.length_nil] at hlen2
      obtain ⟨fn, tmps, assign, body, hy, hR⟩ := HY.out ys nx wr HJR.out (HUS.out.reach nx (by simp)) (by have := HUS.out.lt hs hi (j := nx) (by simp); omega) (by omega)
      have hnx : nx < n := HUS.out.lt hs hi (by simp)
      have HRn := Lib.hid hR
      clear hR hlen2
      gi_wp2
      refine ⟨hdd _, ?_⟩
      refine HRn.out.mono ?_
      rintro e W' (⟨rfl, hJ', hk⟩ | ⟨rfl, hJx'⟩)
      · have hzz := hk.size
        have hH' := HHR.out.keeps hk
        have HS' := Lib.hid (HSE.out.keeps hk (by have := hW.size; omega))
        have HO' := Lib.hid (hk.own (by have := hW.size; omega) HO1.out)
        have g2 := hH'.cell hgx hga HG.out
        obtain ⟨sa, sbb, soo, scc, r1, r2, r3⟩ := hsup.row nx hnx
        have r1' := hH'.cell (hsup.blk (by omega)).2 (hsup.blk (by omega)).1 r1
        have HSA := Lib.hid r2
        have HR3 := Lib.hid r3
        have HJ' := Lib.hid hJ'
        have HH' := Lib.hid hH'
        clear r1 r2 r3 hk hJ' hH'
        gi_wp2
        have HS2 : SeenAt (W.heap.size + 1) (fun j => decide (j ∈ ys ++ [nx] ++ st')) W' := HS'.out.congr fun j => by
          rw [Bool.eq_iff_iff, decide_eq_true_eq, decide_eq_true_eq, mem_shift]
        have hM : 2 * unset (W.heap.size + 1) W' + st'.length ≤ 2 * unset (W.heap.size + 1) wr + st'.length := by
          rw [HS'.out.unset, HSE.out.unset]; exact Nat.le_refl _
        have HMO := Lib.hid (show sliceLen (.slice (some ⟨g, 0, none⟩) (st'.length + 1) cap) = st'.length + 1 from rfl)
        have I0 : InRel sup i x W.heap.size w J ys nx (2 * unset (W.heap.size + 1) wr + st'.length) (.slice (some ⟨g, 0, none⟩) st'.length cap) (.int .i64 ((0 : Nat) : Int)) W' :=
          ⟨0, st', Nat.zero_le _, rfl, .start HUS.out, HO'.out, HS2, HJ'.out, HH'.out, by omega, rfl, hM⟩
        have HI0 := Lib.hid I0
        obtain ⟨M, hMe⟩ : ∃ M, 2 * unset (W.heap.size + 1) wr + st'.length = M := ⟨_, rfl⟩
        rw [hMe] at HI0
        have HMe := Lib.hid hMe
        clear I0 HS2 hM HS' HO' HJ' HH' hMe
        obtain ⟨wo, hwo⟩ : ∃ wo : World, wr = wo := ⟨_, rfl⟩
        subst hwo
        gi_loopw [4, 38] (fun t q wr => InRel sup i x W.heap.size w J ys nx M t q wr) (fun _ q _ => (sup nx).length - (intOf q).toNat)
        case atStart => exact HI0.out
        case round =>
          obtain ⟨k, st, hk, rfl, hI, ho, hS, hj, hH, hz2, hsl2, hM⟩ := hrel
          have HUI := Lib.hid hI
          have HL2 := Lib.hid hsl2
          have HJI := Lib.hid hj
          have HHI := Lib.hid hH
          have HMI := Lib.hid hM
          by_cases hlt : k < (sup nx).length
          · have hsn : sup nx ≠ [] := by intro e; rw [e] at hlt; simp at hlt
            obtain ⟨hsa, hbb, hbx⟩ := HSA.out hsn
            subst hsa
            have hc1 := hH.cell hbx hbb (HR3.out k hlt)
            have hsm := List.getElem_mem hlt
            have HSK := Lib.hid (fun hm => hI.skip hlt hm)
            have HPU := Lib.hid (fun hm => hI.push hlt hm)
            obtain ⟨s, hse⟩ : ∃ s, (sup nx)[k] = s := ⟨_, rfl⟩
            rw [hse] at hc1 hsm HSK HPU
            have hsl := hs nx s hsm
            have HSM := Lib.hid hsm
            obtain ⟨v, hv1, hv2, hv3, hv4, hv5⟩ := hS.word (j := s) (by omega)
            have HHs := Lib.hid (has_any (W.heap.size + 1) 0 s v wr (by omega) hv1 hv3)
            rw [hv4] at HHs
            have HAs := Lib.hid (add_any (W.heap.size + 1) 0 s v wr (by omega) hv1 hv2 hv3)
            have HS0 := Lib.hid hS
            have HO0 := Lib.hid ho
            have HS5 := Lib.hid hv5
            have hk300 := HSZ.out nx
            clear hv1 hv2 hv3 hv4 hv5 hS ho hI hj hH hM hsn hsm hse hsl2
            by_cases hm : s ∈ ys ++ [nx] ++ st
            · rw [decide_eq_true hm] at HHs
              have HM2 := Lib.hid hm
              clear hm
              gi_wp2
              refine ⟨trivial, hdd _, ?_⟩
              refine (callsIn_wide.2 HHs.out).mono ?_
              rintro e w4 ⟨rfl, h4⟩
              rw [h4]
              clear h4
              gi_wp2
              refine ⟨⟨k + 1, st, by omega, by simp only [Int.natCast_add, Int.natCast_one], HSK.out HM2.out, HO0.out, HS0.out, HJI.out, HHI.out, hz2, HL2.out, HMI.out⟩, ?_⟩
              show (sup nx).length - ((k : Int) + 1).toNat < (sup nx).length - ((k : Nat) : Int).toNat
              omega
            · rw [decide_eq_false hm] at HHs
              have HM2 := Lib.hid hm
              clear hm
              gi_wp2
              refine ⟨trivial, hdd _, ?_⟩
              refine (callsIn_wide.2 HHs.out).mono ?_
              rintro e w4 ⟨rfl, h4⟩
              rw [h4]
              clear h4
              gi_wp2
              refine ⟨trivial, hdd _, ?_⟩
              refine (callsIn_wide.2 HAs.out).mono ?_
              rintro e w5 ⟨rfl, h5⟩
              have ho5 : w5.ownsRow W.heap.size 3 1 u4 st.length (intV st) := by rw [h5]; exact HO0.out.kept (grown_set wr _ _) (.inr (HS0.out.apart (by decide) HO0.out))
              have hz5 : W.heap.size + 2 ≤ w5.heap.size := by rw [h5]; simpa using hz2
              have hb5 : Below W.heap.size wr w5 := by rw [h5]; exact ((Below.refl _ wr).setCell (p := ⟨W.heap.size + 1, 0 + s / 64, none⟩) (by show W.heap.size ≤ W.heap.size + 1; omega) _).drew
              have hS5 := HS5.out
              rw [← h5] at hS5
              have HO5 := Lib.hid ho5
              have HZ5 := Lib.hid hz5
              have HB5 := Lib.hid hb5
              have HS6 := Lib.hid hS5
              have hl5 : st.length + 1 ≤ 301 := by
                have h1 := nodup_le (n := n) (l := ys ++ [nx] ++ st) HUI.out.nodup (fun j hj => by have := (HUI.out.reach j hj).le hs; omega)
                simp only [List.length_append, List.length_cons, List.length_nil] at h1
                omega
              clear h5 ho5 hb5 hS5 hz5
              gi_wp2_with (gi_at_builtin; refine wpListIn_append_own _ rfl _ _ 106 rfl W.heap.size 3 i0 (.int .i64 0) 1 8 Try.underlying106 hi0 hz0 hz1 hzb rfl (by decide) _ _ _ rfl (HO5.out.alloc _) ⟨w5.heap.size, 0, none⟩ 1 1 [.int .i64 (s : Int)] rfl rfl (cell_one_new _ _ _) (by simp [Value.oneCell']) (by unfold maxLen; omega) (by omega) (by have := HZ5.out; simp; omega) ?_; intro v' w6 hown6 hgrow6 _)
              have hb6 : Below W.heap.size w5 w6 := ((Below.refl W.heap.size w5).alloc (by have := HZ5.out; omega) _).grown hgrow6 (by have := HZ5.out; simp; omega) (fun q e => (HO5.out.lt q e).1)
              have hbb6 := HB5.out.trans hb6
              obtain ⟨g6, cap6, hv6⟩ := ownsRow_succ hown6
              have hS6a : SeenAt (W.heap.size + 1) (fun j => decide (j ∈ ys ++ [nx] ++ st) || decide (j = s)) w6 :=
                (HS6.out.below ((Below.refl w5.heap.size w5).alloc (Nat.le_refl _) _) (by have := HZ5.out; omega)).grown hgrow6 (HS6.out.apart (by decide) HO5.out)
              have hS6b : SeenAt (W.heap.size + 1) (fun j => decide (j ∈ ys ++ [nx] ++ (st ++ [s]))) w6 := hS6a.congr fun j => by
                rw [Bool.eq_iff_iff, Bool.or_eq_true, decide_eq_true_eq, decide_eq_true_eq, decide_eq_true_eq]
                simp only [List.mem_append, List.mem_singleton, or_assoc]
              have hnot : notIn (fun j => decide (j ∈ ys ++ [nx] ++ st) || decide (j = s)) < notIn (fun j => decide (j ∈ ys ++ [nx] ++ st)) := notIn_add (by omega) (decide_eq_false HM2.out)
              have hl6 : (st ++ [s]).length = st.length + 1 := by simp
              refine ⟨⟨k + 1, st ++ [s], by omega, by simp only [Int.natCast_add, Int.natCast_one], HPU.out HM2.out, ?_, hS6b, HJ.out _ _ _ HJI.out hbb6, HHI.out.below (hbb6.mono hW.size), Nat.le_trans hz2 hbb6.size, ?_, ?_⟩, ?_⟩
              · rw [hl6]
                have : intV (st ++ [s]) = intV st ++ [.int .i64 (s : Int)] := by simp [intV]
                rw [this]
                exact hown6
              · rw [hv6, hl6]; rfl
              · have h1 := HMI.out
                rw [HS0.out.unset, HL2.out] at h1
                rw [hS6a.unset, hv6]
                show 2 * notIn _ + (st.length + 1) ≤ M
                omega
              · show (sup nx).length - ((k : Int) + 1).toNat < (sup nx).length - ((k : Nat) : Int).toNat
                omega
          · gi_wp2
            refine ⟨⟨ys ++ [nx], st, HUI.out.fin (by omega), ho, hS, HJI.out, HHI.out, hz2, HL2.out⟩, ?_⟩
            have h1 := HMI.out
            have h2 := HMe.out
            rw [HMO.out]
            omega
      · gi_wp2
        (try simp only [Exit.inBlock, Exit.then])
        exact bodyPost_ret (results_none rfl _ _ _) rfl ⟨⟨_, rfl⟩, .inr ⟨_, trivial, hJx'⟩⟩

/-- The iterator of upward: whatever the loop does, all classes above come, each once. -/
theorem upward_iter' (m n i x ca ga uc sb so : Nat) (sup : Nat → List Nat) (w : World) (hn : n ≤ 300) (hi : i < n) (hs : ∀ i j, j ∈ sup i → j < i) (hsz : ∀ i, (sup i).length ≤ 300)
    (hca : ca < w.heap.size) (hcx : ca ≠ x) (hga : ga < w.heap.size) (hgx : ga ≠ x) (hx : x < w.heap.size)
    (hc : w.cell? ⟨ca, 0, none⟩ = some (.int .i64 (i : Int))) (hg : w.cell? ⟨ga, 2, none⟩ = some (.slice (some ⟨sb, so, none⟩) n uc)) (hsup : SupAt sup n x w.heap.size w sb so) :
    SeqB Fence.wide m Try.prog 83 #[.pointer (some ⟨ca, 0, none⟩), .pointer (some ⟨ga, 0, none⟩)] (fun j : {j : Nat // Reach sup i j} => #[.int .i64 (j.val : Nat)]) (KeepsC x)
      (fun ys => ∀ j, j ∈ ys.map Subtype.val ↔ Reach sup i j) (fun _ => True) 320 w := by
  intro l J Jx W hW hJ hJx hY h0
  refine (upward_core' m n i x ca ga uc sb so sup w hn hi hs hsz hca hcx hga hgx hx hc hg hsup l (fun ns W => ∃ ys : List {j : Nat // Reach sup i j}, ys.map Subtype.val = ns ∧ J ys W) (fun ns W => ∃ ys : List {j : Nat // Reach sup i j}, Jx ys W) W hW ?_ ?_ ⟨[], rfl, h0⟩).mono ?_
  · rintro s A A' ⟨ys, h1, h2⟩ hb
    exact ⟨ys, h1, hJ _ _ _ h2 hb⟩
  · rintro pre nx W1 ⟨ys, rfl, hj⟩ hre hnx hlen
    refine (hY ys ⟨nx, hre⟩ W1 hj (by simpa using hlen)).mono fun e W' h => ?_
    rcases h with ⟨he, h1, h2⟩ | ⟨he, h1⟩
    · exact .inl ⟨he, ⟨_, by simp, h1⟩, h2⟩
    · exact .inr ⟨he, _, h1⟩
  · rintro e W' ⟨hv, (⟨xs, ⟨_, hx⟩, ys, rfl, hj⟩ | ⟨pre, _, ys, hj⟩)⟩
    · exact ⟨hv, .inl ⟨ys, hx, hj⟩⟩
    · exact ⟨hv, .inr ⟨ys, trivial, hj⟩⟩
end Go.Proofs.Ytlaibimdkamcfaa
