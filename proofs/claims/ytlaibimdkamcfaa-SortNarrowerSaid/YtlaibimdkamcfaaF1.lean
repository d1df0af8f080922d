import Derived.Test.YtlaibimdkamcfaaB2
import Derived.Test.YtlaibimdkamcfaaE12
import Derived.Outline
section
/-
  What the reference's least and above return.
-/
namespace Go.Proofs.Ytlaibimdkamcfaa

/-! ### A name put into an ascending list -/
open Classical in
/-- The list with the name. -/
noncomputable def putL (s : ByteArray) : List ByteArray → List ByteArray
  | [] => [s]
  | x :: l => if ltS x s then x :: putL s l else if x = s then x :: l else s :: x :: l

theorem putL_mem (s : ByteArray) : ∀ (l : List ByteArray) (c : ByteArray), c ∈ putL s l ↔ c = s ∨ c ∈ l := by
  intro l
  induction l with
  | nil => intro c; simp [putL]
  | cons x l ih =>
    intro c
    unfold putL
    split
    · rw [List.mem_cons, ih, List.mem_cons]
      constructor
      · rintro (h | h | h) <;> simp [h]
      · rintro (h | h | h) <;> simp [h]
    · split
      · rename_i h
        subst h
        simp [List.mem_cons]
      · simp [List.mem_cons]

theorem putL_asc (s : ByteArray) : ∀ (l : List ByteArray), l.Pairwise ltS → (putL s l).Pairwise ltS := by
  intro l
  induction l with
  | nil => intro _; simp [putL]
  | cons x l ih =>
    intro h
    rw [List.pairwise_cons] at h
    unfold putL
    split
    · rename_i hx
      refine List.pairwise_cons.2 ⟨fun c hc => ?_, ih h.2⟩
      rcases (putL_mem s l c).1 hc with rfl | hc
      · exact hx
      · exact h.1 c hc
    · rename_i hx
      split
      · exact List.pairwise_cons.2 h
      · rename_i he
        have hs : ltS s x := Classical.byContradiction fun hn => he (ltS_conn hx hn)
        refine List.pairwise_cons.2 ⟨fun c hc => ?_, List.pairwise_cons.2 h⟩
        rcases List.mem_cons.1 hc with rfl | hc
        · exact hs
        · exact ltS_trans _ _ _ hs (h.1 c hc)

theorem putL_len (s : ByteArray) : ∀ (l : List ByteArray), (putL s l).length ≤ l.length + 1 := by
  intro l
  induction l with
  | nil => simp [putL]
  | cons x l ih =>
    unfold putL
    split
    · simp only [List.length_cons]; omega
    · split <;> simp

/-- put's loop, a round: not yet done. -/
theorem putL_step {s x : ByteArray} {pre l r : List ByteArray} (hx : ltS x s) (h : pre ++ putL s (x :: l) = r) : (pre ++ [x]) ++ putL s l = r := by
  unfold putL at h
  rw [if_pos hx] at h
  rw [← h, List.append_assoc]; rfl
theorem putL_found {s x : ByteArray} {pre l r : List ByteArray} (hx : ¬ ltS x s) (h : pre ++ putL s (x :: l) = r) : (if x = s then pre ++ [x] else pre ++ [s] ++ [x]) ++ l = r := by
  unfold putL at h
  rw [if_neg hx] at h
  split at h
  · rename_i he
    rw [if_pos he, ← h, List.append_assoc]; rfl
  · rename_i he
    rw [if_neg he, ← h]; simp

/-! ### The least ones, one by one -/
/-- Is another one of the sort below it? -/
def dropB (B : ByteArray → ByteArray → Bool) (s : List ByteArray) (c : ByteArray) : Bool := s.any fun d => !decide (d = c) && B d c

theorem dropB_least {B : ByteArray → ByteArray → Bool} {s : List ByteArray} {c : ByteArray} (hc : c ∈ s) : dropB B s c = false ↔ IsLeast B s c := by
  unfold dropB IsLeast
  rw [List.any_eq_false]
  constructor
  · intro h
    refine ⟨hc, fun d hd hb => Classical.byContradiction fun hn => h d hd ?_⟩
    simp [hn, hb]
  · rintro ⟨_, h⟩ d hd hn
    have hn' : d ≠ c ∧ B d c = true := by simpa using hn
    exact hn'.1 (h d hd hn'.2)

/-- The least ones of the first ones. -/
noncomputable def leastFrom (B : ByteArray → ByteArray → Bool) (s : List ByteArray) (out : List ByteArray) : List ByteArray → List ByteArray
  | [] => out
  | x :: l => leastFrom B s (if dropB B s x then out else putL x out) l

theorem leastFrom_ok {B : ByteArray → ByteArray → Bool} {s : List ByteArray} : ∀ (l out : List ByteArray), out.Pairwise ltS →
    (leastFrom B s out l).Pairwise ltS ∧ (∀ c, c ∈ leastFrom B s out l ↔ c ∈ out ∨ (c ∈ l ∧ dropB B s c = false)) ∧ (leastFrom B s out l).length ≤ out.length + l.length := by
  intro l
  induction l with
  | nil => intro out h; exact ⟨h, fun c => by simp [leastFrom], by simp [leastFrom]⟩
  | cons x l ih =>
    intro out h
    unfold leastFrom
    cases hd : dropB B s x
    · rw [if_neg (by simp)]
      obtain ⟨h1, h2, h3⟩ := ih (putL x out) (putL_asc x out h)
      refine ⟨h1, fun c => ?_, ?_⟩
      · rw [h2, putL_mem, List.mem_cons]
        constructor
        · rintro ((rfl | h) | h)
          · exact .inr ⟨.inl rfl, hd⟩
          · exact .inl h
          · exact .inr ⟨.inr h.1, h.2⟩
        · rintro (h | ⟨rfl | h, h'⟩)
          · exact .inl (.inr h)
          · exact .inl (.inl rfl)
          · exact .inr ⟨h, h'⟩
      · have := putL_len x out
        simp only [List.length_cons]; omega
    · rw [if_pos rfl]
      obtain ⟨h1, h2, h3⟩ := ih out h
      refine ⟨h1, fun c => ?_, by simp only [List.length_cons]; omega⟩
      rw [h2, List.mem_cons]
      constructor
      · rintro (h | h)
        · exact .inl h
        · exact .inr ⟨.inr h.1, h.2⟩
      · rintro (h | ⟨rfl | h, h'⟩)
        · exact .inl h
        · rw [hd] at h'; cases h'
        · exact .inr ⟨h, h'⟩

/-- The reference's least is what Normal gives. -/
theorem leastFrom_normal (B : ByteArray → ByteArray → Bool) (s : List ByteArray) : IsNormalOf ltS B s (leastFrom B s [] s) := by
  obtain ⟨h1, h2, h3⟩ := leastFrom_ok (B := B) (s := s) s [] List.Pairwise.nil
  refine ⟨h1, fun c => ?_, by simpa using h3⟩
  rw [h2]
  constructor
  · rintro (h | ⟨hc, h⟩)
    · cases h
    · exact (dropB_least hc).1 h
  · intro h
    exact .inr ⟨h.1, (dropB_least h.1).2 h⟩

/-- Meet of the reference: the least ones of both sorts are those of both Normals. -/
theorem least_meet {K : ByteArray → Bool} {B : ByteArray → ByteArray → Bool} (o : Ord K B) {a b p q : List ByteArray} (hp : IsNormalOf ltS B a p) (hq : IsNormalOf ltS B b q) (ka : ∀ c ∈ a, K c = true) (kb : ∀ c ∈ b, K c = true) (c : ByteArray) :
    IsLeast B (p ++ q) c ↔ IsLeast B (a ++ b) c := by
  have sub : ∀ d, d ∈ p ++ q → d ∈ a ++ b := fun d hd => by
    rcases List.mem_append.1 hd with h | h
    · exact List.mem_append.2 (.inl ((hp.mem d).1 h).1)
    · exact List.mem_append.2 (.inr ((hq.mem d).1 h).1)
  have low : ∀ d, d ∈ a ++ b → ∃ e, e ∈ p ++ q ∧ B e d = true := fun d hd => by
    rcases List.mem_append.1 hd with h | h
    · obtain ⟨e, he, hb⟩ := least_below o h (ka d h)
      exact ⟨e, List.mem_append.2 (.inl ((hp.mem e).2 he)), hb⟩
    · obtain ⟨e, he, hb⟩ := least_below o h (kb d h)
      exact ⟨e, List.mem_append.2 (.inr ((hq.mem e).2 he)), hb⟩
  constructor
  · rintro ⟨hc, h⟩
    refine ⟨sub c hc, fun d hd hb => ?_⟩
    obtain ⟨e, he, hed⟩ := low d hd
    have hec := h e he (o.trans _ _ _ hed hb)
    subst hec
    exact o.anti _ _ hb hed
  · rintro ⟨hc, h⟩
    obtain ⟨e, he, hec⟩ := low c hc
    have := h e (sub e he) hec
    subst this
    exact ⟨he, fun d hd hb => h d (sub d hd) hb⟩

/-! ### The marks of above -/
/-- All have been looked at. -/
theorem MarksAt.whole {sup : Nat → List Nat} {i : Nat} {m : Nat → Bool} (h1 : m i = true) (h2 : ∀ j, m j = true → Reach sup i j) (h3 : ∀ j, m j = true → ∀ j' ∈ sup j, m j' = true) (j : Nat) : m j = true ↔ Reach sup i j := by
  refine ⟨h2 j, fun h => ?_⟩
  have : ∀ a b, Reach sup a b → m a = true → m b = true := fun a b h => by
    induction h with
    | refl => exact id
    | step h1 _ ih => exact fun hm => ih (h3 _ hm _ h1)
  exact this i j h h1
end Go.Proofs.Ytlaibimdkamcfaa

/-
  The marks of the reference's above, round by round.
-/
namespace Go.Proofs.Ytlaibimdkamcfaa

/-- The marks when the classes from kk on have been looked at. -/
structure MK (sup : Nat → List Nat) (i kk : Nat) (bs : List Bool) : Prop where
  self : bs[i]? = some true
  reach : ∀ j, bs[j]? = some true → Reach sup i j
  closed : ∀ j, kk ≤ j → bs[j]? = some true → ∀ j', j' ∈ sup j → bs[j']? = some true

variable {sup : Nat → List Nat} {i m kk : Nat} {bs : List Bool}

theorem set_true {j j0 : Nat} (h : bs[j0]? = some true) : (bs.set j true)[j0]? = some true := by
  rw [List.getElem?_set]
  split
  · rename_i e
    subst e
    rw [if_pos]
    exact (List.getElem?_eq_some_iff.1 h).1
  · exact h

theorem MK.start (n : Nat) (hi : i < n) : MK sup i (i + 1) ((List.replicate n false).set i true) := by
  have key : ∀ j, ((List.replicate n false).set i true)[j]? = some true → j = i := fun j h => by
    rw [List.getElem?_set] at h
    split at h
    · rename_i e; exact e.symm
    · rw [List.getElem?_replicate] at h
      split at h <;> simp at h
  refine ⟨?_, fun j h => ?_, fun j hj h => ?_⟩
  · rw [List.getElem?_set_self (by simpa using hi)]
  · rw [key j h]; exact .refl i
  · have := key j h; omega

theorem MK.skip (h : MK sup i (m + 1) bs) (hb : bs[m]? = some false) : MK sup i m bs :=
  ⟨h.self, h.reach, fun j hj hm => by
    by_cases e : j = m
    · subst e; rw [hb] at hm; cases hm
    · exact h.closed j (by omega) hm⟩

theorem MK.mark (h : MK sup i kk bs) {j : Nat} (hm : bs[m]? = some true) (hj : j ∈ sup m) (hk : j < kk) : MK sup i kk (bs.set j true) := by
  refine ⟨set_true h.self, fun j0 h0 => ?_, fun j0 hj0 h0 j' hj' => ?_⟩
  · rw [List.getElem?_set] at h0
    split at h0
    · rename_i e
      subst e
      exact (h.reach m hm).snoc hj
    · exact h.reach j0 h0
  · rw [List.getElem?_set, if_neg (by omega)] at h0
    exact set_true (h.closed j0 hj0 h0 j' hj')

theorem MK.close (h : MK sup i (m + 1) bs) (hs : ∀ j, j ∈ sup m → bs[j]? = some true) : MK sup i m bs :=
  ⟨h.self, h.reach, fun j hj hm => by
    by_cases e : j = m
    · subst e; exact hs
    · exact h.closed j (by omega) hm⟩

theorem MK.whole (h : MK sup i 0 bs) (j : Nat) : bs[j]? = some true ↔ Reach sup i j := by
  refine ⟨h.reach j, fun hr => ?_⟩
  have : ∀ a b, Reach sup a b → bs[a]? = some true → bs[b]? = some true := fun a b hr => by
    induction hr with
    | refl => exact id
    | step h1 _ ih => exact fun hm => ih (h.closed _ (Nat.zero_le _) hm _ h1)
  exact this i j hr h.self
end Go.Proofs.Ytlaibimdkamcfaa
end

section
/-
  The reference's Class, known.
-/
namespace Go.Proofs.Ytlaibimdkamcfaa
open Go.RowKit Go.Maps

/-- The reference's number of a class. -/
noncomputable def refIdx (cs : List Cls) (s : ByteArray) : Int := if knownB cs s = true then (idxOfC cs s : Nat) else -1

theorem refIdx_at {cs : List Cls} {s : ByteArray} {i : Nat} (hi : i < cs.length) (hb : (cs.take i).all (fun c => !decide (c.name = s)) = true) (he : cs[i].name = s) : refIdx cs s = i := by
  have hm : s ∈ namesOf cs := by rw [← he]; exact List.mem_map.2 ⟨_, List.getElem_mem hi, rfl⟩
  have hk : knownB cs s = true := by unfold knownB; simpa using hm
  unfold refIdx
  rw [if_pos hk]
  congr 1
  unfold idxOfC
  rw [List.findIdx_eq (by rw [namesOf_length]; exact hi)]
  refine ⟨by rw [namesOf_get hi]; exact decide_eq_true he, fun j hj => ?_⟩
  have hj' : j < cs.length := by omega
  rw [namesOf_get hj']
  have := List.all_eq_true.1 hb cs[j] (List.mem_take_iff_getElem.2 ⟨j, by omega, rfl⟩)
  simpa using this

theorem refIdx_none {cs : List Cls} {s : ByteArray} (hb : cs.all (fun c => !decide (c.name = s)) = true) : refIdx cs s = -1 := by
  unfold refIdx
  rw [if_neg]
  intro h
  obtain ⟨c, hc, e⟩ := List.mem_map.1 (show s ∈ namesOf cs by unfold knownB at h; simpa using h)
  have := List.all_eq_true.1 hb c hc
  simp [e] at this

theorem refIdx_neg {cs : List Cls} {s : ByteArray} : refIdx cs s < 0 ↔ knownB cs s = false := by
  unfold refIdx
  cases knownB cs s <;> simp

set_option maxRecDepth 100000 in
set_option maxHeartbeats 2000000 in
theorem refClass_any {nm : ByteArray} {ca ta ra oa ya qa : Option Addr} {cc tn tc rn rc on oc yn yc qn qc cb co : Nat} {cs : List Cls} (s : ByteArray) (w : World)
    (hca : cs ≠ [] → ca = some ⟨cb, co, none⟩) (hcs : ClassesAt w cb co cs) (hcl : cs.length ≤ maxLen) (hs : s.size ≤ maxLen) :
    Calls Try.prog 43 #[.agg #[.string nm, .slice ca cs.length cc, .slice ta tn tc, .slice ra rn rc, .slice oa on oc, .slice ya yn yc, .slice qa qn qc], .string s] w fun e w' => e = .returned (.int .i64 (refIdx cs s)) ∧ Below w.heap.size w w' := by
  have HCA := Lib.hid hca
  have hb0 : Below w.heap.size w (w.alloc (.cells #[.string nm, .slice ca cs.length cc, .slice ta tn tc, .slice ra rn rc, .slice oa on oc, .slice ya yn yc, .slice qa qn qc] 29)) := (Below.refl _ w).alloc (Nat.le_refl _) _
  have hc0 := heap_alloc_new w (.cells #[.string nm, .slice ca cs.length cc, .slice ta tn tc, .slice ra rn rc, .slice oa on oc, .slice ya yn yc, .slice qa qn qc] 29)
  have HB0 := Lib.hid hb0
  have HC0 := Lib.hid hc0
  have HCS := Lib.hid (hcs.later hb0)
  clear hb0 hc0 hca hcs
  obtain ⟨R, hR⟩ : ∃ R, refIdx cs s = R := ⟨_, rfl⟩
  rw [hR]
  have HR := Lib.hid hR
  clear hR
  unfold maxLen at hcl hs
  go_enter Try.func43, Try.ntmps43
  go_wp2_with fail
  generalize (w.alloc (.cells #[.string nm, .slice ca cs.length cc, .slice ta tn tc, .slice ra rn rc, .slice oa on oc, .slice ya yn yc, .slice qa qn qc] 29)) = w1 at *
  obtain ⟨ga, hga⟩ : ∃ q, w.heap.size = q := ⟨_, rfl⟩
  have HCell := Lib.hid (thy_cells HC0.out)
  rw [hga] at HCell ⊢
  have HGA := Lib.hid hga
  clear hga
  obtain ⟨g0, g1, g2, g3, g4, g5, g6⟩ := HCell.out
  clear HCell
  go_loop [5] (fun t => ∃ i : Nat, t = .int .i64 i ∧ i ≤ cs.length ∧ (cs.take i).all (fun c => !decide (c.name = s)) = true) (fun t => cs.length - (intOf t).toNat)
  case atStart => exact ⟨0, rfl, Nat.zero_le _, by simp⟩
  case round =>
    obtain ⟨i, rfl, hi, hp⟩ := hrel
    by_cases hlt : i < cs.length
    · have e := HCA.out (by intro e; subst e; simp at hlt)
      subst e
      obtain ⟨hcb, sa, sb, so, sc, c0, c1, c2, c3, c4, c5⟩ := HCS.out i hlt
      have HP := Lib.hid hp
      have hts : (cs.take (i + 1)).all (fun c => !decide (c.name = s)) = !decide (cs[i].name = s) := by
        rw [← List.take_append_getElem hlt, List.all_append, hp]; simp
      have HTS := Lib.hid hts
      have HAT := Lib.hid (fun he => refIdx_at hlt hp he)
      obtain ⟨c, hc⟩ : ∃ c, cs[i] = c := ⟨_, rfl⟩
      rw [hc] at c0 c4 HTS HAT
      clear hp hts hc c1 c2 c3 c5
      have hq := toList_beq c.name s
      by_cases hd : c.name = s
      · rw [decide_eq_true hd] at hq
        have HD := Lib.hid hd
        clear hd
        go_wp2_with fail
        go_ret
        refine ⟨?_, ?_⟩
        · rw [← HR.out, HAT.out HD.out]; rfl
        · exact HB0.out
      · rw [decide_eq_false hd] at hq HTS
        clear hd
        go_wp2_with fail
        go_round
        case rel => exact ⟨i + 1, by go_num, by omega, HTS.out⟩
        case measure => simp [intOf]; omega
    · have ht : cs.take i = cs := List.take_of_length_le (by omega)
      rw [ht] at hp
      have HP := Lib.hid hp
      clear hp ht
      go_wp2_with fail
      go_ret
      refine ⟨?_, ?_⟩
      · rw [← HR.out, refIdx_none HP.out]; rfl
      · exact HB0.out

theorem refClass_uni {nm : ByteArray} {ca ta ra oa ya qa : Option Addr} {cc tn tc rn rc on oc yn yc qn qc cb co : Nat} {cs : List Cls} {g : Nat} {W0 : World} (h : ThyAt nm ca ta ra oa ya qa cc tn tc rn rc on oc yn yc qn qc cb co cs g W0) (W : World) {s : ByteArray} (hs : Hid (s.size ≤ maxLen)) (hb : Hid (Below W0.heap.size W0 W)) :
    Calls Try.prog 43 #[.agg #[.string nm, .slice ca cs.length cc, .slice ta tn tc, .slice ra rn rc, .slice oa on oc, .slice ya yn yc, .slice qa qn qc], .string s] W fun e W' =>
      e = .returned (.int .i64 (refIdx cs s)) ∧ Hid (Below W0.heap.size W0 W') ∧ W'.cell? ⟨g, 0, none⟩ = some (.string nm) ∧ W'.cell? ⟨g, 1, none⟩ = some (.slice ca cs.length cc) ∧ W'.cell? ⟨g, 2, none⟩ = some (.slice ta tn tc) ∧ W'.cell? ⟨g, 3, none⟩ = some (.slice ra rn rc) ∧ W'.cell? ⟨g, 4, none⟩ = some (.slice oa on oc) ∧ W'.cell? ⟨g, 5, none⟩ = some (.slice ya yn yc) ∧ W'.cell? ⟨g, 6, none⟩ = some (.slice qa qn qc) := by
  have hT := h.later hb.out
  refine (refClass_any s W hT.cla hT.thy.cls hT.len hs.out).mono ?_
  rintro e W' ⟨rfl, hb'⟩
  exact ⟨rfl, Lib.hid (hb.out.trans (hb'.mono hb.out.size)), (hT.later hb').cells⟩

set_option maxRecDepth 100000 in
set_option maxHeartbeats 2000000 in
theorem refKnown_any {nm : ByteArray} {ca ta ra oa ya qa : Option Addr} {cc tn tc rn rc on oc yn yc qn qc cb co : Nat} {cs : List Cls} {xa : Option Addr} {x : List ByteArray} {xc : Nat} (w : World)
    (hca : cs ≠ [] → ca = some ⟨cb, co, none⟩) (hcs : ClassesAt w cb co cs) (hcl : cs.length ≤ maxLen) (hx : SortAt w xa x) :
    Calls Try.prog 46 #[.agg #[.string nm, .slice ca cs.length cc, .slice ta tn tc, .slice ra rn rc, .slice oa on oc, .slice ya yn yc, .slice qa qn qc], .slice xa x.length xc] w fun e w' => e = .returned (.bool (x.all (knownB cs))) ∧ Below w.heap.size w w' := by
  have hb0 : Below w.heap.size w (w.alloc (.cells #[.string nm, .slice ca cs.length cc, .slice ta tn tc, .slice ra rn rc, .slice oa on oc, .slice ya yn yc, .slice qa qn qc] 29)) := (Below.refl _ w).alloc (Nat.le_refl _) _
  have HTH := Lib.hid (ThyAt.mk (Thy.mk (heap_alloc_new w (.cells #[.string nm, .slice ca cs.length cc, .slice ta tn tc, .slice ra rn rc, .slice oa on oc, .slice ya yn yc, .slice qa qn qc] 29)) (hcs.later hb0)) hca hcl : ThyAt nm ca ta ra oa ya qa cc tn tc rn rc on oc yn yc qn qc cb co cs w.heap.size _)
  have HX := Lib.hid (hx.later hb0)
  have hlx : x.length ≤ 9223372036854775807 := hx.choose_spec.choose_spec.2.2
  have HSZ := Lib.hid hx.size
  have HB0 := Lib.hid hb0
  clear hb0 hca hcs hcl hx
  obtain ⟨R, hR⟩ : ∃ R, x.all (knownB cs) = R := ⟨_, rfl⟩
  rw [hR]
  have HR := Lib.hid hR
  clear hR
  go_enter Try.func46, Try.ntmps46
  go_wp2_with fail
  generalize (w.alloc (.cells #[.string nm, .slice ca cs.length cc, .slice ta tn tc, .slice ra rn rc, .slice oa on oc, .slice ya yn yc, .slice qa qn qc] 29)) = w1 at *
  obtain ⟨ga, hga⟩ : ∃ q, w.heap.size = q := ⟨_, rfl⟩
  rw [hga] at HTH ⊢
  have HGA := Lib.hid hga
  clear hga
  go_loopw [5] (fun t wr => ∃ i : Nat, t = .int .i64 i ∧ i ≤ x.length ∧ (x.take i).all (knownB cs) = true ∧ Below w1.heap.size w1 wr) (fun t _ => x.length - (intOf t).toNat)
  case atStart => exact ⟨0, rfl, Nat.zero_le _, by simp, Below.refl _ _⟩
  case round =>
    obtain ⟨i, rfl, hi, hp, hb⟩ := hrel
    have HB := Lib.hid hb
    have HBW := Lib.hid (HB0.out.trans (hb.mono HB0.out.size))
    have HP := Lib.hid hp
    have HTR := Lib.hid (HTH.out.later hb)
    by_cases hlt : i < x.length
    · have hts : (x.take (i + 1)).all (knownB cs) = knownB cs x[i] := by
        rw [← List.take_append_getElem hlt, List.all_append, hp]; simp
      have HTS := Lib.hid hts
      have HZ := Lib.hid (HSZ.out _ (List.getElem_mem hlt))
      have HM := Lib.hid (List.getElem_mem hlt)
      obtain ⟨b, o, hxa, hxs, _⟩ := HX.out.later hb
      have e := hxa (by intro e; subst e; simp at hlt)
      subst e
      have hcx := hxs.cell i hlt
      obtain ⟨s, hs⟩ : ∃ s, x[i] = s := ⟨_, rfl⟩
      rw [hs] at HTS HZ HM hcx
      obtain ⟨g0, g1, g2, g3, g4, g5, g6⟩ := HTR.out.cells
      obtain ⟨I, hI⟩ : ∃ I, refIdx cs s = I := ⟨_, rfl⟩
      have HF := Lib.hid (fun W hb => refClass_uni HTR.out W HZ hb)
      rw [hI] at HF
      have HI := Lib.hid hI
      have hlb : b < wr.heap.size := hxs.lt (by intro e; subst e; simp at hlt)
      have HLB := Lib.hid hlb
      have HCX := Lib.hid hcx
      have HBR := Lib.hid ((Below.refl wr.heap.size wr).drew)
      have k0 : wr.drew.cell? ⟨ga, 0, none⟩ = _ := g0
      have k1 : wr.drew.cell? ⟨ga, 1, none⟩ = _ := g1
      have k2 : wr.drew.cell? ⟨ga, 2, none⟩ = _ := g2
      have k3 : wr.drew.cell? ⟨ga, 3, none⟩ = _ := g3
      have k4 : wr.drew.cell? ⟨ga, 4, none⟩ = _ := g4
      have k5 : wr.drew.cell? ⟨ga, 5, none⟩ = _ := g5
      have k6 : wr.drew.cell? ⟨ga, 6, none⟩ = _ := g6
      have k7 : wr.drew.cell? ⟨b, o + i, none⟩ = _ := hcx
      clear hp hts hs hxa hxs hI hb hlb
      by_cases hn : I < 0
      · have HN := Lib.hid (refIdx_neg.1 (by rw [HI.out]; exact hn))
        go_wp2_with fail
        go_region_held3 (fun W => W.cell? ⟨b, o + i, none⟩ = some (.string s) ∧ W.cell? ⟨ga, 0, none⟩ = some (.string nm) ∧ W.cell? ⟨ga, 1, none⟩ = some (.slice ca cs.length cc) ∧ W.cell? ⟨ga, 2, none⟩ = some (.slice ta tn tc) ∧ W.cell? ⟨ga, 3, none⟩ = some (.slice ra rn rc) ∧ W.cell? ⟨ga, 4, none⟩ = some (.slice oa on oc) ∧ W.cell? ⟨ga, 5, none⟩ = some (.slice ya yn yc) ∧ W.cell? ⟨ga, 6, none⟩ = some (.slice qa qn qc))
          (refine ⟨?_, ?_, ?_, ?_, ?_, ?_, ?_, ?_⟩ <;> assumption)
          ((go_at_call 43; refine (HF.out _ (by assumption)).mono ?_; rintro e w' ⟨rfl, hb', k0, k1, k2, k3, k4, k5, k6⟩; have k7 := (hb'.out.cell (p := ⟨b, o + i, none⟩) HLB.out).trans HCX.out))
        go_wp2_with fail
        go_ret
        refine ⟨?_, HBW.out.trans (hb'.out.mono HBW.out.size)⟩
        rw [← HR.out, show x.all (knownB cs) = false from List.all_eq_false.2 ⟨s, HM.out, by rw [HN.out]; simp⟩]
        rfl
      · have hk : knownB cs s = true := by
          cases hk : knownB cs s
          · exact absurd (by rw [← HI.out]; exact refIdx_neg.2 hk) hn
          · rfl
        have HN := Lib.hid (HTS.out.trans hk)
        clear hk
        go_wp2_with fail
        go_region_held3 (fun W => W.cell? ⟨b, o + i, none⟩ = some (.string s) ∧ W.cell? ⟨ga, 0, none⟩ = some (.string nm) ∧ W.cell? ⟨ga, 1, none⟩ = some (.slice ca cs.length cc) ∧ W.cell? ⟨ga, 2, none⟩ = some (.slice ta tn tc) ∧ W.cell? ⟨ga, 3, none⟩ = some (.slice ra rn rc) ∧ W.cell? ⟨ga, 4, none⟩ = some (.slice oa on oc) ∧ W.cell? ⟨ga, 5, none⟩ = some (.slice ya yn yc) ∧ W.cell? ⟨ga, 6, none⟩ = some (.slice qa qn qc))
          (refine ⟨?_, ?_, ?_, ?_, ?_, ?_, ?_, ?_⟩ <;> assumption)
          ((go_at_call 43; refine (HF.out _ (by assumption)).mono ?_; rintro e w' ⟨rfl, hb', k0, k1, k2, k3, k4, k5, k6⟩; have k7 := (hb'.out.cell (p := ⟨b, o + i, none⟩) HLB.out).trans HCX.out))
        go_wp2_with fail
        refine ⟨⟨i + 1, by simp only [Int.natCast_add, Int.natCast_one], by omega, HN.out, HB.out.trans (hb'.out.mono HB.out.size)⟩, ?_⟩
        show x.length - ((i : Int) + 1).toNat < x.length - ((i : Nat) : Int).toNat
        omega
    · have ht : x.take i = x := List.take_of_length_le (by omega)
      rw [ht] at HP
      clear hp ht hb
      go_wp2_with fail
      go_ret
      refine ⟨?_, HBW.out⟩
      rw [← HR.out, HP.out]; rfl
end Go.Proofs.Ytlaibimdkamcfaa
end

