import Derived.Test.YtlaibimdkamcfaaK16
/-
  SortNarrower: the mathematics: narrower sorts, Meets and greater depths.
-/
namespace Go.Proofs.Ytlaibimdkamcfaa
open Go.RowKit Go.Maps

variable {cs : List Cls} {ts : List TD} {l : List Ari}

/-- What has a type to a depth has one to a greater one. -/
theorem Gr.up : ∀ {d : Nat} {s : List ByteArray}, Gr cs ts l d s → Gr cs ts l (d + 1) s
  | 0, _, h => h.elim
  | _ + 1, _, ⟨k, hk, hc, hu⟩ => ⟨k, hk, hc, fun u h => (hu u h).up⟩

theorem ArgsIs.zero {name : ByteArray} {s : List ByteArray} {U : List (List ByteArray)} (h : ArgsIs cs ts l name s 0 U) : checkErr cs ts l = 0 ∧ name ∈ tnames ts ∧ sortErr (knownB cs) s = 0 ∧ CanU ts l name s ∧ (∀ u, u ∈ argsU cs ts l name s → u.length ≤ 20) ∧ U = argsU cs ts l name s := by
  rcases h with ⟨h0, h1, _⟩ | ⟨_, _, h1, _⟩ | ⟨_, _, h0, h1, _⟩ | ⟨_, _, _, _, h1, _⟩ | ⟨_, _, _, _, _, h1, _⟩ | ⟨h0, h1, h2, h3, h4, _, h5⟩
  · exact absurd h1.symm h0
  · exact absurd h1 (by decide)
  · exact absurd h1.symm h0
  · exact absurd h1 (by decide)
  · exact absurd h1 (by decide)
  · exact ⟨h0, h1, h2, h3, fun u hu => Nat.le_of_not_lt fun hl => h4 ⟨u, hu, hl⟩, h5⟩

theorem argsU_len (n : ByteArray) (s : List ByteArray) : (argsU cs ts l n s).length = (tdAt ts (tIdx ts n)).arity.toNat := by
  unfold argsU
  simp

theorem argsU_normal {n : ByteArray} {s : List ByteArray} {i : Nat} (hi : i < (argsU cs ts l n s).length) : IsNormalOf ltS (belowB cs) (needU l n s i) (argsU cs ts l n s)[i] := by
  have e : (argsU cs ts l n s)[i] = leastFrom (belowB cs) (needU l n s i) [] (needU l n s i) := by
    simp [argsU]
  rw [e]
  exact leastFrom_normal _ _

theorem sortErr_mk {K : ByteArray → Bool} {s : List ByteArray} (h1 : s.length ≤ 20) (h2 : ∀ c, c ∈ s → K c = true) : sortErr K s = 0 := by
  unfold sortErr
  rw [if_neg (by omega), if_pos (List.all_eq_true.2 h2)]

theorem MeetIs.zero {x y m : List ByteArray} (h : MeetIs cs x y 0 m) : normErr cs x = 0 ∧ normErr cs y = 0 ∧ m.length ≤ 20 ∧ IsNormalOf ltS (belowB cs) (x ++ y) m := by
  rcases h with ⟨h0, h1, _⟩ | ⟨_, h0, h1, _⟩ | ⟨h0, h1, N, hN, ⟨_, h2, _⟩ | ⟨h2, _, rfl⟩⟩
  · exact absurd h1.symm h0
  · exact absurd h1.symm h0
  · exact absurd h2 (by decide)
  · exact ⟨h0, h1, h2, hN⟩

/-- The Meet of two sorts that a constructor can have. -/
theorem meet_can {n : ByteArray} {a b m : List ByteArray} (ha : CanU ts l n a) (hb : CanU ts l n b) (hm : IsNormalOf ltS (belowB cs) (a ++ b) m) : CanU ts l n (a ++ b) ∧ CanU ts l n m := by
  have hab : ∀ c, c ∈ a ++ b → (n, c) ∈ l.map pairOf := fun c hc => (List.mem_append.1 hc).elim (ha.2 c) (hb.2 c)
  exact ⟨⟨ha.1, hab⟩, ⟨ha.1, fun c hc => hab c ((hm.mem c).1 hc).1⟩⟩

/-- Args of the Meet answers, or says that it has too many. -/
theorem meet_args {n : ByteArray} {a b m : List ByteArray} {U V Z : List (List ByteArray)} {E : Int} (ha : ArgsIs cs ts l n a 0 U) (hb : ArgsIs cs ts l n b 0 V) (hm : MeetIs cs a b 0 m) (hz : ArgsIs cs ts l n m E Z) : (E = 0 ∧ Z = argsU cs ts l n m) ∨ (E = 5 ∧ Z = []) := by
  obtain ⟨h0, h1, h2, h3, _, _⟩ := ha.zero
  obtain ⟨_, _, k2, k3, _, _⟩ := hb.zero
  obtain ⟨_, _, hl, hN⟩ := hm.zero
  have hs : sortErr (knownB cs) m = 0 := sortErr_mk hl fun c hc => (List.mem_append.1 ((hN.mem c).1 hc).1).elim ((sortErr_zero h2).2 c) ((sortErr_zero k2).2 c)
  have hc := (meet_can h3 k3 hN).2
  rcases hz with ⟨q, _⟩ | ⟨_, q, _⟩ | ⟨_, _, q, _⟩ | ⟨_, _, _, q, _⟩ | ⟨_, _, _, _, _, q⟩ | ⟨_, _, _, _, _, q⟩
  · exact absurd h0 q
  · exact absurd h1 q
  · exact absurd hs q
  · exact absurd hc q
  · exact .inr q
  · exact .inl q

/-- The arguments of a Meet are the Meets of the arguments. -/
theorem meet_each {n : ByteArray} {a b m : List ByteArray} {U V : List (List ByteArray)} (ha : ArgsIs cs ts l n a 0 U) (hb : ArgsIs cs ts l n b 0 V) (hm : MeetIs cs a b 0 m) (hz : ArgsIs cs ts l n m 0 (argsU cs ts l n m)) {i : Nat} (h1 : i < U.length) (h2 : i < V.length) (h3 : i < (argsU cs ts l n m).length) :
    MeetIs cs U[i] V[i] 0 (argsU cs ts l n m)[i] := by
  obtain ⟨h0, _, q2, q3, q4, rfl⟩ := ha.zero
  obtain ⟨_, _, k2, k3, k4, rfl⟩ := hb.zero
  obtain ⟨_, _, _, hN⟩ := hm.zero
  obtain ⟨hO, hT, hA, hR⟩ := check_zero h0
  have ek := argsU_known hA q3 (List.getElem_mem h1)
  have fk := argsU_known hA k3 (List.getElem_mem h2)
  have hi : (i : Int) < (tdAt ts (tIdx ts n)).arity := by
    rw [argsU_len] at h1
    omega
  refine .inr (.inr ⟨normErr_mk hO (q4 _ (List.getElem_mem h1)) ek.1, normErr_mk hO (k4 _ (List.getElem_mem h2)) fk.1, (argsU cs ts l n m)[i], ?_, .inr ⟨hz.zero.2.2.2.2.1 _ (List.getElem_mem h3), rfl, rfl⟩⟩)
  have e : needU l n (a ++ b) i = needU l n a i ++ needU l n b i := by unfold needU; exact List.flatMap_append
  have hkab : ∀ c, c ∈ a ++ b → knownB cs c = true := fun c hc => (List.mem_append.1 hc).elim ((sortErr_zero q2).2 c) ((sortErr_zero k2).2 c)
  have g : ∀ c, IsLeast (belowB cs) ((argsU cs ts l n a)[i] ++ (argsU cs ts l n b)[i]) c ↔ IsLeast (belowB cs) (needU l n m i) c := fun c => by
    rw [least_meet (classes_ord hO) (argsU_normal h1) (argsU_normal h2) (need_known hA q3.2 hi) (need_known hA k3.2 hi), ← e]
    exact need_normal hO hA hR hN hkab (meet_can q3 k3 hN).1.2 hi c
  exact normal_over (argsU_normal h3) g

/-- With a narrower sort the sorts of the arguments are narrower. -/
theorem args_less {n : ByteArray} {a b : List ByteArray} {U V : List (List ByteArray)} (ha : ArgsIs cs ts l n a 0 U) (hb : ArgsIs cs ts l n b 0 V) (hl : lessB (knownB cs) (belowB cs) a b = true) {i : Nat} (h1 : i < U.length) (h2 : i < V.length) :
    lessB (knownB cs) (belowB cs) U[i] V[i] = true := by
  obtain ⟨h0, _, q2, q3, _, rfl⟩ := ha.zero
  obtain ⟨_, _, k2, k3, _, rfl⟩ := hb.zero
  obtain ⟨hO, hT, hA, hR⟩ := check_zero h0
  have hi : (i : Int) < (tdAt ts (tIdx ts n)).arity := by
    rw [argsU_len] at h1
    omega
  have o := classes_ord hO
  have n1 := less_normal_left o (argsU_normal (cs := cs) h1) (need_known hA q3.2 hi)
  have n2 := less_normal_right o (argsU_normal (cs := cs) h2) (need_known hA k3.2 hi)
  refine less_trans o n1 (less_trans o (lessB_iff.2 ⟨need_known hA q3.2 hi, fun y hy => ?_⟩) n2)
  obtain ⟨c, hc, hy⟩ := List.mem_flatMap.1 hy
  obtain ⟨d, hd, hb⟩ := (lessB_iff.1 hl).2 c hc
  have hlen := args_len hA (q3.2 d hd)
  obtain ⟨x, hx, hxy⟩ := (lessB_iff.1 ((regular_up hA hR (q3.2 d hd) hb).2 i (by omega))).2 y hy
  exact ⟨x, List.mem_flatMap.2 ⟨d, hd, hx⟩, hxy⟩
end Go.Proofs.Ytlaibimdkamcfaa
