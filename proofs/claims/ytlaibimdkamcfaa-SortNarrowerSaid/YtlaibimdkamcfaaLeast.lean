import Derived.Test.YtlaibimdkamcfaaRows
import Derived.Test.YtlaibimdkamcfaaE8
import Derived.ProofKit
/-
  SortLeast: whatever the theory and the two sorts: Normal is idempotent, does not depend on the order of the classes, and sorts within each other have one Normal: the statement's function returns true, and its arguments read as they did.
  Conditions: none but that the arguments can be read as data.
-/
namespace Go.Proofs.Ytlaibimdkamcfaa
open Go.ChangeShapes Go.WideShapes Go.ChangeAt Go.RowKit

theorem Try.own : ownKnob Try.prog.godebug = none := by kernel_rfl
theorem Try.laidOut : laidOutB Try.prog = true := by kernel_rfl

set_option maxRecDepth 100000 in
theorem hasThy_of {H : Type} {enc : TypeId × Value → H} {W : World} {base : Nat} {v : Value} {d : DataW H} {ps : List MemPlace} (hv : Value.okWide Try.prog W .any base 29 v) (h : DataW.Trod enc Try.prog W 0 (fun _ => true) true 29 v d ps) : HasThy W v := by
  obtain ⟨cs, rfl, _⟩ := okWide_struct Try.underlying29 hv
  obtain ⟨fuel, h⟩ := h
  simpa [Value.cells] using thy_arg h

set_option maxRecDepth 100000 in
theorem hasStrs_of {H : Type} {enc : TypeId × Value → H} {W : World} {base : Nat} {v : Value} {d : DataW H} {ps : List MemPlace} (hv : Value.okWide Try.prog W .any base 27 v) (h : DataW.Trod enc Try.prog W 0 (fun _ => true) true 27 v d ps) : ∃ l, HasStrs W v l := by
  obtain ⟨a, len, cap, rfl⟩ := okWide_slice Try.underlying27 hv
  obtain ⟨fuel, h⟩ := h
  exact strs_arg h

set_option maxRecDepth 100000 in
theorem sortLeast_lifted (os : Os) (started : os.Started) (H : Type) (enc : TypeId × Value → H) :
    ReturnsInHanded {} Try.checked os 7 .any (Rows.sortLeastSpec.pre6 enc Try.prog Try.f7 Rows.sortLeastRow.domain false) (Rows.sortLeastSpec.post enc Try.prog Try.f7 false true false false) := by
  refine returnsInHanded_of_change (C := Try.checked) Try.own started (by kernel_rfl) Try.func7
    (ChangeSpec.witness6 (enc := enc) (C := Try.checked) false ⟨#[], #[.agg #[.string ByteArray.empty, .slice none 0 0, .slice none 0 0, .slice none 0 0, .slice none 0 0, .slice none 0 0, .slice none 0 0], .slice none 0 0, .slice none 0 0], []⟩ 8 (by kernel_rfl) (by kernel_rfl) (by kernel_rfl) (by kernel_rfl)) ?_
  intro W base args ds gs before hval0 hW hcnd _
  have hval : ∀ (j : Nat) t v, Try.f7.params[j]? = some t → args[j]? = some v → Value.okWide Try.prog W .any base t v := hval0
  have hW' := hW
  obtain ⟨p, q, hA0, hV, rfl, hfz, hnd⟩ := hW
  have hA : DataW.TrodAll enc Try.prog W 0 (fun _ => true) true Try.f7.params.toList args.toList ds p := hA0
  rw [Try.params7] at hA hval
  obtain ⟨v0, v1, v2, d0, d1, d2, p0, p1, p2, rfl, rfl, rfl, h0, h1, h2⟩ := trodAll_three hA
  obtain ⟨rfl, rfl⟩ := trodVars_none hV
  obtain ⟨nm, ca, ta, ra, oa, ya, qa, cc, tn, tc, rc, on, oc, yn, yc, qn, qc, cb, co, rb, ro, cs, ars, e0, k1, k2, k3, k4, k5, k6, k7⟩ := hasThy_of (hval 0 29 v0 rfl rfl) h0
  obtain ⟨x, xa, xc, xb, xo, e1, m1, m2, m3⟩ := hasStrs_of (hval 1 27 v1 rfl rfl) h1
  obtain ⟨y, za, zc, yb, yo, e2, n1, n2, n3⟩ := hasStrs_of (hval 2 27 v2 rfl rfl) h2
  have hw : Calls Try.prog 7 #[v0, v1, v2] W fun e w' => e = .returned (.bool true) ∧ Below W.heap.size W w' := by
    rw [e0, e1, e2]
    exact sortLeast_walk nm ca ta ra oa ya qa cc tn tc rc on oc yn yc qn qc cb co rb ro cs ars xb xo xc yb yo zc xa za x y W k1 k2 k3 k4 k5 k6 k7 m2 m3 m1 n2 n3 n1
  clear e0 e1 e2 hval0
  refine hw.mono fun e W' ⟨he, hb⟩ => ?_
  subst he
  have hlt : ∀ x ∈ p0 ++ p1 ++ p2, x.block < W.heap.size := fun x hx => by simpa using hW'.lt x (by simpa using hx)
  have ht : DataW.TrodAll enc Try.prog W' 0 (fun b => decide (b < W.heap.size)) true [29, 27, 27] [v0, v1, v2] [d0, d1, d2] (p0 ++ (p1 ++ p2)) :=
    trodAll_mk3 (Below.trod Try.laidOut (by kernel_rfl) (of_decide_eq_true (by kernel_rfl)) h0 hb (fun x hx => hlt x (by simp [hx])))
      (Below.trod Try.laidOut (by kernel_rfl) (of_decide_eq_true (by kernel_rfl)) h1 hb (fun x hx => hlt x (by simp [hx])))
      (Below.trod Try.laidOut (by kernel_rfl) (of_decide_eq_true (by kernel_rfl)) h2 hb (fun x hx => hlt x (by simp [hx])))
  refine ⟨_, rfl, _, _, _, [], p0 ++ (p1 ++ p2), [], hW', ?_, ?_, ?_, hb.frame _, fun h => by cases h⟩
  · exact trodAll_mk1 (shut_bool Try.underlying4 _)
  · have e : Try.f7.params.toList = [29, 27, 27] := by rw [Try.params7]
    show DataW.TrodAll enc Try.prog W' 0 (fun b => decide (b < W.heap.size)) true Try.f7.params.toList [v0, v1, v2] [d0, d1, d2] (p0 ++ (p1 ++ p2))
    rw [e]
    exact ht
  · rfl

theorem sortLeast_holds : Rows.SortLeastSaid :=
  OpenClaim.holds_of_wide 7 Try.f7 rfl rfl rfl rfl rfl rfl rfl ⟨rfl, rfl, rfl, rfl, rfl⟩ rfl rfl rfl rfl rfl (by kernel_rfl) Try.func7 (by kernel_rfl)
    (of_decide_eq_true (by kernel_rfl)) (by unfold Func.isWrapper; first | (rw [if_pos (by decide +kernel)]; kernel_rfl) | (rw [if_neg (by decide +kernel)]; exact ⟨rfl, rfl⟩))
    (fun os started H enc _ => sortLeast_lifted os started H enc)
end Go.Proofs.Ytlaibimdkamcfaa
