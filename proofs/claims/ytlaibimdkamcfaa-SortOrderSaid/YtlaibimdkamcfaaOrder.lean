/-
  SortOrder: whatever the theory and the three sorts: where their Normals and the Meet are without error, Less is reflexive and transitive, a sort's Normal is within it and it within its Normal, Meet is the greatest sort within both: the statement's function returns true, and its arguments read as they did.
  Conditions: none but that the arguments can be read as data.
-/
import Derived.Test.YtlaibimdkamcfaaLeast
import Derived.Test.YtlaibimdkamcfaaE13
namespace Go.Proofs.Ytlaibimdkamcfaa
open Go.ChangeShapes Go.WideShapes Go.ChangeAt Go.RowKit

set_option maxRecDepth 100000 in
theorem sortOrder_lifted (os : Os) (started : os.Started) (H : Type) (enc : TypeId × Value → H) :
    ReturnsInHanded {} Try.checked os 6 .any (Rows.sortOrderSpec.pre6 enc Try.prog Try.f6 Rows.sortOrderRow.domain false) (Rows.sortOrderSpec.post enc Try.prog Try.f6 false true false false) := by
  refine returnsInHanded_of_change (C := Try.checked) Try.own started (by kernel_rfl) Try.func6
    (ChangeSpec.witness6 (enc := enc) (C := Try.checked) false ⟨#[], #[.agg #[.string ByteArray.empty, .slice none 0 0, .slice none 0 0, .slice none 0 0, .slice none 0 0, .slice none 0 0, .slice none 0 0], .slice none 0 0, .slice none 0 0, .slice none 0 0], []⟩ 8 (by kernel_rfl) (by kernel_rfl) (by kernel_rfl) (by kernel_rfl)) ?_
  intro W base args ds gs before hval0 hW hcnd _
  have hval : ∀ (j : Nat) t v, Try.f6.params[j]? = some t → args[j]? = some v → Value.okWide Try.prog W .any base t v := hval0
  have hW' := hW
  obtain ⟨p, q, hA0, hV, rfl, hfz, hnd⟩ := hW
  have hA : DataW.TrodAll enc Try.prog W 0 (fun _ => true) true Try.f6.params.toList args.toList ds p := hA0
  rw [Try.params6] at hA hval
  obtain ⟨v0, v1, v2, v3, d0, d1, d2, d3, p0, p1, p2, p3, rfl, rfl, rfl, h0, h1, h2, h3⟩ := trodAll_four hA
  obtain ⟨rfl, rfl⟩ := trodVars_none hV
  obtain ⟨nm, ca, ta, ra, oa, ya, qa, cc, tn, tc, rc, on, oc, yn, yc, qn, qc, cb, co, rb, ro, cs, ars, e0, k1, k2, k3, k4, k5, k6, k7⟩ := hasThy_of (hval 0 29 v0 rfl rfl) h0
  obtain ⟨x, xa, xc, xb, xo, e1, m1, m2, m3⟩ := hasStrs_of (hval 1 27 v1 rfl rfl) h1
  obtain ⟨y, ya', yc', yb, yo, e2, n1, n2, n3⟩ := hasStrs_of (hval 2 27 v2 rfl rfl) h2
  obtain ⟨z, za, zc, zb, zo, e3, l1, l2, l3⟩ := hasStrs_of (hval 3 27 v3 rfl rfl) h3
  have hw : Calls Try.prog 6 #[v0, v1, v2, v3] W fun e w' => e = .returned (.bool true) ∧ Below W.heap.size W w' := by
    rw [e0, e1, e2, e3]
    exact sortOrder_walk nm ca ta ra oa ya qa cc tn tc rc on oc yn yc qn qc cb co rb ro cs ars xc yc' zc xa ya' za x y z W k1 k2 k3 k4 k5 k6 k7 ⟨xb, xo, m2, m3, m1⟩ ⟨yb, yo, n2, n3, n1⟩ ⟨zb, zo, l2, l3, l1⟩
  clear e0 e1 e2 e3 hval0
  refine hw.mono fun e W' ⟨he, hb⟩ => ?_
  subst he
  have hlt : ∀ x ∈ p0 ++ p1 ++ p2 ++ p3, x.block < W.heap.size := fun x hx => by simpa using hW'.lt x (by simpa using hx)
  have ht : DataW.TrodAll enc Try.prog W' 0 (fun b => decide (b < W.heap.size)) true [29, 27, 27, 27] [v0, v1, v2, v3] [d0, d1, d2, d3] (p0 ++ (p1 ++ (p2 ++ p3))) :=
    trodAll_mk4 (Below.trod Try.laidOut (by kernel_rfl) (of_decide_eq_true (by kernel_rfl)) h0 hb (fun x hx => hlt x (by simp [hx])))
      (Below.trod Try.laidOut (by kernel_rfl) (of_decide_eq_true (by kernel_rfl)) h1 hb (fun x hx => hlt x (by simp [hx])))
      (Below.trod Try.laidOut (by kernel_rfl) (of_decide_eq_true (by kernel_rfl)) h2 hb (fun x hx => hlt x (by simp [hx])))
      (Below.trod Try.laidOut (by kernel_rfl) (of_decide_eq_true (by kernel_rfl)) h3 hb (fun x hx => hlt x (by simp [hx])))
  refine ⟨_, rfl, _, _, _, [], p0 ++ (p1 ++ (p2 ++ p3)), [], hW', ?_, ?_, ?_, hb.frame _, fun h => by cases h⟩
  · exact trodAll_mk1 (shut_bool Try.underlying4 _)
  · have e : Try.f6.params.toList = [29, 27, 27, 27] := by rw [Try.params6]
    show DataW.TrodAll enc Try.prog W' 0 (fun b => decide (b < W.heap.size)) true Try.f6.params.toList [v0, v1, v2, v3] [d0, d1, d2, d3] (p0 ++ (p1 ++ (p2 ++ p3)))
    rw [e]
    exact ht
  · rfl

theorem sortOrder_holds : Rows.SortOrderSaid :=
  OpenClaim.holds_of_wide 6 Try.f6 rfl rfl rfl rfl rfl rfl rfl ⟨rfl, rfl, rfl, rfl, rfl⟩ rfl rfl rfl rfl rfl (by kernel_rfl) Try.func6 (by kernel_rfl)
    (of_decide_eq_true (by kernel_rfl)) (by unfold Func.isWrapper; first | (rw [if_pos (by decide +kernel)]; kernel_rfl) | (rw [if_neg (by decide +kernel)]; exact ⟨rfl, rfl⟩))
    (fun os started H enc _ => sortOrder_lifted os started H enc)
end Go.Proofs.Ytlaibimdkamcfaa
