/-
  The marks of the reference's above, round by round.
-/
import Derived.Test.YtlaibimdkamcfaaM4
namespace Go.Proofs.Ytlaibimdkamcfaa

/-- The marks when the classes from kk on have been looked at. -/
structure MK (sup : Nat → List Nat) (i kk : Nat) (bs : List Bool) : Prop where
  self : bs[i]? = some true
  reach : ∀ j, bs[j]? = some true → Reach sup i j
  closed : ∀ j, kk ≤ j → bs[j]? = some true → ∀ j', j' ∈ sup j → bs[j']? = some true

variable {sup : Nat → List Nat} {i m kk : Nat} {bs : List Bool}

theorem set_true {j j0 : Nat} (h : bs[j0]? = some true) : (bs.set j true)[j0]? = some true := by
  rw [List.getElem?_set]
  split
  · rename_i e
    subst e
    rw [if_pos]
    exact (List.getElem?_eq_some_iff.1 h).1
  · exact h

theorem MK.start (n : Nat) (hi : i < n) : MK sup i (i + 1) ((List.replicate n false).set i true) := by
  have key : ∀ j, ((List.replicate n false).set i true)[j]? = some true → j = i := fun j h => by
    rw [List.getElem?_set] at h
    split at h
    · rename_i e; exact e.symm
    · rw [List.getElem?_replicate] at h
      split at h <;> simp at h
  refine ⟨?_, fun j h => ?_, fun j hj h => ?_⟩
  · rw [List.getElem?_set_self (by simpa using hi)]
  · rw [key j h]; exact .refl i
  · have := key j h; omega

theorem MK.skip (h : MK sup i (m + 1) bs) (hb : bs[m]? = some false) : MK sup i m bs :=
  ⟨h.self, h.reach, fun j hj hm => by
    by_cases e : j = m
    · subst e; rw [hb] at hm; cases hm
    · exact h.closed j (by omega) hm⟩

theorem MK.mark (h : MK sup i kk bs) {j : Nat} (hm : bs[m]? = some true) (hj : j ∈ sup m) (hk : j < kk) : MK sup i kk (bs.set j true) := by
  refine ⟨set_true h.self, fun j0 h0 => ?_, fun j0 hj0 h0 j' hj' => ?_⟩
  · rw [List.getElem?_set] at h0
    split at h0
    · rename_i e
      subst e
      exact (h.reach m hm).snoc hj
    · exact h.reach j0 h0
  · rw [List.getElem?_set, if_neg (by omega)] at h0
    exact set_true (h.closed j0 hj0 h0 j' hj')

theorem MK.close (h : MK sup i (m + 1) bs) (hs : ∀ j, j ∈ sup m → bs[j]? = some true) : MK sup i m bs :=
  ⟨h.self, h.reach, fun j hj hm => by
    by_cases e : j = m
    · subst e; exact hs
    · exact h.closed j (by omega) hm⟩

theorem MK.whole (h : MK sup i 0 bs) (j : Nat) : bs[j]? = some true ↔ Reach sup i j := by
  refine ⟨h.reach j, fun hr => ?_⟩
  have : ∀ a b, Reach sup a b → bs[a]? = some true → bs[b]? = some true := fun a b hr => by
    induction hr with
    | refl => exact id
    | step h1 _ ih => exact fun hm => ih (h.closed _ (Nat.zero_le _) hm _ h1)
  exact this i j hr h.self
end Go.Proofs.Ytlaibimdkamcfaa
