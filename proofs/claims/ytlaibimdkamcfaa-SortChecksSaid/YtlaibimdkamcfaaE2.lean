/-
  slices.Clone, SortFunc and Compact of strings, as least uses them: of any slice, a nil one too.
-/
import Derived.Test.YtlaibimdkamcfaaShelf
import Derived.Test.YtlaibimdkamcfaaE1
import Derived.Lib.OwnBridge
import Derived.Sort.Lot0
namespace Go.Proofs.Ytlaibimdkamcfaa
open Go.RowKit Go.Maps Go.Lib Go.Sort

theorem pw_mem {α : Type} {R S : α → α → Prop} : ∀ {l : List α}, (∀ a b, a ∈ l → b ∈ l → R a b → S a b) → l.Pairwise R → l.Pairwise S
  | [], _, _ => List.Pairwise.nil
  | x :: l, h, hp => by
    rw [List.pairwise_cons] at hp ⊢
    exact ⟨fun b hb => h x b List.mem_cons_self (List.mem_cons_of_mem _ hb) (hp.1 b hb), pw_mem (fun a b ha hb => h a b (List.mem_cons_of_mem _ ha) (List.mem_cons_of_mem _ hb)) hp.2⟩

def cmpL (a b : List UInt8) : Int := compareBytes a b
theorem swo_cmpL : SWO (Go.Proofs.ltOf cmpL) where
  irrefl x := by unfold Go.Proofs.ltOf cmpL; rw [cmp_self]; decide
  trans x y z h h' := by unfold Go.Proofs.ltOf cmpL at *; simp only [decide_eq_true_eq] at *; exact cmp_trans x y z h h'
  ntrans x y z h h' := by
    unfold Go.Proofs.ltOf cmpL at *
    simp only [decide_eq_false_iff_not] at *
    intro hxz
    by_cases hxy : compareBytes y x < 0
    · exact h' (cmp_trans y x z hxy hxz)
    · have h1 := cmp_swap y x
      have := cmp_zero x y (by omega)
      subst this
      exact h' hxz

theorem conn_cmpL {x y : List UInt8} (h : ¬ cmpL x y < 0) (h' : ¬ cmpL y x < 0) : x = y := by
  have h1 := cmp_swap y x
  unfold cmpL at h h'
  exact cmp_zero x y (by omega)

/-- What Compact makes of a sorted list: the same elements, each once, ascending. -/
theorem compact_spec (zs : List (List UInt8)) (hs : ∀ i j, i < j → j < zs.length → ¬ cmpL zs.toArray[j]! zs.toArray[i]! < 0) :
    (∀ x, x ∈ compact zs ↔ x ∈ zs) ∧ (compact zs).Pairwise (fun a b => cmpL a b < 0) := by
  constructor
  · intro x
    unfold compact compactUpTo
    simp only [List.mem_map, List.mem_filter, List.mem_range]
    constructor
    · rintro ⟨j, ⟨hj, _⟩, rfl⟩
      rw [getElem!_pos zs.toArray j (by simpa using hj)]
      simp
    · intro hx
      obtain ⟨j, hj, rfl⟩ := List.getElem_of_mem hx
      have key : ∀ j, (hj : j < zs.length) → ∃ k, (k < zs.length ∧ keeps zs.toArray k = true) ∧ zs.toArray[k]! = zs.toArray[j]! := by
        intro j
        induction j with
        | zero => intro hj; exact ⟨0, ⟨hj, by simp [keeps]⟩, rfl⟩
        | succ j ih =>
          intro hj
          by_cases hk : keeps zs.toArray (j + 1) = true
          · exact ⟨j + 1, ⟨hj, hk⟩, rfl⟩
          · obtain ⟨k, hk1, hk2⟩ := ih (by omega)
            refine ⟨k, hk1, ?_⟩
            rw [hk2]
            unfold keeps at hk
            simp only [Nat.add_sub_cancel, decide_eq_true_eq] at hk
            exact Classical.byContradiction fun hne => hk (.inr fun e => hne e.symm)
      obtain ⟨k, h1, h2⟩ := key j hj
      refine ⟨k, h1, ?_⟩
      rw [h2, getElem!_pos zs.toArray j (by simpa using hj)]
      simp
  · unfold compact compactUpTo
    rw [List.pairwise_map]
    refine pw_mem (R := fun i j => i < j) ?_ (List.pairwise_lt_range.filter _)
    intro i j hi hj hij
    simp only [List.mem_filter, List.mem_range] at hi hj
    refine Classical.byContradiction fun hn => ?_
    have h1 := hs i j hij hj.1
    have e := conn_cmpL hn h1
    have hkeep := hj.2
    unfold keeps at hkeep
    simp only [decide_eq_true_eq] at hkeep
    rcases hkeep with h0 | h0
    · omega
    · by_cases hij1 : i = j - 1
      · rw [← hij1] at h0
        exact h0 e.symm
      · have h2 := hs i (j - 1) (by omega) (by omega)
        have h3 := hs (j - 1) j (by omega) hj.1
        rw [← e] at h3
        exact h0 (by rw [← e]; exact (conn_cmpL h3 h2))

/-- No later one stands ahead of an earlier one. -/
def AscL (zs : List (List UInt8)) : Prop := ∀ i j, i < j → j < zs.length → ¬ cmpL zs.toArray[j]! zs.toArray[i]! < 0

theorem enc_one : OneCell encStr := fun x => rfl

set_option maxRecDepth 100000 in
theorem cmp_lays (blk off size : Nat) (w : World) : CmpLays1 Try.prog 86 #[] encStr cmpL blk off size w := by
  intro m os dk hs x y
  refine (Try.strings_Compare ⟨x.toArray⟩ ⟨y.toArray⟩ _).mono fun e w' ⟨he, hw⟩ => ⟨he, 0, #[], ?_⟩
  rw [hw, grow_empty]
  rfl

theorem own_mono {B B' e n k : Nat} {w : World} {v : Value} {xs : List Value} (h : w.ownsRow B e k v n xs) (hB : B' ≤ B) : w.ownsRow B' e k v n xs := by
  refine ⟨h.1, ?_⟩
  rcases h.2 with h0 | ⟨g, cap, cur, rfl, hb, rest⟩
  · exact .inl h0
  · exact .inr ⟨g, cap, cur, rfl, by omega, rest⟩

theorem clone_any (b o c : Nat) (a : Option Addr) (s : List ByteArray) (w : World) (ha : s ≠ [] → a = some ⟨b, o, none⟩) (h : StrsAt w b o s) (hl : s.length ≤ 1000) :
    Calls Try.prog 32 #[.slice a s.length c] w fun e w' => ∃ v, e = .returned v ∧ w'.ownsRow w.heap.size 9 1 v s.length (s.map Value.string) ∧ Below w.heap.size w w' := by
  cases s with
  | nil =>
    cases a with
    | none => exact (Try.slices_Clone_string_nil 0 c w).mono fun e w' ⟨he, hw⟩ => ⟨_, he, by rw [hw]; exact World.ownsRow_nil _ _ _ _, by rw [hw]; exact Below.refl _ _⟩
    | some a => exact (Try.slices_Clone_string_zero a c w).mono fun e w' ⟨v, he, ho, _, hb⟩ => ⟨v, he, ho, hb⟩
  | cons x s =>
    obtain rfl := ha (by simp)
    refine (Try.slices_Clone_string b o (x :: s).length c (x :: s) w (Nat.le_refl _) (by omega) (fun j hj => ?_)).mono fun e w' ⟨v, he, ho, _, hb⟩ => ⟨v, he, ?_, hb⟩
    · rw [h.cell j hj, List.getD_eq_getElem?_getD, List.getElem?_eq_getElem hj]; rfl
    · rw [List.take_length] at ho; exact ho

def toB (l : List UInt8) : ByteArray := ⟨l.toArray⟩
theorem toB_data (x : ByteArray) : toB x.data.toList = x := by cases x; simp [toB]
theorem data_toB (l : List UInt8) : (toB l).data.toList = l := by simp [toB]
theorem map_toB (zs : List (List UInt8)) : zs.map encStr = (zs.map toB).map Value.string := by rw [List.map_map]; rfl

set_option maxRecDepth 100000 in
theorem sort_any (B : Nat) (v : Value) (s : List ByteArray) (w : World) (h : w.ownsRow B 9 1 v s.length (s.map Value.string)) (hl : s.length ≤ 1000) :
    Calls Try.prog 85 #[v, .func (.func 86) #[] #[]] w fun e w' => e = .returned (.tuple #[]) ∧ ∃ zs : List (List UInt8), zs.length = s.length ∧ w'.ownsRow B 9 1 v s.length (zs.map encStr) ∧ (∀ x, x ∈ zs ↔ toB x ∈ s) ∧ AscL zs ∧ Below B w w' := by
  by_cases h0 : s = []
  · subst h0
    obtain ⟨a, c, rfl⟩ := own_slice h
    refine (Try.slices_SortFunc_none (α := List UInt8) a c _ w).mono fun e w' ⟨he, hw⟩ => ⟨he, [], rfl, by rw [hw]; exact h, fun x => by simp, fun i j _ hj => by simp at hj, by rw [hw]; exact Below.refl _ _⟩
  · have hne : v ≠ .slice none 0 0 := by
      rintro rfl
      rcases h.2 with ⟨_, hn⟩ | ⟨g, cap, cur, hv, _⟩
      · exact h0 (List.eq_nil_of_length_eq_zero hn)
      · cases hv
    rw [← map_encStr] at h
    obtain ⟨g, cap, rfl, hBg, hlt, hcap, hmax, hlen, hH⟩ := holds_of_ownsRow h hne
    obtain ⟨dd, hdd⟩ : ∃ dd, (s.map (·.data.toList)).toArray = dd := ⟨_, rfl⟩
    have hsz : dd.size = s.length := by rw [← hdd]; simp
    have hmd : ∀ y, y ∈ dd.toList ↔ ∃ z, z ∈ s ∧ z.data.toList = y := fun y => by rw [← hdd]; simp
    rw [hdd] at hH
    clear hdd
    have hc := Try.slices_SortFunc encStr enc_one cmpL swo_cmpL 86 #[] g 0 cap dd w (fun _ _ => rfl) (cmp_lays _ _ _ _) hH hlt (by rw [hsz]; omega)
    rw [hsz] at hc
    refine hc.mono fun e w' ⟨he, d', n, os, hp, hs, hw⟩ => ⟨he, d'.toList, ?_, ?_, fun x => ?_, fun i j hij hj => ?_, ?_⟩
    · rw [Array.length_toList, hp.1, hsz]
    · rw [hw]
      have ho := ownsRow_putRow (q := n) (k := s.length) (ys := d'.toList) h (by rw [Array.length_toList, hp.1, hsz]) (Nat.le_refl _)
      rw [List.take_of_length_le (by rw [Array.length_toList, hp.1, hsz]; exact Nat.le_refl _), Array.toArray_toList] at ho
      refine ⟨ho.1, ?_⟩
      rcases ho.2 with hh | ⟨g', cap', cur, hv, hb, hg, rest⟩
      · exact .inl hh
      · refine .inr ⟨g', cap', cur, hv, hb, ?_, rest⟩
        unfold sortWorld
        rw [heap_grow_old _ _ (Array.getElem?_eq_some_iff.1 hg).1]
        exact hg
    · have hpm := hp.2.2
      rw [Array.extract_eq_self_of_le (by rw [hp.1, hsz]; exact Nat.le_refl _), Array.extract_eq_self_of_le (by rw [hsz]; exact Nat.le_refl _)] at hpm
      rw [hpm.mem_iff]
      rw [hmd]
      constructor
      · rintro ⟨y, hy, rfl⟩
        rw [toB_data]; exact hy
      · intro hx
        exact ⟨_, hx, data_toB x⟩
    · have := hs i j (Nat.zero_le _) hij (by rw [Array.length_toList, hp.1, hsz] at hj; exact hj)
      unfold Go.Proofs.ltOf at this
      simp only [decide_eq_false_iff_not] at this
      rw [Array.toArray_toList]
      exact this
    · rw [hw]
      unfold sortWorld
      refine (below_putRow (q := n) (Below.refl B w) hBg).trans ⟨rfl, rfl, rfl, by simp, fun k hk => heap_grow_old _ _ ?_⟩
      simp [putRow, mapBlock, Sort.ahead]
      omega

set_option maxRecDepth 100000 in
theorem compact_any (B : Nat) (v : Value) (zs : List (List UInt8)) (w : World) (h : w.ownsRow B 9 1 v zs.length (zs.map encStr)) (hl : zs.length ≤ 1000) (hs : AscL zs) :
    Calls Try.prog 87 #[v] w fun e w' => ∃ (v' : Value) (r : List ByteArray), e = .returned v' ∧ w'.ownsRow B 9 1 v' r.length (r.map Value.string) ∧ (∀ x, x ∈ r ↔ x.data.toList ∈ zs) ∧ r.Pairwise ltS ∧ r.length ≤ zs.length ∧ Below B w w' := by
  by_cases h0 : zs = []
  · subst h0
    obtain ⟨a, c, rfl⟩ := own_slice h
    exact (Try.slices_Compact_string_empty a c w).mono fun e w' ⟨he, hw⟩ => ⟨_, [], he, by rw [hw]; exact h, fun x => by simp, List.Pairwise.nil, Nat.le_refl _, by rw [hw]; exact Below.refl _ _⟩
  · have hne : v ≠ .slice none 0 0 := by
      rintro rfl
      rcases h.2 with ⟨_, hn⟩ | ⟨g, cap, cur, hv, _⟩
      · exact h0 (List.eq_nil_of_length_eq_zero hn)
      · cases hv
    obtain ⟨g, cap, rfl, hBg, hlt, hcap, hmax, hlen, hH⟩ := holds_of_ownsRow h hne
    obtain ⟨hm, hp⟩ := compact_spec zs hs
    have hle := compact_length_le zs
    refine (Try.slices_Compact_string g 0 cap zs w hH (by omega) hcap).mono fun e w' ⟨he, q, hw⟩ => ⟨_, (compact zs).map toB, he, ?_, fun x => ?_, ?_, by rw [List.length_map]; exact hle, ?_⟩
    · rw [hw, List.length_map]
      have ho := ownsRow_putRow (q := q) (k := (compact zs).length) (ys := compact zs ++ List.replicate (zs.length - (compact zs).length) []) h (by simp; omega) hle
      rw [List.take_left, map_toB] at ho
      exact ho
    · rw [List.mem_map]
      constructor
      · rintro ⟨y, hy, rfl⟩
        rw [data_toB]; exact (hm y).1 hy
      · intro hx
        exact ⟨_, (hm _).2 hx, toB_data x⟩
    · rw [List.pairwise_map]
      refine pw_mem (fun a b _ _ hab => ?_) hp
      unfold ltS cmpS
      rw [data_toB, data_toB]
      exact hab
    · rw [hw]
      exact below_putRow (Below.refl B w) hBg
end Go.Proofs.Ytlaibimdkamcfaa
