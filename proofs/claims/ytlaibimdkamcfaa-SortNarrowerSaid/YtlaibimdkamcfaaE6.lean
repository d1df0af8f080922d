import Derived.Test.YtlaibimdkamcfaaE5
/-
  slices.Equal and Reverse of strings; the last words of the sort statements (awake).
-/
namespace Go.Proofs.Ytlaibimdkamcfaa
open Go.RowKit Go.Maps

theorem below_draws {B : Nat} {w w' : World} (q : Nat) (h : Below B w w') : Below B w (w'.drewN q) := ⟨h.os, h.tape, h.output, h.size, h.block⟩

theorem equal_any (xb xo xc yb yo yc : Nat) (xa ya : Option Addr) (x y : List ByteArray) (w : World) (hxa : x ≠ [] → xa = some ⟨xb, xo, none⟩) (hx : StrsAt w xb xo x) (hlx : x.length ≤ 9223372036854775807)
    (hya : y ≠ [] → ya = some ⟨yb, yo, none⟩) (hy : StrsAt w yb yo y) (hly : y.length ≤ 9223372036854775807) :
    Calls Try.prog 24 #[.slice xa x.length xc, .slice ya y.length yc] w fun e w' => e = .returned (.bool (decide (x = y))) ∧ Below w.heap.size w w' := by
  by_cases hn : x.length = y.length
  · by_cases h0 : x = []
    · subst h0
      have hy0 : y = [] := List.eq_nil_of_length_eq_zero hn.symm
      subst hy0
      exact (Try.slices_Equal_string_empty xa ya xc 0 yc w (by omega)).mono fun e w' ⟨he, hw⟩ => ⟨he, by rw [hw]; exact Below.refl _ _⟩
    · have hy0 : y ≠ [] := by rintro rfl; exact h0 (List.eq_nil_of_length_eq_zero hn)
      obtain rfl := hxa h0
      obtain rfl := hya hy0
      refine (Try.slices_Equal_string xb xo x.length xc yb yo y.length yc x y w (Nat.le_refl _) (Nat.le_refl _) hlx hly (fun j hj => ?_) (fun j hj => ?_)).mono fun e w' ⟨he, q, hw⟩ => ⟨?_, by rw [hw]; exact below_draws q (Below.refl _ _)⟩
      · rw [hx.cell j hj, List.getD_eq_getElem?_getD, List.getElem?_eq_getElem hj]; rfl
      · rw [hy.cell j hj, List.getD_eq_getElem?_getD, List.getElem?_eq_getElem hj]; rfl
      · rw [he, List.take_length, List.take_length]
  · refine (Try.slices_Equal_string_lens xa ya x.length xc y.length yc w hn).mono fun e w' ⟨he, hw⟩ => ⟨?_, by rw [hw]; exact Below.refl _ _⟩
    rw [he, decide_eq_false (fun e => hn (by rw [e]))]

theorem reverse_any (B : Nat) (v : Value) (s : List ByteArray) (w : World) (h : w.ownsRow B 9 1 v s.length (s.map Value.string)) (hl : s.length ≤ 1000) :
    Calls Try.prog 33 #[v] w fun e w' => e = .returned (.tuple #[]) ∧ w'.ownsRow B 9 1 v s.length (s.reverse.map Value.string) ∧ Below B w w' := by
  by_cases h0 : s = []
  · subst h0
    obtain ⟨a, c, rfl⟩ := own_slice h
    exact (Try.slices_Reverse_string_empty a c w).mono fun e w' ⟨he, hw⟩ => ⟨he, by rw [hw]; exact h, by rw [hw]; exact Below.refl _ _⟩
  · have hne : v ≠ .slice none 0 0 := by
      rintro rfl
      rcases h.2 with ⟨_, hn⟩ | ⟨g, cap, cur, hv, _⟩
      · exact h0 (List.eq_nil_of_length_eq_zero hn)
      · cases hv
    rw [← Lib.map_encStr] at h
    obtain ⟨g, cap, rfl, hBg, hlt, hcap, hmax, hlen, hH⟩ := Lib.holds_of_ownsRow h hne
    have hc := Try.slices_Reverse_string g 0 cap (s.map (·.data.toList)) w hH (by rw [List.length_map]; omega)
    rw [List.length_map] at hc
    refine hc.mono fun e w' ⟨he, q, hw⟩ => ⟨he, ?_, ?_⟩
    · rw [hw, ← List.map_reverse]
      have ho := Lib.ownsRow_putRow (q := q) (k := s.length) (ys := (s.map (·.data.toList)).reverse) h (by simp) (Nat.le_refl _)
      rw [List.take_of_length_le (by simp), ← List.map_reverse, Lib.map_encStr] at ho
      exact ho
    · rw [hw]
      exact Lib.below_putRow (Below.refl B w) hBg

/-! ### awake -/
def sA : ByteArray := ⟨#[97]⟩
def sB : ByteArray := ⟨#[98]⟩
def sC : ByteArray := ⟨#[99]⟩
def cs3 : List Cls := [⟨sA, []⟩, ⟨sB, []⟩, ⟨sC, [sA, sB]⟩]

theorem nAB : sA ≠ sB := by intro h; have := congrArg (fun x => x.data.toList) h; revert this; decide
theorem nAC : sA ≠ sC := by intro h; have := congrArg (fun x => x.data.toList) h; revert this; decide
theorem nBC : sB ≠ sC := by intro h; have := congrArg (fun x => x.data.toList) h; revert this; decide

theorem open3 : openErr cs3 = 0 := by
  refine openErr_zero (by decide) fun k hk => ?_
  have ha : nameB sA = true := by decide
  have hb : nameB sB = true := by decide
  have hc : nameB sC = true := by decide
  have hAB : cmpS sA sB < 0 := by decide
  match k, hk with
  | 0, _ => simp [clsErr, clsAt, cs3, namesOf, ha, firstErr]
  | 1, _ => simp [clsErr, clsAt, cs3, namesOf, hb, firstErr, nAB.symm]
  | 2, _ => simp [clsErr, clsAt, cs3, namesOf, hc, firstErr, nAC.symm, nBC.symm, supErr, strAt, hAB]

theorem known3 (x : ByteArray) : knownB cs3 x = true ↔ x = sA ∨ x = sB ∨ x = sC := by simp [knownB, cs3, namesOf]
theorem idxA : idxOfC cs3 sA = 0 := by simp [idxOfC, cs3, namesOf, List.findIdx_cons]
theorem idxB : idxOfC cs3 sB = 1 := by simp [idxOfC, cs3, namesOf, List.findIdx_cons, nAB]
theorem idxC : idxOfC cs3 sC = 2 := by simp [idxOfC, cs3, namesOf, List.findIdx_cons, nAC, nBC]

theorem sup2 : supOf cs3 2 = [0, 1] := by
  unfold supOf
  show [idxOfC cs3 sA, idxOfC cs3 sB] = _
  rw [idxA, idxB]

theorem least3 (c : ByteArray) : IsLeast (belowB cs3) [sB, sC, sA] c ↔ c = sC := by
  have hca : belowB cs3 sC sA = true := below_mk (by simp [known3]) (by simp [known3]) (by rw [idxC, idxA]; exact .step (by rw [sup2]; simp) (.refl _))
  have hcb : belowB cs3 sC sB = true := below_mk (by simp [known3]) (by simp [known3]) (by rw [idxC, idxB]; exact .step (by rw [sup2]; simp) (.refl _))
  constructor
  · rintro ⟨hm, h⟩
    simp only [List.mem_cons, List.not_mem_nil, or_false] at hm
    rcases hm with rfl | rfl | rfl
    · exact absurd (h sC (by simp) hcb).symm nBC
    · rfl
    · exact absurd (h sC (by simp) hca).symm nAC
  · rintro rfl
    refine ⟨by simp, fun d hd hb => ?_⟩
    have hr := (below_known hb).2.2.le (sup_lt open3)
    rw [idxC] at hr
    simp only [List.mem_cons, List.not_mem_nil, or_false] at hd
    rcases hd with rfl | rfl | rfl
    · rw [idxB] at hr; omega
    · rfl
    · rw [idxA] at hr; omega

theorem normal3 {r : List ByteArray} (h : IsNormalOf ltS (belowB cs3) [sB, sC, sA] r) : r = [sC] :=
  asc_ext ltS_irr ltS_trans h.asc (List.pairwise_singleton _ _) fun c => by rw [h.mem, least3]; simp

theorem normErr3 : normErr cs3 [sB, sC, sA] = 0 := by
  unfold normErr sortErr
  rw [if_pos open3, if_neg (by decide), if_pos]
  rw [List.all_eq_true]
  intro c hc
  rw [known3]
  simp only [List.mem_cons, List.not_mem_nil, or_false] at hc
  rcases hc with h | h | h <;> simp [h]

/-- The world of the last words' theory and sort. -/
def wake (w : World) : World :=
  (((w.alloc (.cells #[.string ⟨#[97]⟩, .string ⟨#[98]⟩] 9)).alloc (.cells #[.string ⟨#[97]⟩, .slice none 0 0, .string ⟨#[98]⟩, .slice none 0 0, .string ⟨#[99]⟩, .slice (some ⟨w.heap.size, 0, none⟩) 2 2] 60)).alloc
    (.cells #[.string ⟨#[]⟩, .slice (some ⟨w.heap.size + 1, 0, none⟩) 3 3, .slice none 0 0, .slice none 0 0, .slice none 0 0, .slice none 0 0, .slice none 0 0] 29)).alloc (.cells #[.string ⟨#[98]⟩, .string ⟨#[99]⟩, .string ⟨#[97]⟩] 9)

theorem wake_size (w : World) : (wake w).heap.size = w.heap.size + 4 := by simp [wake]
theorem wake_below (w : World) : Below w.heap.size w (wake w) := ((((Below.refl _ w).alloc (Nat.le_refl _) _).alloc (by simp) _).alloc (by simp; omega) _).alloc (by simp; omega) _
theorem wake0 (w : World) : (wake w).heap[w.heap.size]? = some (.cells #[.string ⟨#[97]⟩, .string ⟨#[98]⟩] 9 (0, 0)) := by
  unfold wake
  rw [Below.heap_alloc _ _ _ (by simp; omega), Below.heap_alloc _ _ _ (by simp; omega), Below.heap_alloc _ _ _ (by simp)]; exact heap_alloc_new w _
theorem wake1 (w : World) : (wake w).heap[w.heap.size + 1]? = some (.cells #[.string ⟨#[97]⟩, .slice none 0 0, .string ⟨#[98]⟩, .slice none 0 0, .string ⟨#[99]⟩, .slice (some ⟨w.heap.size, 0, none⟩) 2 2] 60 (0, 0)) := by
  unfold wake
  rw [Below.heap_alloc _ _ _ (by simp), Below.heap_alloc _ _ _ (by simp)]; exact Go.heap_alloc2_new w _ _
theorem wake3 (w : World) : (wake w).heap[w.heap.size + 1 + 1 + 1]? = some (.cells #[.string ⟨#[98]⟩, .string ⟨#[99]⟩, .string ⟨#[97]⟩] 9 (0, 0)) := by
  unfold wake
  have := heap_alloc_new (((w.alloc (.cells #[.string ⟨#[97]⟩, .string ⟨#[98]⟩] 9)).alloc (.cells #[.string ⟨#[97]⟩, .slice none 0 0, .string ⟨#[98]⟩, .slice none 0 0, .string ⟨#[99]⟩, .slice (some ⟨w.heap.size, 0, none⟩) 2 2] 60)).alloc
    (.cells #[.string ⟨#[]⟩, .slice (some ⟨w.heap.size + 1, 0, none⟩) 3 3, .slice none 0 0, .slice none 0 0, .slice none 0 0, .slice none 0 0, .slice none 0 0] 29)) (.cells #[.string ⟨#[98]⟩, .string ⟨#[99]⟩, .string ⟨#[97]⟩] 9)
  simpa using this

theorem small_max {n : Nat} (h : n ≤ 100) : n ≤ maxLen := by unfold maxLen; omega

theorem wake_classes (w : World) : ClassesAt (wake w) (w.heap.size + 1) 0 cs3 := by
  intro i hi
  have h1 := wake1 w
  have hs := wake_size w
  refine ⟨by omega, ?_⟩
  match i, hi with
  | 0, _ => exact ⟨none, 0, 0, 0, by rw [Lib.cell_of_heap h1]; rfl, by rw [Lib.cell_of_heap h1]; rfl, fun h => absurd rfl h, ⟨fun h => absurd rfl h, fun i hi => by simp [cs3] at hi, fun i hi => by simp [cs3] at hi⟩, small_max (n := 1) (by decide), small_max (n := 0) (by decide)⟩
  | 1, _ => exact ⟨none, 0, 0, 0, by rw [Lib.cell_of_heap h1]; rfl, by rw [Lib.cell_of_heap h1]; rfl, fun h => absurd rfl h, ⟨fun h => absurd rfl h, fun i hi => by simp [cs3] at hi, fun i hi => by simp [cs3] at hi⟩, small_max (n := 1) (by decide), small_max (n := 0) (by decide)⟩
  | 2, _ =>
    have h0 := wake0 w
    refine ⟨some ⟨w.heap.size, 0, none⟩, w.heap.size, 0, 2, by rw [Lib.cell_of_heap h1]; rfl, by rw [Lib.cell_of_heap h1]; rfl, fun _ => rfl, ⟨fun _ => by omega, fun j hj => ?_, fun j hj => ?_⟩, small_max (n := 1) (by decide), small_max (n := 2) (by decide)⟩
    · rw [Lib.cell_of_heap h0]
      match j, hj with
      | 0, _ => rfl
      | 1, _ => rfl
    · match j, hj with
      | 0, _ => exact small_max (n := 1) (by decide)
      | 1, _ => exact small_max (n := 1) (by decide)

theorem wake_sort (w : World) : StrsAt (wake w) (w.heap.size + 1 + 1 + 1) 0 [sB, sC, sA] := by
  have h3 := wake3 w
  have hs := wake_size w
  refine ⟨fun _ => by omega, fun j hj => ?_, fun j hj => ?_⟩
  · rw [Lib.cell_of_heap h3]
    match j, hj with
    | 0, _ => rfl
    | 1, _ => rfl
    | 2, _ => rfl
  · match j, hj with
    | 0, _ => exact small_max (n := 1) (by decide)
    | 1, _ => exact small_max (n := 1) (by decide)
    | 2, _ => exact small_max (n := 1) (by decide)

set_option maxRecDepth 100000 in
set_option maxHeartbeats 4000000 in
theorem awake_any (w : World) : Calls Try.prog 11 #[] w fun e w' => e = .returned (.bool true) ∧ Below w.heap.size w w' := by
  have HN := Lib.hid (sortNormal_any ⟨#[]⟩ (some ⟨w.heap.size + 1, 0, none⟩) none none none none none 3 0 0 0 0 0 0 0 0 0 0 (w.heap.size + 1) 0 cs3 (w.heap.size + 1 + 1 + 1) 0 3 (some ⟨w.heap.size + 1 + 1 + 1, 0, none⟩) [sB, sC, sA] (wake w) (fun _ => rfl) (wake_classes w) (small_max (by decide)) (fun _ => rfl) (wake_sort w) (by decide))
  have HB := Lib.hid (wake_below w)
  have HT := Lib.hid (name_any ⟨#[120, 39, 49, 46, 121]⟩)
  have HF := Lib.hid (name_any ⟨#[49, 120]⟩)
  have ht : nameB ⟨#[120, 39, 49, 46, 121]⟩ = true := by decide
  have hf : nameB ⟨#[49, 120]⟩ = false := by decide
  rw [ht] at HT
  rw [hf] at HF
  clear ht hf
  go_enter Try.func11, Try.ntmps11
  go_wp2_with fail
  refine HN.out.mono ?_
  rintro e w2 ⟨(⟨hE, _⟩ | ⟨_, v, r, rfl, hn, ho⟩), hb⟩
  · exact absurd normErr3 hE
  · obtain rfl := normal3 hn
    have HO := Lib.hid ho
    have HB2 := Lib.hid (HB.out.trans (hb.mono HB.out.size))
    have hsz : ∀ x, x ∈ [sC] → x.size ≤ maxLen := fun x hx => by rw [List.mem_singleton.1 hx]; exact small_max (by decide)
    obtain ⟨a6, b6, c6, rfl, ha6, hst6⟩ := own_arg ho hsz
    have b3 : Below w2.heap.size w2 (w2.alloc (.cells #[.string ⟨#[99]⟩] 9)) := (Below.refl _ _).alloc (Nat.le_refl _) _
    have n3 := heap_alloc_new w2 (.cells #[.string ⟨#[99]⟩] 9)
    have s3 : StrsAt (w2.alloc (.cells #[.string ⟨#[99]⟩] 9)) w2.heap.size 0 [sC] := ⟨fun _ => by simp, fun j hj => by
      rw [Lib.cell_of_heap n3]
      match j, hj with
      | 0, _ => rfl, fun j hj => hsz _ (List.getElem_mem hj)⟩
    have HEQ := Lib.hid (equal_any b6 0 c6 w2.heap.size 0 1 a6 (some ⟨w2.heap.size, 0, none⟩) [sC] [sC] _ ha6 (hst6.later b3) (by decide) (fun _ => rfl) s3 (by decide))
    rw [show (decide ([sC] = [sC])) = true from decide_eq_true rfl] at HEQ
    have HB3 := Lib.hid (HB2.out.trans (b3.mono HB2.out.size))
    clear hn ho hb hst6 ha6 b3 n3 s3 hsz
    go_wp2_with (first
      | (go_at_call 24; refine HEQ.out.mono ?_; rintro e w4 ⟨rfl, hb4⟩; have HB4 := Lib.hid (HB3.out.trans (hb4.mono HB3.out.size)); clear hb4)
      | (go_at_call 18; refine (HT.out _ (by decide)).mono ?_; clear HT; rintro e w' ⟨rfl, rfl⟩)
      | (go_at_call 18; refine (HF.out _ (by decide)).mono ?_; clear HF; rintro e w' ⟨rfl, rfl⟩))
    go_ret
    exact ⟨rfl, HB4.out⟩
end Go.Proofs.Ytlaibimdkamcfaa
