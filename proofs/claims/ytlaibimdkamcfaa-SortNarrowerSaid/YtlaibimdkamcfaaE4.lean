import Derived.Test.YtlaibimdkamcfaaD7
import Derived.Test.YtlaibimdkamcfaaB6
import Derived.Test.YtlaibimdkamcfaaShelf
import Derived.Lib.OwnBridge
import Derived.Sort.Lot0
import Derived.Laws.AppendOwn
section
/-
  What openClasses returns, as an algebra that answers for the list of classes.
-/
namespace Go.Proofs.Ytlaibimdkamcfaa
open Go.RowKit Go.Maps

/-- A word out of a row of values. -/
def wordV (ws : List Value) (j : Nat) : Nat :=
  match ws[j]? with
  | some (.int .u64 v) => v.toNat % 18446744073709551616
  | _ => 0

theorem wordV_lt (ws : List Value) (j : Nat) : wordV ws j < 18446744073709551616 := by
  unfold wordV
  split
  · exact Nat.mod_lt _ (by decide)
  · decide

theorem wordV_eq {ws : List Value} {j f : Nat} (h : ws[j]? = some (.int .u64 f)) (hf : f < 18446744073709551616) : wordV ws j = f := by
  unfold wordV
  rw [h]
  show (f : Int).toNat % _ = f
  rw [Int.toNat_natCast, Nat.mod_eq_of_lt hf]

/-- The algebra of a list of classes without an error. -/
noncomputable def algOf (cs : List Cls) (ws : List Value) (hO : openErr cs = 0) : Alg where
  n := cs.length
  known := knownB cs
  idx := idxOfC cs
  word := fun i k => wordV ws (i * 5 + k)
  lt := fun _ h => idx_lt h
  most := open_le hO
  small := fun _ _ => wordV_lt _ _

theorem own_get5 {W : World} {base e n g cap : Nat} {l : List Value} (h : W.ownsRow base e 5 (.slice (some ⟨g, 0, none⟩) n cap) n l) {k : Nat} {u : Value} (hk : k < n * 5) (hu : l[k]? = some u) : W.cell? ⟨g, k, none⟩ = some u := by
  rcases h.2 with ⟨h0, _⟩ | ⟨g', cap', cur, hv, _, hg, _, _, _, ht⟩
  · cases h0
  · cases hv
    rw [Lib.cell_of_heap hg]
    rw [← ht, List.getElem?_take_of_lt hk] at hu
    simpa using hu

/-- What the callers of an algebra need to know. -/
structure Opened (cs : List Cls) (w W : World) (v : Value) : Prop where
  ok : openErr cs = 0
  alg : ∃ (A : Alg) (na ua aa : Option Addr) (nl nc ul uc bc mb nm ab : Nat) (D : DataW Unit), v = .agg #[.slice na nl nc, .map (some mb), .slice ua ul uc, .slice aa A.n bc, .slice none 0 0, .map none, .map none] ∧
    AlgAt A W mb nm ab 0 D ∧ (0 < A.n → aa = some ⟨ab, 0, none⟩) ∧ mb < W.heap.size ∧ ab < W.heap.size ∧ (∀ s, A.known s = knownB cs s) ∧ (∀ x y, A.below x y = belowB cs x y)
  bel : Below w.heap.size w W

theorem below_algOf {cs : List Cls} {B G mb : Nat} {W : World} {vn vu va : Value} {D : DataW Unit} {us ws : List Value} (h : OC cs B G mb cs.length cs.length cs.length cs.length W vn vu va D us ws) (hO : openErr cs = 0) (x y : ByteArray) :
    (algOf cs ws hO).below x y = belowB cs x y := by
  unfold Alg.below
  show (knownB cs x && knownB cs y && (wordV ws (idxOfC cs x * 5 + idxOfC cs y / 64)).testBit (idxOfC cs y % 64)) = belowB cs x y
  cases hx : knownB cs x
  · unfold belowB; rw [hx]; rfl
  · cases hy : knownB cs y
    · unfold belowB; rw [hx, hy]; rfl
    · have ix := idx_lt hx
      have iy := idx_lt hy
      have hn := open_le hO
      obtain ⟨f, h1, h2, h3⟩ := h.bits (idxOfC cs x) ix (idxOfC cs y / 64) (by omega)
      have h4 := h3 (idxOfC cs y % 64) (by omega)
      rw [show idxOfC cs y / 64 * 64 + idxOfC cs y % 64 = idxOfC cs y by omega] at h4
      rw [wordV_eq h2 h1, Bool.and_self, Bool.true_and, Bool.eq_iff_iff, h4]
      exact ⟨fun h => below_mk hx hy h, fun h => (below_known h).2.2⟩

theorem openClasses_opened (cb co cc : Nat) (ca : Option Addr) (cs : List Cls) (w : World) (hca : cs ≠ [] → ca = some ⟨cb, co, none⟩) (hcs : ClassesAt w cb co cs) (hl : cs.length ≤ maxLen) :
    Calls Try.prog 41 #[.slice ca cs.length cc] w fun e w' =>
      (openErr cs ≠ 0 ∧ e = .returned (.tuple #[zeroAlg, .int .i64 (openErr cs)]) ∧ Below w.heap.size w w') ∨ (∃ v, e = .returned (.tuple #[v, .int .i64 0]) ∧ Opened cs w w' v) := by
  refine (openClasses_any cb co cc ca cs w hca hcs hl).mono fun e w' h => ?_
  rcases h with h | ⟨hO, vn, vu, va, G, mb, D, us, ws, he, hOC, hb⟩
  · exact .inl h
  · refine .inr ⟨_, he, hO, ?_, hb⟩
    obtain ⟨na, nc, rfl⟩ := own_slice hOC.names
    obtain ⟨ua, uc, rfl⟩ := own_slice hOC.sups
    have hmb : mb < w'.heap.size := by obtain ⟨es, ck, h1, _⟩ := hOC.map; exact (Array.getElem?_eq_some_iff.1 h1).1
    have hk : ∀ s : ByteArray, Maps.has D (.string s.data.toList) = knownB cs s := fun s => by
      have := hOC.has s
      rw [List.take_length] at this
      rw [Bool.eq_iff_iff, this]
      unfold knownB
      simp
    have hat : ∀ s : ByteArray, knownB cs s = true → D.atKey (.string s.data.toList) (.lit (.int .i64 0)) = .lit (.int .i64 (idxOfC cs s : Nat)) := fun s hs => by
      have := hOC.at_ s
      rw [List.take_length] at this
      exact this (by unfold knownB at hs; simpa using hs)
    rcases hOC.abv.2 with ⟨rfl, h0⟩ | ⟨g, cap, cur, rfl, hgB, hg, rest⟩
    · have e0 : Value.slice none (algOf cs ws hO).n 0 = Value.slice none 0 0 := by show Value.slice none cs.length 0 = _; rw [h0]
      exact ⟨algOf cs ws hO, na, ua, none, _, nc, _, uc, 0, mb, _, mb, D, by rw [e0], ⟨hOC.map, hk, hat, fun i hi => by have : i < cs.length := hi; omega⟩, fun h => by have : 0 < cs.length := h; omega, hmb, hmb, fun _ => rfl, below_algOf hOC hO⟩
    · refine ⟨algOf cs ws hO, na, ua, some ⟨g, 0, none⟩, _, nc, _, uc, cap, mb, _, g, D, rfl, ⟨hOC.map, hk, hat, fun i hi k hk => ?_⟩, fun _ => rfl, hmb, (Array.getElem?_eq_some_iff.1 hg).1, fun _ => rfl, below_algOf hOC hO⟩
      have hi' : i < cs.length := hi
      obtain ⟨f, h1, h2, _⟩ := hOC.bits i hi' k hk
      rw [Nat.zero_add]
      have := own_get5 hOC.abv (k := i * 5 + k) (by omega) h2
      rw [this]
      show _ = some (Value.int .u64 (wordV ws (i * 5 + k) : Nat))
      rw [wordV_eq h2 h1]
end Go.Proofs.Ytlaibimdkamcfaa
end

section
/-
  slices.Clone, SortFunc and Compact of strings, as least uses them: of any slice, a nil one too.
-/
namespace Go.Proofs.Ytlaibimdkamcfaa
open Go.RowKit Go.Maps Go.Lib Go.Sort

theorem pw_mem {α : Type} {R S : α → α → Prop} : ∀ {l : List α}, (∀ a b, a ∈ l → b ∈ l → R a b → S a b) → l.Pairwise R → l.Pairwise S
  | [], _, _ => List.Pairwise.nil
  | x :: l, h, hp => by
    rw [List.pairwise_cons] at hp ⊢
    exact ⟨fun b hb => h x b List.mem_cons_self (List.mem_cons_of_mem _ hb) (hp.1 b hb), pw_mem (fun a b ha hb => h a b (List.mem_cons_of_mem _ ha) (List.mem_cons_of_mem _ hb)) hp.2⟩

def cmpL (a b : List UInt8) : Int := compareBytes a b
theorem swo_cmpL : SWO (Go.Proofs.ltOf cmpL) where
  irrefl x := by unfold Go.Proofs.ltOf cmpL; rw [cmp_self]; decide
  trans x y z h h' := by unfold Go.Proofs.ltOf cmpL at *; simp only [decide_eq_true_eq] at *; exact cmp_trans x y z h h'
  ntrans x y z h h' := by
    unfold Go.Proofs.ltOf cmpL at *
    simp only [decide_eq_false_iff_not] at *
    intro hxz
    by_cases hxy : compareBytes y x < 0
    · exact h' (cmp_trans y x z hxy hxz)
    · have h1 := cmp_swap y x
      have := cmp_zero x y (by omega)
      subst this
      exact h' hxz

theorem conn_cmpL {x y : List UInt8} (h : ¬ cmpL x y < 0) (h' : ¬ cmpL y x < 0) : x = y := by
  have h1 := cmp_swap y x
  unfold cmpL at h h'
  exact cmp_zero x y (by omega)

/-- What Compact makes of a sorted list: the same elements, each once, ascending. -/
theorem compact_spec (zs : List (List UInt8)) (hs : ∀ i j, i < j → j < zs.length → ¬ cmpL zs.toArray[j]! zs.toArray[i]! < 0) :
    (∀ x, x ∈ compact zs ↔ x ∈ zs) ∧ (compact zs).Pairwise (fun a b => cmpL a b < 0) := by
  constructor
  · intro x
    unfold compact compactUpTo
    simp only [List.mem_map, List.mem_filter, List.mem_range]
    constructor
    · rintro ⟨j, ⟨hj, _⟩, rfl⟩
      rw [getElem!_pos zs.toArray j (by simpa using hj)]
      simp
    · intro hx
      obtain ⟨j, hj, rfl⟩ := List.getElem_of_mem hx
      have key : ∀ j, (hj : j < zs.length) → ∃ k, (k < zs.length ∧ keeps zs.toArray k = true) ∧ zs.toArray[k]! = zs.toArray[j]! := by
        intro j
        induction j with
        | zero => intro hj; exact ⟨0, ⟨hj, by simp [keeps]⟩, rfl⟩
        | succ j ih =>
          intro hj
          by_cases hk : keeps zs.toArray (j + 1) = true
          · exact ⟨j + 1, ⟨hj, hk⟩, rfl⟩
          · obtain ⟨k, hk1, hk2⟩ := ih (by omega)
            refine ⟨k, hk1, ?_⟩
            rw [hk2]
            unfold keeps at hk
            simp only [Nat.add_sub_cancel, decide_eq_true_eq] at hk
            exact Classical.byContradiction fun hne => hk (.inr fun e => hne e.symm)
      obtain ⟨k, h1, h2⟩ := key j hj
      refine ⟨k, h1, ?_⟩
      rw [h2, getElem!_pos zs.toArray j (by simpa using hj)]
      simp
  · unfold compact compactUpTo
    rw [List.pairwise_map]
    refine pw_mem (R := fun i j => i < j) ?_ (List.pairwise_lt_range.filter _)
    intro i j hi hj hij
    simp only [List.mem_filter, List.mem_range] at hi hj
    refine Classical.byContradiction fun hn => ?_
    have h1 := hs i j hij hj.1
    have e := conn_cmpL hn h1
    have hkeep := hj.2
    unfold keeps at hkeep
    simp only [decide_eq_true_eq] at hkeep
    rcases hkeep with h0 | h0
    · omega
    · by_cases hij1 : i = j - 1
      · rw [← hij1] at h0
        exact h0 e.symm
      · have h2 := hs i (j - 1) (by omega) (by omega)
        have h3 := hs (j - 1) j (by omega) hj.1
        rw [← e] at h3
        exact h0 (by rw [← e]; exact (conn_cmpL h3 h2))

/-- No later one stands ahead of an earlier one. -/
def AscL (zs : List (List UInt8)) : Prop := ∀ i j, i < j → j < zs.length → ¬ cmpL zs.toArray[j]! zs.toArray[i]! < 0

theorem enc_one : OneCell encStr := fun x => rfl

set_option maxRecDepth 100000 in
theorem cmp_lays (blk off size : Nat) (w : World) : CmpLays1 Try.prog 86 #[] encStr cmpL blk off size w := by
  intro m os dk hs x y
  refine (Try.strings_Compare ⟨x.toArray⟩ ⟨y.toArray⟩ _).mono fun e w' ⟨he, hw⟩ => ⟨he, 0, #[], ?_⟩
  rw [hw, grow_empty]
  rfl

theorem own_mono {B B' e n k : Nat} {w : World} {v : Value} {xs : List Value} (h : w.ownsRow B e k v n xs) (hB : B' ≤ B) : w.ownsRow B' e k v n xs := by
  refine ⟨h.1, ?_⟩
  rcases h.2 with h0 | ⟨g, cap, cur, rfl, hb, rest⟩
  · exact .inl h0
  · exact .inr ⟨g, cap, cur, rfl, by omega, rest⟩

theorem clone_any (b o c : Nat) (a : Option Addr) (s : List ByteArray) (w : World) (ha : s ≠ [] → a = some ⟨b, o, none⟩) (h : StrsAt w b o s) (hl : s.length ≤ 1000) :
    Calls Try.prog 32 #[.slice a s.length c] w fun e w' => ∃ v, e = .returned v ∧ w'.ownsRow w.heap.size 9 1 v s.length (s.map Value.string) ∧ Below w.heap.size w w' := by
  cases s with
  | nil =>
    cases a with
    | none => exact (Try.slices_Clone_string_nil 0 c w).mono fun e w' ⟨he, hw⟩ => ⟨_, he, by rw [hw]; exact World.ownsRow_nil _ _ _ _, by rw [hw]; exact Below.refl _ _⟩
    | some a => exact (Try.slices_Clone_string_zero a c w).mono fun e w' ⟨v, he, ho, _, hb⟩ => ⟨v, he, ho, hb⟩
  | cons x s =>
    obtain rfl := ha (by simp)
    refine (Try.slices_Clone_string b o (x :: s).length c (x :: s) w (Nat.le_refl _) (by omega) (fun j hj => ?_)).mono fun e w' ⟨v, he, ho, _, hb⟩ => ⟨v, he, ?_, hb⟩
    · rw [h.cell j hj, List.getD_eq_getElem?_getD, List.getElem?_eq_getElem hj]; rfl
    · rw [List.take_length] at ho; exact ho

def toB (l : List UInt8) : ByteArray := ⟨l.toArray⟩
theorem toB_data (x : ByteArray) : toB x.data.toList = x := by cases x; simp [toB]
theorem data_toB (l : List UInt8) : (toB l).data.toList = l := by simp [toB]
theorem map_toB (zs : List (List UInt8)) : zs.map encStr = (zs.map toB).map Value.string := by rw [List.map_map]; rfl

set_option maxRecDepth 100000 in
theorem sort_any (B : Nat) (v : Value) (s : List ByteArray) (w : World) (h : w.ownsRow B 9 1 v s.length (s.map Value.string)) (hl : s.length ≤ 1000) :
    Calls Try.prog 85 #[v, .func (.func 86) #[] #[]] w fun e w' => e = .returned (.tuple #[]) ∧ ∃ zs : List (List UInt8), zs.length = s.length ∧ w'.ownsRow B 9 1 v s.length (zs.map encStr) ∧ (∀ x, x ∈ zs ↔ toB x ∈ s) ∧ AscL zs ∧ Below B w w' := by
  by_cases h0 : s = []
  · subst h0
    obtain ⟨a, c, rfl⟩ := own_slice h
    refine (Try.slices_SortFunc_none (α := List UInt8) a c _ w).mono fun e w' ⟨he, hw⟩ => ⟨he, [], rfl, by rw [hw]; exact h, fun x => by simp, fun i j _ hj => by simp at hj, by rw [hw]; exact Below.refl _ _⟩
  · have hne : v ≠ .slice none 0 0 := by
      rintro rfl
      rcases h.2 with ⟨_, hn⟩ | ⟨g, cap, cur, hv, _⟩
      · exact h0 (List.eq_nil_of_length_eq_zero hn)
      · cases hv
    rw [← map_encStr] at h
    obtain ⟨g, cap, rfl, hBg, hlt, hcap, hmax, hlen, hH⟩ := holds_of_ownsRow h hne
    obtain ⟨dd, hdd⟩ : ∃ dd, (s.map (·.data.toList)).toArray = dd := ⟨_, rfl⟩
    have hsz : dd.size = s.length := by rw [← hdd]; simp
    have hmd : ∀ y, y ∈ dd.toList ↔ ∃ z, z ∈ s ∧ z.data.toList = y := fun y => by rw [← hdd]; simp
    rw [hdd] at hH
    clear hdd
    have hc := Try.slices_SortFunc encStr enc_one cmpL swo_cmpL 86 #[] g 0 cap dd w (fun _ _ => rfl) (cmp_lays _ _ _ _) hH hlt (by rw [hsz]; omega)
    rw [hsz] at hc
    refine hc.mono fun e w' ⟨he, d', n, os, hp, hs, hw⟩ => ⟨he, d'.toList, ?_, ?_, fun x => ?_, fun i j hij hj => ?_, ?_⟩
    · rw [Array.length_toList, hp.1, hsz]
    · rw [hw]
      have ho := ownsRow_putRow (q := n) (k := s.length) (ys := d'.toList) h (by rw [Array.length_toList, hp.1, hsz]) (Nat.le_refl _)
      rw [List.take_of_length_le (by rw [Array.length_toList, hp.1, hsz]; exact Nat.le_refl _), Array.toArray_toList] at ho
      refine ⟨ho.1, ?_⟩
      rcases ho.2 with hh | ⟨g', cap', cur, hv, hb, hg, rest⟩
      · exact .inl hh
      · refine .inr ⟨g', cap', cur, hv, hb, ?_, rest⟩
        unfold sortWorld
        rw [heap_grow_old _ _ (Array.getElem?_eq_some_iff.1 hg).1]
        exact hg
    · have hpm := hp.2.2
      rw [Array.extract_eq_self_of_le (by rw [hp.1, hsz]; exact Nat.le_refl _), Array.extract_eq_self_of_le (by rw [hsz]; exact Nat.le_refl _)] at hpm
      rw [hpm.mem_iff]
      rw [hmd]
      constructor
      · rintro ⟨y, hy, rfl⟩
        rw [toB_data]; exact hy
      · intro hx
        exact ⟨_, hx, data_toB x⟩
    · have := hs i j (Nat.zero_le _) hij (by rw [Array.length_toList, hp.1, hsz] at hj; exact hj)
      unfold Go.Proofs.ltOf at this
      simp only [decide_eq_false_iff_not] at this
      rw [Array.toArray_toList]
      exact this
    · rw [hw]
      unfold sortWorld
      refine (below_putRow (q := n) (Below.refl B w) hBg).trans ⟨rfl, rfl, rfl, by simp, fun k hk => heap_grow_old _ _ ?_⟩
      simp [putRow, mapBlock, Sort.ahead]
      omega

set_option maxRecDepth 100000 in
theorem compact_any (B : Nat) (v : Value) (zs : List (List UInt8)) (w : World) (h : w.ownsRow B 9 1 v zs.length (zs.map encStr)) (hl : zs.length ≤ 1000) (hs : AscL zs) :
    Calls Try.prog 87 #[v] w fun e w' => ∃ (v' : Value) (r : List ByteArray), e = .returned v' ∧ w'.ownsRow B 9 1 v' r.length (r.map Value.string) ∧ (∀ x, x ∈ r ↔ x.data.toList ∈ zs) ∧ r.Pairwise ltS ∧ r.length ≤ zs.length ∧ Below B w w' := by
  by_cases h0 : zs = []
  · subst h0
    obtain ⟨a, c, rfl⟩ := own_slice h
    exact (Try.slices_Compact_string_empty a c w).mono fun e w' ⟨he, hw⟩ => ⟨_, [], he, by rw [hw]; exact h, fun x => by simp, List.Pairwise.nil, Nat.le_refl _, by rw [hw]; exact Below.refl _ _⟩
  · have hne : v ≠ .slice none 0 0 := by
      rintro rfl
      rcases h.2 with ⟨_, hn⟩ | ⟨g, cap, cur, hv, _⟩
      · exact h0 (List.eq_nil_of_length_eq_zero hn)
      · cases hv
    obtain ⟨g, cap, rfl, hBg, hlt, hcap, hmax, hlen, hH⟩ := holds_of_ownsRow h hne
    obtain ⟨hm, hp⟩ := compact_spec zs hs
    have hle := compact_length_le zs
    refine (Try.slices_Compact_string g 0 cap zs w hH (by omega) hcap).mono fun e w' ⟨he, q, hw⟩ => ⟨_, (compact zs).map toB, he, ?_, fun x => ?_, ?_, by rw [List.length_map]; exact hle, ?_⟩
    · rw [hw, List.length_map]
      have ho := ownsRow_putRow (q := q) (k := (compact zs).length) (ys := compact zs ++ List.replicate (zs.length - (compact zs).length) []) h (by simp; omega) hle
      rw [List.take_left, map_toB] at ho
      exact ho
    · rw [List.mem_map]
      constructor
      · rintro ⟨y, hy, rfl⟩
        rw [data_toB]; exact (hm y).1 hy
      · intro hx
        exact ⟨_, (hm _).2 hx, toB_data x⟩
    · rw [List.pairwise_map]
      refine pw_mem (fun a b _ _ hab => ?_) hp
      unfold ltS cmpS
      rw [data_toB, data_toB]
      exact hab
    · rw [hw]
      exact below_putRow (Below.refl B w) hBg
end Go.Proofs.Ytlaibimdkamcfaa
end

section
/-
  Algebra.least, Normal and Meet.
-/
namespace Go.Proofs.Ytlaibimdkamcfaa
open Go.RowKit Go.Maps

/-- Is a class kept by least? -/
def keptB (A : Alg) (all : List ByteArray) (c : ByteArray) : Bool := !(all.any fun d => !(d.toList == c.toList) && A.below d c)

theorem keptB_iff {A : Alg} {all : List ByteArray} {c : ByteArray} : keptB A all c = true ↔ ∀ d, d ∈ all → A.below d c = true → d = c := by
  unfold keptB
  rw [Bool.not_eq_true', ← Bool.not_eq_true, List.any_eq_true]
  constructor
  · intro h d hd hb
    refine Classical.byContradiction fun hne => h ⟨d, hd, ?_⟩
    rw [toList_beq, decide_eq_false hne, hb]; rfl
  · rintro h ⟨d, hd, hb⟩
    rw [toList_beq, Bool.and_eq_true, Bool.not_eq_true', decide_eq_false_iff_not] at hb
    exact hb.1 (h d hd hb.2)

theorem normal_of {A : Alg} {s all : List ByteArray} (hm : ∀ x, x ∈ all ↔ x ∈ s) (ha : all.Pairwise ltS) (hl : all.length ≤ s.length) : IsNormalOf ltS A.below s (all.filter (keptB A all)) := by
  refine ⟨ha.filter _, fun c => ?_, Nat.le_trans (List.length_filter_le _ _) hl⟩
  rw [List.mem_filter, keptB_iff, hm]
  exact ⟨fun ⟨h1, h2⟩ => ⟨h1, fun d hd hb => h2 d ((hm d).2 hd) hb⟩, fun ⟨h1, h2⟩ => ⟨h1, fun d hd hb => h2 d ((hm d).1 hd) hb⟩⟩

theorem strs_of_own {W : World} {B n g cap : Nat} {l : List ByteArray} (h : W.ownsRow B 9 1 (.slice (some ⟨g, 0, none⟩) n cap) n (l.map Value.string)) (hs : ∀ x, x ∈ l → x.size ≤ maxLen) : StrsAt W g 0 l := by
  have hl : l.length = n := by have := h.1; simpa using this
  obtain ⟨cur, hg⟩ := own_block h
  refine ⟨fun _ => (Array.getElem?_eq_some_iff.1 hg).1, fun i hi => ?_, fun i hi => hs _ (List.getElem_mem hi)⟩
  rw [Nat.zero_add]
  exact own_get h (by omega) (by simp [hi])

/-- A slice of strings that owns them, as an argument. -/
theorem own_arg {W : World} {B n : Nat} {v : Value} {l : List ByteArray} (h : W.ownsRow B 9 1 v n (l.map Value.string)) (hs : ∀ x, x ∈ l → x.size ≤ maxLen) : ∃ (a : Option Addr) (b c : Nat), v = .slice a l.length c ∧ (l ≠ [] → a = some ⟨b, 0, none⟩) ∧ StrsAt W b 0 l := by
  have hl : l.length = n := by have := h.1; simpa using this
  rcases h.2 with ⟨rfl, h0⟩ | ⟨g, cap, cur, rfl, hb, hg, rest⟩
  · have : l = [] := List.eq_nil_of_length_eq_zero (by omega)
    subst this
    exact ⟨none, 0, 0, rfl, fun h => absurd rfl h, fun h => absurd rfl h, fun i hi => by simp at hi, fun i hi => by simp at hi⟩
  · subst hl
    exact ⟨_, g, cap, rfl, fun _ => rfl, strs_of_own h hs⟩

theorem Try.info9' : (Try.prog.info? 9).map (fun i => (i.zero, i.size, i.bytes)) = some (some (.string ByteArray.empty), 1, 16) := by kernel_rfl

set_option maxRecDepth 100000 in
set_option maxHeartbeats 2000000 in
theorem least_any (A : Alg) (na ua aa ta : Option Addr) (nl nc ul uc bc tl tc mb nm ab ao : Nat) (tm sm : Option Nat) (D : DataW Unit) (xb xo xc : Nat) (xa : Option Addr) (s : List ByteArray) (w : World) (h : AlgAt A w mb nm ab ao D) (haa : 0 < A.n → aa = some ⟨ab, ao, none⟩) (hm : mb < w.heap.size) (ha : ab < w.heap.size)
    (hxa : s ≠ [] → xa = some ⟨xb, xo, none⟩) (hx : StrsAt w xb xo s) (hl : s.length ≤ 1000) :
    Calls Try.prog 75 #[.agg #[.slice na nl nc, .map (some mb), .slice ua ul uc, .slice aa A.n bc, .slice ta tl tc, .map tm, .map sm], .slice xa s.length xc] w fun e w' => ∃ (v : Value) (r : List ByteArray), e = .returned v ∧ IsNormalOf ltS A.below s r ∧ w'.ownsRow w.heap.size 9 1 v r.length (r.map Value.string) ∧ Below w.heap.size w w' := by
  have HX := Lib.hid hx
  have HXA := Lib.hid hxa
  have HA := Lib.hid h
  have HAA := Lib.hid haa
  clear h hx hxa haa
  go_enter Try.func75, Try.ntmps75
  have hb0 : Below w.heap.size w (w.alloc (.cells #[.slice na nl nc, .map (some mb), .slice ua ul uc, .slice aa A.n bc, .slice ta tl tc, .map tm, .map sm] 70)) := (Below.refl _ w).alloc (Nat.le_refl _) _
  have hc0 := heap_alloc_new w (.cells #[.slice na nl nc, .map (some mb), .slice ua ul uc, .slice aa A.n bc, .slice ta tl tc, .map tm, .map sm] 70)
  have hs0 : (w.alloc (.cells #[.slice na nl nc, .map (some mb), .slice ua ul uc, .slice aa A.n bc, .slice ta tl tc, .map tm, .map sm] 70)).heap.size = w.heap.size + 1 := by simp
  obtain ⟨w1, hw1⟩ : ∃ q, w.alloc (.cells #[.slice na nl nc, .map (some mb), .slice ua ul uc, .slice aa A.n bc, .slice ta tl tc, .map tm, .map sm] 70) = q := ⟨_, rfl⟩
  rw [hw1] at hb0 hc0 hs0
  have HW1 := Lib.hid hw1
  have HB0 := Lib.hid hb0
  have HC0 := Lib.hid hc0
  have HS0 := Lib.hid hs0
  clear hb0 hc0 hs0 hw1
  go_wp2_with fail
  rw [HW1.out]
  refine (clone_any xb xo xc xa s w1 HXA.out (HX.out.later HB0.out) hl).mono ?_
  rintro e w2 ⟨v2, rfl, ho2, hb2⟩
  have HB2 := Lib.hid hb2
  have HO2 := Lib.hid ho2
  obtain ⟨a2, c2, rfl⟩ := own_slice ho2
  clear ho2 hb2
  go_wp2_with fail
  refine (sort_any w1.heap.size _ s w2 HO2.out hl).mono ?_
  rintro e w3 ⟨rfl, zs, hzl, ho3, hmem, hso, hb3⟩
  have HB3 := Lib.hid hb3
  rw [← hzl] at ho3
  have HO3 := Lib.hid ho3
  have HSO := Lib.hid hso
  have HMEM := Lib.hid hmem
  have HZL := Lib.hid hzl
  clear ho3 hb3 hso hmem hzl
  go_wp2_with fail
  rw [← HZL.out]
  refine (compact_any w1.heap.size _ zs w3 (HO3.out) (by rw [HZL.out]; exact hl) HSO.out).mono ?_
  rintro e w4 ⟨v4, all, rfl, ho4, hm4, hp4, hl4, hb4⟩
  have hma : ∀ x, x ∈ all ↔ x ∈ s := fun x => by rw [hm4, HMEM.out, toB_data]
  have hsz4 : ∀ x, x ∈ all → x.size ≤ maxLen := fun x hx => by
    obtain ⟨i, hi, rfl⟩ := List.getElem_of_mem ((hma x).1 hx)
    exact HX.out.size i hi
  obtain ⟨a4, b4, c4, rfl, ha4, hst4⟩ := own_arg ho4 hsz4
  have hN := normal_of (A := A) hma hp4 (by rw [← HZL.out]; exact hl4)
  have hall : all.length ≤ 1000 := by rw [HZL.out] at hl4; omega
  have hb14 : Below w1.heap.size w1 w4 := (HB2.out.trans (HB3.out.mono (Nat.le_refl _))).trans hb4
  have HB14 := Lib.hid hb14
  have HB04 := Lib.hid (HB0.out.trans (hb14.mono HB0.out.size))
  have HST4 := Lib.hid hst4
  have HA4 := Lib.hid ha4
  have HNN := Lib.hid hN
  have HSZ4 := Lib.hid hsz4
  have hc4 := (hb14.block w.heap.size (by rw [HS0.out]; omega)).trans HC0.out
  have HC4 := Lib.hid hc4
  have HG4 := Lib.hid (show w.heap.size < w4.heap.size from by have := HS0.out; have := hb14.size; omega)
  clear ho4 hm4 hp4 hl4 hb4 hma hsz4 hst4 ha4 hN hb14 hc4
  obtain ⟨i9, hi9, hx0, hx1, hxb⟩ := info_parts Try.info9'
  have HW := Lib.hid (show w.heap.size ≤ w1.heap.size from by have := HS0.out; omega)
  have HW14 := Lib.hid HB14.out.size
  obtain ⟨ga, hga⟩ : ∃ q, w.heap.size = q := ⟨_, rfl⟩
  rw [hga] at HC4 HG4
  have HGA := Lib.hid hga
  clear hga
  go_wp2_with fail
  rw [HGA.out]
  go_loopw [6, 17] (fun t q wr => ∃ i : Nat, q = .int .i64 i ∧ i ≤ all.length ∧ wr.ownsRow w4.heap.size 9 1 t ((all.take i).filter (keptB A all)).length (((all.take i).filter (keptB A all)).map Value.string) ∧ Below w4.heap.size w4 wr) (fun _ q _ => all.length - (intOf q).toNat)
  case atStart => exact ⟨0, rfl, Nat.zero_le _, World.ownsRow_nil _ _ _ _, Below.refl _ _⟩
  case round =>
    obtain ⟨i, rfl, hi, ho, hb⟩ := hrel
    have HO := Lib.hid ho
    have HB := Lib.hid hb
    clear ho hb
    by_cases hlt : i < all.length
    · have e := HA4.out (by intro e; subst e; simp at hlt)
      subst e
      have hc := (HST4.out.later HB.out).cell i hlt
      rw [Nat.zero_add] at hc
      have h3 : Below wr.heap.size wr (wr.alloc (.cells #[.string all[i]] 9)) := (Below.refl _ wr).alloc (Nat.le_refl _) _
      have hn3 := heap_alloc_new wr (.cells #[.string all[i]] 9)
      have hc3 : (wr.alloc (.cells #[.string all[i]] 9)).cell? ⟨wr.heap.size, 0, none⟩ = some (.string all[i]) := by rw [Lib.cell_of_heap hn3]; rfl
      have hs3 : (wr.alloc (.cells #[.string all[i]] 9)).heap.size = wr.heap.size + 1 := by simp
      obtain ⟨w5, hw5⟩ : ∃ q, wr.alloc (.cells #[.string all[i]] 9) = q := ⟨_, rfl⟩
      have HO5 := Lib.hid (HO.out.alloc (.cells #[.string all[i]] 9))
      rw [hw5] at h3 hn3 hc3 hs3 HO5
      have HW5 := Lib.hid hw5
      have H3 := Lib.hid h3
      have HC3 := Lib.hid hc3
      have HS3 := Lib.hid hs3
      clear h3 hn3 hc3 hs3 hw5
      have H45 := Lib.hid (HB.out.trans (H3.out.mono HB.out.size))
      have H05 := Lib.hid (HB04.out.trans (H45.out.mono HB04.out.size))
      have HK := Lib.hid (containsFunc_any b4 0 c4 88 (some ⟨b4, 0, none⟩) #[.pointer (some ⟨wr.heap.size, 0, none⟩), .pointer (some ⟨ga, 0, none⟩)] (fun d => !(d.toList == all[i].toList) && A.below d all[i]) all w5 (fun _ => rfl) (HST4.out.later H45.out) (by unfold maxLen; omega)
        (asks_under A na ua aa ta nl nc ul uc bc tl tc mb nm ab ao tm sm D ga wr.heap.size all[i] w5 (HA.out.below H05.out hm ha) HAA.out (Nat.lt_of_lt_of_le hm H05.out.size) (Nat.lt_of_lt_of_le ha H05.out.size) (Nat.lt_of_lt_of_le HG4.out H45.out.size) (by rw [HS3.out]; omega) ((H45.out.block ga HG4.out).trans HC4.out) HC3.out (HSZ4.out _ (List.getElem_mem hlt)))
        (fun _ _ => rfl))
      have htk : (all.take (i + 1)).filter (keptB A all) = (all.take i).filter (keptB A all) ++ (if keptB A all all[i] = true then [all[i]] else []) := by
        rw [← List.take_append_getElem hlt, List.filter_append]
        congr 1
        cases hk : keptB A all all[i]
        · rw [List.filter_cons_of_neg (by simp [hk])]; rfl
        · rw [List.filter_cons_of_pos hk]; rfl
      have hkb : keptB A all all[i] = !(all.any fun d => !(d.toList == all[i].toList) && A.below d all[i]) := rfl
      have HTK := Lib.hid htk
      have HKB := Lib.hid hkb
      clear htk hkb
      have hlf : ((all.take i).filter (keptB A all)).length ≤ i := Nat.le_trans (List.length_filter_le _ _) (List.length_take_le _ _)
      go_wp2_with fail
      rw [HW5.out]
      refine HK.out.mono ?_
      rintro e w6 ⟨rfl, hb6⟩
      have H46 := Lib.hid (H45.out.trans (hb6.mono H45.out.size))
      have hc6 := (hb6.cell (p := ⟨wr.heap.size, 0, none⟩) (by rw [HS3.out]; show wr.heap.size < _; omega)).trans HC3.out
      have HO6 := Lib.hid ((KeepT.below 0 hb6).own (by decide) HO5.out)
      have HS6 := Lib.hid hb6.size
      clear hb6 hc
      cases hany : all.any fun d => !(d.toList == all[i].toList) && A.below d all[i] with
      | true =>
        have hnk : keptB A all all[i] = false := by rw [HKB.out, hany]; rfl
        have HNK := Lib.hid hnk
        clear hany hnk
        go_wp2_with fail
        refine ⟨⟨i + 1, by simp only [Int.natCast_add, Int.natCast_one], by omega, ?_, H46.out⟩, ?_⟩
        · rw [HTK.out, HNK.out]
          simpa using HO6.out
        · show all.length - ((i : Int) + 1).toNat < all.length - ((i : Nat) : Int).toNat
          omega
      | false =>
        have hnk : keptB A all all[i] = true := by rw [HKB.out, hany]; rfl
        have HNK := Lib.hid hnk
        clear hany hnk
        go_wp2_with (at_builtin; refine wpList_append_own _ rfl _ _ 27 rfl w4.heap.size 9 i9 (.string ByteArray.empty) 1 16 Try.underlying27 hi9 hx0 hx1 hxb rfl (by decide) _ _ _ rfl (HO6.out.alloc _) ⟨w6.heap.size, 0, none⟩ 1 1 [.string all[i]] rfl rfl (cell_one_new _ _ _) (by simp [Value.oneCell']) (by unfold maxLen; omega) (by omega) (by have := H46.out.size; simp; omega) ?_; intro v' w7 hown7 hgrow7 _)
        have hb7 : Below w4.heap.size w6 w7 := ((Below.refl w4.heap.size w6).alloc H46.out.size _).grown hgrow7 (by have := H46.out.size; simp; omega) (fun q e => (HO6.out.lt q e).1)
        refine ⟨⟨i + 1, by simp only [Int.natCast_add, Int.natCast_one], by omega, ?_, H46.out.trans hb7⟩, ?_⟩
        · rw [HTK.out, HNK.out, if_pos rfl, List.map_append, List.length_append]
          exact hown7
        · show all.length - ((i : Int) + 1).toNat < all.length - ((i : Nat) : Int).toNat
          omega
    · have ht : all.take i = all := List.take_of_length_le (by omega)
      have ho := HO.out
      rw [ht] at ho
      have HO2 := Lib.hid ho
      clear ho ht
      obtain ⟨a6, c6, hv6⟩ := own_slice HO.out
      subst hv6
      go_wp2_with fail
      go_ret
      refine ⟨_, all.filter (keptB A all), rfl, HNN.out, own_mono HO2.out ?_, HB04.out.trans (HB.out.mono HB04.out.size)⟩
      exact Nat.le_trans HW.out HW14.out

/-- The error of a sort. -/
def sortErr (K : ByteArray → Bool) (s : List ByteArray) : Int := if 20 < s.length then 5 else if s.all K then 0 else 9

theorem sortErr_zero {K : ByteArray → Bool} {s : List ByteArray} (h : sortErr K s = 0) : s.length ≤ 20 ∧ ∀ c, c ∈ s → K c = true := by
  unfold sortErr at h
  split at h
  · simp at h
  · split at h
    · rename_i h1 h2
      exact ⟨by omega, fun c hc => List.all_eq_true.1 h2 c hc⟩
    · simp at h

set_option maxRecDepth 100000 in
set_option maxHeartbeats 2000000 in
theorem normal_any (A : Alg) (na ua aa ta : Option Addr) (nl nc ul uc bc tl tc mb nm ab ao : Nat) (tm sm : Option Nat) (D : DataW Unit) (xb xo xc : Nat) (xa : Option Addr) (s : List ByteArray) (w : World) (h : AlgAt A w mb nm ab ao D) (haa : 0 < A.n → aa = some ⟨ab, ao, none⟩) (hm : mb < w.heap.size) (ha : ab < w.heap.size)
    (hxa : s ≠ [] → xa = some ⟨xb, xo, none⟩) (hx : StrsAt w xb xo s) (hl : s.length ≤ 9223372036854775807) :
    Calls Try.prog 50 #[.agg #[.slice na nl nc, .map (some mb), .slice ua ul uc, .slice aa A.n bc, .slice ta tl tc, .map tm, .map sm], .slice xa s.length xc] w fun e w' =>
      ((sortErr A.known s ≠ 0 ∧ e = .returned (.tuple #[.slice none 0 0, .int .i64 (sortErr A.known s)])) ∨
       (sortErr A.known s = 0 ∧ ∃ (v : Value) (r : List ByteArray), e = .returned (.tuple #[v, .int .i64 0]) ∧ IsNormalOf ltS A.below s r ∧ w'.ownsRow w.heap.size 9 1 v r.length (r.map Value.string))) ∧ Below w.heap.size w w' := by
  have HX := Lib.hid hx
  have HXA := Lib.hid hxa
  have HA := Lib.hid h
  have HAA := Lib.hid haa
  clear h hx hxa haa
  go_enter Try.func50, Try.ntmps50
  have hb0 : Below w.heap.size w (w.alloc (.cells #[.slice na nl nc, .map (some mb), .slice ua ul uc, .slice aa A.n bc, .slice ta tl tc, .map tm, .map sm] 70)) := (Below.refl _ w).alloc (Nat.le_refl _) _
  have hc0 := heap_alloc_new w (.cells #[.slice na nl nc, .map (some mb), .slice ua ul uc, .slice aa A.n bc, .slice ta tl tc, .map tm, .map sm] 70)
  have hs0 : (w.alloc (.cells #[.slice na nl nc, .map (some mb), .slice ua ul uc, .slice aa A.n bc, .slice ta tl tc, .map tm, .map sm] 70)).heap.size = w.heap.size + 1 := by simp
  obtain ⟨w1, hw1⟩ : ∃ q, w.alloc (.cells #[.slice na nl nc, .map (some mb), .slice ua ul uc, .slice aa A.n bc, .slice ta tl tc, .map tm, .map sm] 70) = q := ⟨_, rfl⟩
  rw [hw1] at hb0 hc0 hs0
  have HW1 := Lib.hid hw1
  have HB0 := Lib.hid hb0
  have HC0 := Lib.hid hc0
  have HS0 := Lib.hid hs0
  clear hb0 hc0 hs0 hw1
  by_cases h20 : 20 < s.length
  · have he : sortErr A.known s = 5 := by unfold sortErr; rw [if_pos h20]
    have HE := Lib.hid he
    clear he
    go_wp2_with fail
    rw [HW1.out]
    go_ret2
    exact ⟨.inl ⟨by rw [HE.out]; decide, by rw [HE.out]; rfl⟩, HB0.out⟩
  · go_wp2_with fail
    rw [HW1.out]
    obtain ⟨ga, hga⟩ : ∃ q, w.heap.size = q := ⟨_, rfl⟩
    rw [hga] at HC0 HS0 ⊢
    have HGA := Lib.hid hga
    clear hga
    go_loopw [13] (fun t wr => ∃ i : Nat, t = .int .i64 i ∧ i ≤ s.length ∧ (s.take i).all A.known = true ∧ Below w1.heap.size w1 wr) (fun t _ => s.length - (intOf t).toNat)
    case atStart => exact ⟨0, rfl, Nat.zero_le _, by simp, Below.refl _ _⟩
    case round =>
      obtain ⟨i, rfl, hi, hp, hb⟩ := hrel
      have HP := Lib.hid hp
      have HB := Lib.hid hb
      have HBW := Lib.hid (HB0.out.trans (hb.mono HB0.out.size))
      obtain ⟨d0, d1, d2, d3, d4, d5, d6⟩ := alg_cells ((hb.block ga (by rw [HS0.out]; omega)).trans HC0.out)
      clear hp hb
      by_cases hlt : i < s.length
      · have e := HXA.out (by intro e; subst e; simp at hlt)
        subst e
        have hc := (HX.out.later HBW.out).cell i hlt
        have hsz := HX.out.size i hlt
        have HAr := Lib.hid (HA.out.below HBW.out hm ha)
        have HH := Lib.hid (hasClass_any na ua aa ta nl nc ul uc A.n bc tl tc mb nm tm sm D s[i] wr HAr.out.map hsz)
        rw [HAr.out.has s[i]] at HH
        have hmem := Lib.hid (List.getElem_mem hlt)
        cases hk : A.known s[i] with
        | false =>
          rw [hk] at HH
          have he : sortErr A.known s = 9 := by
            unfold sortErr
            rw [if_neg h20, if_neg]
            intro hall
            have := List.all_eq_true.1 hall _ hmem.out
            rw [hk] at this
            cases this
          have HE := Lib.hid he
          clear he hk
          go_wp2_with fail
          refine HH.out.mono ?_
          rintro e w2 ⟨rfl, hb2⟩
          go_wp2_with fail
          go_ret2
          exact ⟨.inl ⟨by rw [HE.out]; decide, by rw [HE.out]; rfl⟩, HBW.out.trans (hb2.mono HBW.out.size)⟩
        | true =>
          rw [hk] at HH
          have HK := Lib.hid hk
          clear hk
          have hts : (s.take (i + 1)).all A.known = true := by rw [← List.take_append_getElem hlt, List.all_append, HP.out, List.all_cons, HK.out]; rfl
          have HTS := Lib.hid hts
          clear hts
          go_wp2_with fail
          refine HH.out.mono ?_
          rintro e w2 ⟨rfl, hb2⟩
          go_wp2_with fail
          refine ⟨⟨i + 1, by simp only [Int.natCast_add, Int.natCast_one], by omega, HTS.out, HB.out.trans (hb2.mono HB.out.size)⟩, ?_⟩
          show s.length - ((i : Int) + 1).toNat < s.length - ((i : Nat) : Int).toNat
          omega
      · have ht : s.take i = s := List.take_of_length_le (by omega)
        have he : sortErr A.known s = 0 := by
          unfold sortErr
          rw [if_neg h20, if_pos]
          have := HP.out
          rwa [ht] at this
        have HE := Lib.hid he
        have HL := Lib.hid (least_any A na ua aa ta nl nc ul uc bc tl tc mb nm ab ao tm sm D xb xo xc xa s wr (HA.out.below HBW.out hm ha) HAA.out (Nat.lt_of_lt_of_le hm HBW.out.size) (Nat.lt_of_lt_of_le ha HBW.out.size) HXA.out (HX.out.later HBW.out) (by omega))
        clear he ht
        go_wp2_with fail
        refine HL.out.mono ?_
        rintro e w2 ⟨v, r, rfl, hn, ho, hb2⟩
        have HN := Lib.hid hn
        have HO := Lib.hid ho
        have HB2 := Lib.hid hb2
        obtain ⟨a6, c6, rfl⟩ := own_slice ho
        clear hn ho hb2
        go_wp2_with fail
        go_ret2
        exact ⟨.inr ⟨HE.out, _, r, rfl, HN.out, own_mono HO.out HBW.out.size⟩, HBW.out.trans (HB2.out.mono HBW.out.size)⟩
end Go.Proofs.Ytlaibimdkamcfaa
end

section
/-
  sort.Normal and sort.Less of a theory.
-/
namespace Go.Proofs.Ytlaibimdkamcfaa
open Go.RowKit Go.Maps

/-- The error of Normal in a theory with these classes. -/
noncomputable def normErr (cs : List Cls) (s : List ByteArray) : Int := if openErr cs = 0 then sortErr (knownB cs) s else openErr cs

/-- A theory as a value. -/
def thyV (nm : ByteArray) (ca ta ra oa ya qa : Option Addr) (cn cc tn tc rn rc on oc yn yc qn qc : Nat) : Value :=
  .agg #[.string nm, .slice ca cn cc, .slice ta tn tc, .slice ra rn rc, .slice oa on oc, .slice ya yn yc, .slice qa qn qc]

set_option maxRecDepth 100000 in
set_option maxHeartbeats 2000000 in
theorem sortNormal_any (nm : ByteArray) (ca ta ra oa ya qa : Option Addr) (cc tn tc rn rc on oc yn yc qn qc cb co : Nat) (cs : List Cls) (xb xo xc : Nat) (xa : Option Addr) (s : List ByteArray) (w : World)
    (hca : cs ≠ [] → ca = some ⟨cb, co, none⟩) (hcs : ClassesAt w cb co cs) (hcl : cs.length ≤ maxLen) (hxa : s ≠ [] → xa = some ⟨xb, xo, none⟩) (hx : StrsAt w xb xo s) (hl : s.length ≤ 9223372036854775807) :
    Calls Try.prog 20 #[.agg #[.string nm, .slice ca cs.length cc, .slice ta tn tc, .slice ra rn rc, .slice oa on oc, .slice ya yn yc, .slice qa qn qc], .slice xa s.length xc] w fun e w' =>
      ((normErr cs s ≠ 0 ∧ e = .returned (.tuple #[.slice none 0 0, .int .i64 (normErr cs s)])) ∨
       (normErr cs s = 0 ∧ ∃ (v : Value) (r : List ByteArray), e = .returned (.tuple #[v, .int .i64 0]) ∧ IsNormalOf ltS (belowB cs) s r ∧ w'.ownsRow w.heap.size 9 1 v r.length (r.map Value.string))) ∧ Below w.heap.size w w' := by
  have HX := Lib.hid hx
  have HXA := Lib.hid hxa
  have HCS := Lib.hid hcs
  have HCA := Lib.hid hca
  clear hx hxa hcs hca
  have hb0 : Below w.heap.size w (w.alloc (.cells #[.string nm, .slice ca cs.length cc, .slice ta tn tc, .slice ra rn rc, .slice oa on oc, .slice ya yn yc, .slice qa qn qc] 29)) := (Below.refl _ w).alloc (Nat.le_refl _) _
  have HB0 := Lib.hid hb0
  have HOP := Lib.hid (openClasses_opened cb co cc ca cs (w.alloc (.cells #[.string nm, .slice ca cs.length cc, .slice ta tn tc, .slice ra rn rc, .slice oa on oc, .slice ya yn yc, .slice qa qn qc] 29)) HCA.out (HCS.out.later hb0) hcl)
  clear hb0
  obtain ⟨E, hEE⟩ : ∃ E, normErr cs s = E := ⟨_, rfl⟩
  rw [hEE]
  have HEE := Lib.hid hEE
  clear hEE
  go_enter Try.func20, Try.ntmps20
  go_wp2_with fail
  generalize (w.alloc (.cells #[.string nm, .slice ca cs.length cc, .slice ta tn tc, .slice ra rn rc, .slice oa on oc, .slice ya yn yc, .slice qa qn qc] 29)) = w1 at *
  refine HOP.out.mono ?_
  rintro e w2 (⟨hE, rfl, hb2⟩ | ⟨v, rfl, hop⟩)
  · have hn : normErr cs s = openErr cs := by unfold normErr; rw [if_neg hE]
    have hE1 : (openErr cs == 0) = false := by simpa using hE
    have hE2 : (openErr cs != 0) = true := by simpa using hE
    have hEO : openErr cs = E := by rw [← hn]; exact HEE.out
    have HB2 := Lib.hid (HB0.out.trans (hb2.mono HB0.out.size))
    unfold zeroAlg
    rw [hEO] at hE1 hE2 hE ⊢
    have HNE := Lib.hid hE
    clear hn hE hb2 hEO
    have hb3 : Below w2.heap.size w2 (w2.alloc (.cells #[.slice none 0 0, .map none, .slice none 0 0, .slice none 0 0, .slice none 0 0, .map none, .map none] 70)) := (Below.refl _ _).alloc (Nat.le_refl _) _
    have HB3 := Lib.hid hb3
    clear hb3
    go_wp2_with fail
    go_ret2
    exact ⟨.inl ⟨HNE.out, rfl⟩, HB2.out.trans (HB3.out.mono HB2.out.size)⟩
  · obtain ⟨hO, ⟨A, na, ua, aa, nl, nc, ul, uc, bc, mb, nm', ab, D, rfl, hat, haa, hmb, hab, hk, hbl⟩, hb2⟩ := hop
    have hn : normErr cs s = sortErr (knownB cs) s := by unfold normErr; rw [if_pos hO]
    have hkk : A.known = knownB cs := funext hk
    have hbe : A.below = belowB cs := funext fun x => funext fun y => hbl x y
    have hb3 : Below w2.heap.size w2 (w2.alloc (.cells #[.slice na nl nc, .map (some mb), .slice ua ul uc, .slice aa A.n bc, .slice none 0 0, .map none, .map none] 70)) := (Below.refl _ _).alloc (Nat.le_refl _) _
    have HB03 := Lib.hid ((HB0.out.trans (hb2.mono HB0.out.size)).trans (hb3.mono (Nat.le_trans HB0.out.size hb2.size)))
    have HNO := Lib.hid (normal_any A na ua aa none nl nc ul uc bc 0 0 mb nm' ab 0 none none D xb xo xc xa s _ (hat.below hb3 hmb hab) haa (Nat.lt_of_lt_of_le hmb hb3.size) (Nat.lt_of_lt_of_le hab hb3.size) HXA.out (HX.out.later HB03.out) hl)
    rw [hkk, ← hn, hbe] at HNO
    rw [HEE.out] at HNO
    have HWS := Lib.hid HB03.out.size
    clear hn hbe hkk hb3 hb2 hO hat haa hmb hab hk hbl
    go_wp2_with fail
    generalize (w2.alloc (.cells #[.slice na nl nc, .map (some mb), .slice ua ul uc, .slice aa A.n bc, .slice none 0 0, .map none, .map none] 70)) = w3 at *
    refine HNO.out.mono ?_
    rintro e w4 ⟨(⟨hE, rfl⟩ | ⟨hE, v, r, rfl, hn, ho⟩), hb4⟩
    · have HE := Lib.hid hE
      have HB4 := Lib.hid hb4
      clear hE hb4
      go_wp2_with fail
      go_ret2
      exact ⟨.inl ⟨HE.out, rfl⟩, HB03.out.trans (HB4.out.mono HWS.out)⟩
    · have HE := Lib.hid hE
      have HB4 := Lib.hid hb4
      have HN := Lib.hid hn
      have HO := Lib.hid ho
      obtain ⟨a6, c6, rfl⟩ := own_slice ho
      clear hE hb4 hn ho
      go_wp2_with fail
      go_ret2
      exact ⟨.inr ⟨HE.out, _, r, rfl, HN.out, own_mono HO.out HWS.out⟩, HB03.out.trans (HB4.out.mono HWS.out)⟩

set_option maxRecDepth 100000 in
set_option maxHeartbeats 2000000 in
theorem sortLess_any (nm : ByteArray) (ca ta ra oa ya qa : Option Addr) (cc tn tc rn rc on oc yn yc qn qc cb co : Nat) (cs : List Cls) (xb xo xc yb yo zc : Nat) (xa za : Option Addr) (x y : List ByteArray) (w : World)
    (hca : cs ≠ [] → ca = some ⟨cb, co, none⟩) (hcs : ClassesAt w cb co cs) (hcl : cs.length ≤ maxLen) (hxa : x ≠ [] → xa = some ⟨xb, xo, none⟩) (hx : StrsAt w xb xo x) (hlx : x.length ≤ maxLen)
    (hya : y ≠ [] → za = some ⟨yb, yo, none⟩) (hy : StrsAt w yb yo y) (hly : y.length ≤ maxLen) (hO : openErr cs = 0) :
    Calls Try.prog 16 #[.agg #[.string nm, .slice ca cs.length cc, .slice ta tn tc, .slice ra rn rc, .slice oa on oc, .slice ya yn yc, .slice qa qn qc], .slice xa x.length xc, .slice za y.length zc] w fun e w' =>
      e = .returned (.bool (lessB (knownB cs) (belowB cs) x y)) ∧ Below w.heap.size w w' := by
  have HX := Lib.hid hx
  have HXA := Lib.hid hxa
  have HY := Lib.hid hy
  have HYA := Lib.hid hya
  have HCS := Lib.hid hcs
  have HCA := Lib.hid hca
  have HO := Lib.hid hO
  clear hx hxa hcs hca hO hy hya
  have hb0 : Below w.heap.size w (w.alloc (.cells #[.string nm, .slice ca cs.length cc, .slice ta tn tc, .slice ra rn rc, .slice oa on oc, .slice ya yn yc, .slice qa qn qc] 29)) := (Below.refl _ w).alloc (Nat.le_refl _) _
  have HB0 := Lib.hid hb0
  have HOP := Lib.hid (openClasses_opened cb co cc ca cs (w.alloc (.cells #[.string nm, .slice ca cs.length cc, .slice ta tn tc, .slice ra rn rc, .slice oa on oc, .slice ya yn yc, .slice qa qn qc] 29)) HCA.out (HCS.out.later hb0) hcl)
  clear hb0
  obtain ⟨E, hEE⟩ : ∃ E, lessB (knownB cs) (belowB cs) x y = E := ⟨_, rfl⟩
  rw [hEE]
  have HEE := Lib.hid hEE
  clear hEE
  go_enter Try.func16, Try.ntmps16
  go_wp2_with fail
  generalize (w.alloc (.cells #[.string nm, .slice ca cs.length cc, .slice ta tn tc, .slice ra rn rc, .slice oa on oc, .slice ya yn yc, .slice qa qn qc] 29)) = w1 at *
  refine HOP.out.mono ?_
  rintro e w2 (⟨hE, rfl, hb2⟩ | ⟨v, rfl, hop⟩)
  · exact absurd HO.out hE
  · obtain ⟨_, ⟨A, na, ua, aa, nl, nc, ul, uc, bc, mb, nm', ab, D, rfl, hat, haa, hmb, hab, hk, hbl⟩, hb2⟩ := hop
    have hkk : A.known = knownB cs := funext hk
    have hbe : A.below = belowB cs := funext fun x => funext fun y => hbl x y
    have hb3 : Below w2.heap.size w2 (w2.alloc (.cells #[.slice na nl nc, .map (some mb), .slice ua ul uc, .slice aa A.n bc, .slice none 0 0, .map none, .map none] 70)) := (Below.refl _ _).alloc (Nat.le_refl _) _
    have HB03 := Lib.hid ((HB0.out.trans (hb2.mono HB0.out.size)).trans (hb3.mono (Nat.le_trans HB0.out.size hb2.size)))
    have HNO := Lib.hid (less_any A na ua aa none nl nc ul uc bc 0 0 mb nm' ab 0 none none D xb xo xc yb yo zc xa za x y _ (hat.below hb3 hmb hab) haa (Nat.lt_of_lt_of_le hmb hb3.size) (Nat.lt_of_lt_of_le hab hb3.size) HXA.out HYA.out (HX.out.later HB03.out) (HY.out.later HB03.out) hlx hly)
    have hls : (x.all A.known && y.all fun c => x.any fun d => A.below d c) = lessB (knownB cs) (belowB cs) x y := by rw [hkk, hbe]; rfl
    rw [hls, HEE.out] at HNO
    have HWS := Lib.hid HB03.out.size
    clear hls hbe hkk hb3 hb2 hat haa hmb hab hk hbl
    go_wp2_with fail
    generalize (w2.alloc (.cells #[.slice na nl nc, .map (some mb), .slice ua ul uc, .slice aa A.n bc, .slice none 0 0, .map none, .map none] 70)) = w3 at *
    refine HNO.out.mono ?_
    rintro e w4 ⟨rfl, hb4⟩
    have HB4 := Lib.hid hb4
    clear hb4
    go_wp2_with fail
    go_ret
    exact ⟨rfl, HB03.out.trans (HB4.out.mono HWS.out)⟩
end Go.Proofs.Ytlaibimdkamcfaa
end

