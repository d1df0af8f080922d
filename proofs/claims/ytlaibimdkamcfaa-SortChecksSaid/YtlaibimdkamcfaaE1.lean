/-
  What openClasses returns, as an algebra that answers for the list of classes.
-/
import Derived.Test.YtlaibimdkamcfaaD7
import Derived.Test.YtlaibimdkamcfaaB6
namespace Go.Proofs.Ytlaibimdkamcfaa
open Go.RowKit Go.Maps

/-- A word out of a row of values. -/
def wordV (ws : List Value) (j : Nat) : Nat :=
  match ws[j]? with
  | some (.int .u64 v) => v.toNat % 18446744073709551616
  | _ => 0

theorem wordV_lt (ws : List Value) (j : Nat) : wordV ws j < 18446744073709551616 := by
  unfold wordV
  split
  · exact Nat.mod_lt _ (by decide)
  · decide

theorem wordV_eq {ws : List Value} {j f : Nat} (h : ws[j]? = some (.int .u64 f)) (hf : f < 18446744073709551616) : wordV ws j = f := by
  unfold wordV
  rw [h]
  show (f : Int).toNat % _ = f
  rw [Int.toNat_natCast, Nat.mod_eq_of_lt hf]

/-- The algebra of a list of classes without an error. -/
noncomputable def algOf (cs : List Cls) (ws : List Value) (hO : openErr cs = 0) : Alg where
  n := cs.length
  known := knownB cs
  idx := idxOfC cs
  word := fun i k => wordV ws (i * 5 + k)
  lt := fun _ h => idx_lt h
  most := open_le hO
  small := fun _ _ => wordV_lt _ _

theorem own_get5 {W : World} {base e n g cap : Nat} {l : List Value} (h : W.ownsRow base e 5 (.slice (some ⟨g, 0, none⟩) n cap) n l) {k : Nat} {u : Value} (hk : k < n * 5) (hu : l[k]? = some u) : W.cell? ⟨g, k, none⟩ = some u := by
  rcases h.2 with ⟨h0, _⟩ | ⟨g', cap', cur, hv, _, hg, _, _, _, ht⟩
  · cases h0
  · cases hv
    rw [Lib.cell_of_heap hg]
    rw [← ht, List.getElem?_take_of_lt hk] at hu
    simpa using hu

/-- What the callers of an algebra need to know. -/
structure Opened (cs : List Cls) (w W : World) (v : Value) : Prop where
  ok : openErr cs = 0
  alg : ∃ (A : Alg) (na ua aa : Option Addr) (nl nc ul uc bc mb nm ab : Nat) (D : DataW Unit), v = .agg #[.slice na nl nc, .map (some mb), .slice ua ul uc, .slice aa A.n bc, .slice none 0 0, .map none, .map none] ∧
    AlgAt A W mb nm ab 0 D ∧ (0 < A.n → aa = some ⟨ab, 0, none⟩) ∧ mb < W.heap.size ∧ ab < W.heap.size ∧ (∀ s, A.known s = knownB cs s) ∧ (∀ x y, A.below x y = belowB cs x y)
  bel : Below w.heap.size w W

theorem below_algOf {cs : List Cls} {B G mb : Nat} {W : World} {vn vu va : Value} {D : DataW Unit} {us ws : List Value} (h : OC cs B G mb cs.length cs.length cs.length cs.length W vn vu va D us ws) (hO : openErr cs = 0) (x y : ByteArray) :
    (algOf cs ws hO).below x y = belowB cs x y := by
  unfold Alg.below
  show (knownB cs x && knownB cs y && (wordV ws (idxOfC cs x * 5 + idxOfC cs y / 64)).testBit (idxOfC cs y % 64)) = belowB cs x y
  cases hx : knownB cs x
  · unfold belowB; rw [hx]; rfl
  · cases hy : knownB cs y
    · unfold belowB; rw [hx, hy]; rfl
    · have ix := idx_lt hx
      have iy := idx_lt hy
      have hn := open_le hO
      obtain ⟨f, h1, h2, h3⟩ := h.bits (idxOfC cs x) ix (idxOfC cs y / 64) (by omega)
      have h4 := h3 (idxOfC cs y % 64) (by omega)
      rw [show idxOfC cs y / 64 * 64 + idxOfC cs y % 64 = idxOfC cs y by omega] at h4
      rw [wordV_eq h2 h1, Bool.and_self, Bool.true_and, Bool.eq_iff_iff, h4]
      exact ⟨fun h => below_mk hx hy h, fun h => (below_known h).2.2⟩

theorem openClasses_opened (cb co cc : Nat) (ca : Option Addr) (cs : List Cls) (w : World) (hca : cs ≠ [] → ca = some ⟨cb, co, none⟩) (hcs : ClassesAt w cb co cs) (hl : cs.length ≤ maxLen) :
    Calls Try.prog 41 #[.slice ca cs.length cc] w fun e w' =>
      (openErr cs ≠ 0 ∧ e = .returned (.tuple #[zeroAlg, .int .i64 (openErr cs)]) ∧ Below w.heap.size w w') ∨ (∃ v, e = .returned (.tuple #[v, .int .i64 0]) ∧ Opened cs w w' v) := by
  refine (openClasses_any cb co cc ca cs w hca hcs hl).mono fun e w' h => ?_
  rcases h with h | ⟨hO, vn, vu, va, G, mb, D, us, ws, he, hOC, hb⟩
  · exact .inl h
  · refine .inr ⟨_, he, hO, ?_, hb⟩
    obtain ⟨na, nc, rfl⟩ := own_slice hOC.names
    obtain ⟨ua, uc, rfl⟩ := own_slice hOC.sups
    have hmb : mb < w'.heap.size := by obtain ⟨es, ck, h1, _⟩ := hOC.map; exact (Array.getElem?_eq_some_iff.1 h1).1
    have hk : ∀ s : ByteArray, Maps.has D (.string s.data.toList) = knownB cs s := fun s => by
      have := hOC.has s
      rw [List.take_length] at this
      rw [Bool.eq_iff_iff, this]
      unfold knownB
      simp
    have hat : ∀ s : ByteArray, knownB cs s = true → D.atKey (.string s.data.toList) (.lit (.int .i64 0)) = .lit (.int .i64 (idxOfC cs s : Nat)) := fun s hs => by
      have := hOC.at_ s
      rw [List.take_length] at this
      exact this (by unfold knownB at hs; simpa using hs)
    rcases hOC.abv.2 with ⟨rfl, h0⟩ | ⟨g, cap, cur, rfl, hgB, hg, rest⟩
    · have e0 : Value.slice none (algOf cs ws hO).n 0 = Value.slice none 0 0 := by show Value.slice none cs.length 0 = _; rw [h0]
      exact ⟨algOf cs ws hO, na, ua, none, _, nc, _, uc, 0, mb, _, mb, D, by rw [e0], ⟨hOC.map, hk, hat, fun i hi => by have : i < cs.length := hi; omega⟩, fun h => by have : 0 < cs.length := h; omega, hmb, hmb, fun _ => rfl, below_algOf hOC hO⟩
    · refine ⟨algOf cs ws hO, na, ua, some ⟨g, 0, none⟩, _, nc, _, uc, cap, mb, _, g, D, rfl, ⟨hOC.map, hk, hat, fun i hi k hk => ?_⟩, fun _ => rfl, hmb, (Array.getElem?_eq_some_iff.1 hg).1, fun _ => rfl, below_algOf hOC hO⟩
      have hi' : i < cs.length := hi
      obtain ⟨f, h1, h2, _⟩ := hOC.bits i hi' k hk
      rw [Nat.zero_add]
      have := own_get5 hOC.abv (k := i * 5 + k) (by omega) h2
      rw [this]
      show _ = some (Value.int .u64 (wordV ws (i * 5 + k) : Nat))
      rw [wordV_eq h2 h1]
end Go.Proofs.Ytlaibimdkamcfaa
