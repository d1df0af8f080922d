/-
  slices.ContainsFunc of strings, at any function that keeps what lay there; Algebra.Less of any sorts.
-/
import Derived.Test.YtlaibimdkamcfaaB3
namespace Go.Proofs.Ytlaibimdkamcfaa
open Go.RowKit Go.Maps

/-- A slice of strings in block b, from o on. -/
structure StrsAt (w : World) (b o : Nat) (l : List ByteArray) : Prop where
  lt : l ≠ [] → b < w.heap.size
  cell : ∀ i (h : i < l.length), w.cell? ⟨b, o + i, none⟩ = some (.string l[i])
  size : ∀ i (h : i < l.length), l[i].size ≤ maxLen

theorem StrsAt.later {w w' : World} {b o : Nat} {l : List ByteArray} (h : StrsAt w b o l) (hb : Below w.heap.size w w') : StrsAt w' b o l :=
  ⟨fun hn => Nat.lt_of_lt_of_le (h.lt hn) hb.size, fun i hi => (hb.cell (p := ⟨b, o + i, none⟩) (h.lt (by intro e; subst e; simp at hi))).trans (h.cell i hi), h.size⟩

/-- A function of a string that answers p and keeps what lay there when the world was w. -/
def Asks (w : World) (k : Nat) (cap : Array Value) (p : ByteArray → Bool) : Prop :=
  ∀ (s : ByteArray) (W : World), s.size ≤ maxLen → Below w.heap.size w W → Calls Try.prog k (#[.string s] ++ cap) W fun e W' => e = .returned (.bool (p s)) ∧ Below W.heap.size W W'

set_option maxRecDepth 100000 in
set_option maxHeartbeats 2000000 in
theorem indexFunc_any (b o c k : Nat) (a : Option Addr) (cap : Array Value) (p : ByteArray → Bool) (l : List ByteArray) (w : World) (ha : l ≠ [] → a = some ⟨b, o, none⟩) (h : StrsAt w b o l) (hl : l.length ≤ maxLen) (hk : Asks w k cap p)
    (ek : ∀ args W, (callFunc k args).run Try.prog W = .ok (.enter k args) W) :
    Calls Try.prog 84 #[.slice a l.length c, .func (.func k) #[] cap] w fun e w' => (∃ i : Int, e = .returned (.int .i64 i) ∧ decide (0 ≤ i) = l.any p) ∧ Below w.heap.size w w' := by
  have HK := Lib.hid hk
  have HS := Lib.hid h
  have HA := Lib.hid ha
  clear hk h ha
  go_enter Try.func84, Try.ntmps84
  go_wp2_with fail
  go_loopw [8] (fun t wr => ∃ i : Nat, t = .int .i64 i ∧ i ≤ l.length ∧ (l.take i).any p = false ∧ Below w.heap.size w wr) (fun t _ => l.length - (intOf t).toNat)
  case atStart => exact ⟨0, rfl, Nat.zero_le _, by simp, Below.refl _ _⟩
  case round =>
    obtain ⟨i, rfl, hi, hp, hb⟩ := hrel
    by_cases hlt : i < l.length
    · have e := HA.out (by intro e; subst e; simp at hlt)
      subst e
      have hc := (HS.out.later hb).cell i hlt
      have hc2 := Lib.hid (HK.out l[i] wr (HS.out.size i hlt) hb)
      go_wp2_with fail
      refine hc2.out.mono ?_
      rintro e W' ⟨rfl, hb'⟩
      rcases hpe : p l[i] with _ | _
      · have HPE := Lib.hid hpe
        clear hpe
        go_wp2_with fail
        have hw : wrap64 ((i : Int) + 1) = ((i + 1 : Nat) : Int) := by
          simp only [maxLen] at hl
          unfold wrap64
          omega
        rw [hw]
        refine ⟨⟨i + 1, rfl, by omega, ?_, hb.trans (hb'.mono hb.size)⟩, ?_⟩
        · rw [← List.take_append_getElem hlt, List.any_append, hp, List.any_cons, HPE.out]; rfl
        · show l.length - (((i + 1 : Nat) : Int)).toNat < l.length - ((i : Nat) : Int).toNat
          omega
      · have HPE := Lib.hid hpe
        clear hpe
        go_wp2_with fail
        go_ret
        refine ⟨⟨i, rfl, ?_⟩, hb.trans (hb'.mono hb.size)⟩
        rw [List.any_eq_true.mpr ⟨l[i], List.getElem_mem hlt, HPE.out⟩]
        simp
    · have ht : l.take i = l := List.take_of_length_le (by omega)
      rw [ht] at hp
      have HP := Lib.hid hp
      clear hp ht
      go_wp2_with fail
      go_ret
      exact ⟨⟨-1, rfl, by rw [HP.out]; rfl⟩, hb⟩

set_option maxRecDepth 100000 in
set_option maxHeartbeats 2000000 in
theorem containsFunc_any (b o c k : Nat) (a : Option Addr) (cap : Array Value) (p : ByteArray → Bool) (l : List ByteArray) (w : World) (ha : l ≠ [] → a = some ⟨b, o, none⟩) (h : StrsAt w b o l) (hl : l.length ≤ maxLen) (hk : Asks w k cap p)
    (ek : ∀ args W, (callFunc k args).run Try.prog W = .ok (.enter k args) W) :
    Calls Try.prog 72 #[.slice a l.length c, .func (.func k) #[] cap] w fun e w' => e = .returned (.bool (l.any p)) ∧ Below w.heap.size w w' := by
  have HI := Lib.hid (indexFunc_any b o c k a cap p l w ha h hl hk ek)
  clear hk h ha
  go_enter Try.func72, Try.ntmps72
  go_wp2_with fail
  refine HI.out.mono ?_
  rintro e w' ⟨⟨i, rfl, hi⟩, hb⟩
  have HIi := Lib.hid hi
  clear hi
  go_wp2_with fail
  go_ret
  exact ⟨congrArg (fun x => Ending.returned (.bool x)) HIi.out, hb⟩

set_option maxRecDepth 100000 in
set_option maxHeartbeats 2000000 in
theorem asks_below (A : Alg) (na ua aa ta : Option Addr) (nl nc ul uc bc tl tc mb nm ab ao : Nat) (tm sm : Option Nat) (D : DataW Unit) (ga gc : Nat) (y : ByteArray) (w : World) (h : AlgAt A w mb nm ab ao D) (haa : 0 < A.n → aa = some ⟨ab, ao, none⟩) (hm : mb < w.heap.size) (ha : ab < w.heap.size) (hga : ga < w.heap.size) (hgc : gc < w.heap.size)
    (ca : w.heap[ga]? = some (.cells #[.slice na nl nc, .map (some mb), .slice ua ul uc, .slice aa A.n bc, .slice ta tl tc, .map tm, .map sm] 70 (0, 0)))
    (cc : w.cell? ⟨gc, 0, none⟩ = some (.string y)) (hy : y.size ≤ maxLen) :
    Asks w 73 #[.pointer (some ⟨ga, 0, none⟩), .pointer (some ⟨gc, 0, none⟩)] (fun d => A.below d y) := by
  intro x W hx hb
  have HB := Lib.hid (below_any A na ua aa ta nl nc ul uc bc tl tc mb nm ab ao tm sm D x y W (h.below hb hm ha) haa (Nat.lt_of_lt_of_le hm hb.size) (Nat.lt_of_lt_of_le ha hb.size) hx hy)
  have c1 := (hb.block ga hga).trans ca
  have d0 : W.cell? ⟨ga, 0, none⟩ = some (.slice na nl nc) := by simp [World.cell?, c1]
  have d1 : W.cell? ⟨ga, 1, none⟩ = some (.map (some mb)) := by simp [World.cell?, c1]
  have d2 : W.cell? ⟨ga, 2, none⟩ = some (.slice ua ul uc) := by simp [World.cell?, c1]
  have d3 : W.cell? ⟨ga, 3, none⟩ = some (.slice aa A.n bc) := by simp [World.cell?, c1]
  have d4 : W.cell? ⟨ga, 4, none⟩ = some (.slice ta tl tc) := by simp [World.cell?, c1]
  have d5 : W.cell? ⟨ga, 5, none⟩ = some (.map tm) := by simp [World.cell?, c1]
  have d6 : W.cell? ⟨ga, 6, none⟩ = some (.map sm) := by simp [World.cell?, c1]
  have c2 := (hb.cell (p := ⟨gc, 0, none⟩) hgc).trans cc
  clear h ca cc c1
  show Calls Try.prog 73 #[.string x, .pointer (some ⟨ga, 0, none⟩), .pointer (some ⟨gc, 0, none⟩)] W _
  go_enter Try.func73, Try.ntmps73
  go_wp2_with fail
  refine HB.out.mono ?_
  rintro e w' ⟨rfl, hb'⟩
  go_wp2_with fail
  go_ret
  exact ⟨rfl, hb'⟩
end Go.Proofs.Ytlaibimdkamcfaa
