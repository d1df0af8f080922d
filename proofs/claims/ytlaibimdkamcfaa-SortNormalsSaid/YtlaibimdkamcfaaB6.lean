/-
  The question of least: whether a class is another one and below it.
-/
import Derived.Test.YtlaibimdkamcfaaB5
namespace Go.Proofs.Ytlaibimdkamcfaa
open Go.RowKit Go.Maps

set_option maxRecDepth 100000 in
set_option maxHeartbeats 2000000 in
theorem asks_under (A : Alg) (na ua aa ta : Option Addr) (nl nc ul uc bc tl tc mb nm ab ao : Nat) (tm sm : Option Nat) (D : DataW Unit) (ga gc : Nat) (y : ByteArray) (w : World) (h : AlgAt A w mb nm ab ao D) (haa : 0 < A.n → aa = some ⟨ab, ao, none⟩) (hm : mb < w.heap.size) (ha : ab < w.heap.size) (hga : ga < w.heap.size) (hgc : gc < w.heap.size)
    (ca : w.heap[ga]? = some (.cells #[.slice na nl nc, .map (some mb), .slice ua ul uc, .slice aa A.n bc, .slice ta tl tc, .map tm, .map sm] 70 (0, 0)))
    (cc : w.cell? ⟨gc, 0, none⟩ = some (.string y)) (hy : y.size ≤ maxLen) :
    Asks w 88 #[.pointer (some ⟨gc, 0, none⟩), .pointer (some ⟨ga, 0, none⟩)] (fun d => !(d.toList == y.toList) && A.below d y) := by
  intro x W hx hb
  have HB := Lib.hid (below_any A na ua aa ta nl nc ul uc bc tl tc mb nm ab ao tm sm D x y W (h.below hb hm ha) haa (Nat.lt_of_lt_of_le hm hb.size) (Nat.lt_of_lt_of_le ha hb.size) hx hy)
  have c1 := (hb.block ga hga).trans ca
  have d0 : W.cell? ⟨ga, 0, none⟩ = some (.slice na nl nc) := by simp [World.cell?, c1]
  have d1 : W.cell? ⟨ga, 1, none⟩ = some (.map (some mb)) := by simp [World.cell?, c1]
  have d2 : W.cell? ⟨ga, 2, none⟩ = some (.slice ua ul uc) := by simp [World.cell?, c1]
  have d3 : W.cell? ⟨ga, 3, none⟩ = some (.slice aa A.n bc) := by simp [World.cell?, c1]
  have d4 : W.cell? ⟨ga, 4, none⟩ = some (.slice ta tl tc) := by simp [World.cell?, c1]
  have d5 : W.cell? ⟨ga, 5, none⟩ = some (.map tm) := by simp [World.cell?, c1]
  have d6 : W.cell? ⟨ga, 6, none⟩ = some (.map sm) := by simp [World.cell?, c1]
  have c2 := (hb.cell (p := ⟨gc, 0, none⟩) hgc).trans cc
  clear h ca cc c1
  show Calls Try.prog 88 #[.string x, .pointer (some ⟨gc, 0, none⟩), .pointer (some ⟨ga, 0, none⟩)] W _
  go_enter Try.func88, Try.ntmps88
  rcases hne : (!(x.toList == y.toList)) with _ | _
  · go_wp2_with fail
    go_ret
    exact ⟨rfl, Below.refl _ _⟩
  · go_wp2_with fail
    refine HB.out.mono ?_
    rintro e w' ⟨rfl, hb'⟩
    go_wp2_with fail
    go_ret
    exact ⟨rfl, hb'⟩
end Go.Proofs.Ytlaibimdkamcfaa
