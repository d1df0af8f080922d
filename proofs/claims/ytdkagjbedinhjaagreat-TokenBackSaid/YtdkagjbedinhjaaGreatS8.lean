/-
  The iterator over a text's tokens.
-/
import Derived.Test.YtdkagjbedinhjaaGreatS7
import Derived.Test.YtdkagjbedinhjaaGreatRc
import Derived.RangeFuncKeeps
import Derived.RangeFuncBound
import Derived.Shelf.Abstract
import Derived.WalkKit
import Derived.OwnWalkIn
import Derived.TacticsInMore
import Derived.LoopNIn
import Derived.LoopIn
namespace Go.Proofs.YtdkagjbedinhjaaGreat
open Go.RowKit Go.Shelf

attribute [local go_sem] Oper.semAt_some

/-- Below B all blocks but one stay. -/
structure But (B rb : Nat) (w w' : World) : Prop where
  os : w'.os = w.os
  tape : w'.tape = w.tape
  output : w'.output = w.output
  size : w.heap.size ≤ w'.heap.size
  block : ∀ k, k < B → k ≠ rb → w'.heap[k]? = w.heap[k]?
theorem But.of {B rb : Nat} {w w' : World} (h : Below B w w') : But B rb w w' := ⟨h.os, h.tape, h.output, h.size, fun k hk _ => h.block k hk⟩
theorem But.refl (B rb : Nat) (w : World) : But B rb w w := .of (Below.refl _ _)
theorem But.trans {B rb : Nat} {a b c : World} (h : But B rb a b) (k : But B rb b c) : But B rb a c :=
  ⟨k.os.trans h.os, k.tape.trans h.tape, k.output.trans h.output, Nat.le_trans h.size k.size, fun i hi hn => (k.block i hi hn).trans (h.block i hi hn)⟩
theorem But.mono {B B' rb : Nat} {w w' : World} (h : But B rb w w') (hB : B' ≤ B) : But B' rb w w' := ⟨h.os, h.tape, h.output, h.size, fun k hk => h.block k (Nat.lt_of_lt_of_le hk hB)⟩
theorem But.below {B B' rb : Nat} {w w' : World} (h : But B rb w w') (hB : B' ≤ B) (hr : B' ≤ rb) : Below B' w w' := ⟨h.os, h.tape, h.output, h.size, fun k hk => h.block k (by omega) (by omega)⟩
theorem But.setRb {B rb : Nat} {w w' : World} (h : But B rb w w') (v : Value) : But B rb w (w'.setCell ⟨rb, 0, none⟩ v) :=
  ⟨h.os, h.tape, h.output, by have := h.size; simpa using this, fun k hk hn => (Below.heap_setCell w' ⟨rb, 0, none⟩ v k hn).trans (h.block k hk hn)⟩

theorem ScK.but {b mb B rb : Nat} {K : ByteArray → Bool} {T : ByteArray} {w w' : World} (h : ScK b mb K T w) (hb : But B rb w w') (h1 : b < B) (h2 : mb < B) (h3 : b ≠ rb) (h4 : mb ≠ rb) : ScK b mb K T w' := by
  obtain ⟨k1, n, D, ⟨es, c, k2, k3⟩, k4⟩ := h
  exact ⟨(hb.block b h1 h3).trans k1, n, D, ⟨es, c, (hb.block mb h2 h4).trans k2, k3⟩, k4⟩

/-- A token: its kind, its text, its place. -/
abbrev Tk := Int × ByteArray × Nat
def encT (x : Tk) : Array Value := #[tokV x.1 x.2.1 x.2.2]

/-- A text's tokens: where each begins and ends. -/
structure Scans (b mb : Nat) (K : ByteArray → Bool) (T : ByteArray) (N : Nat) (p en : Nat → Nat) (tk : Nat → Int × ByteArray) : Prop where
  start : ∀ V, ScK b mb K T V → Calls Tryz.prog 31 #[.pointer (some ⟨b, 0, none⟩), .int .i64 0] V fun e w' => e = .returned (.int .i64 (p 0 : Int)) ∧ V = w'
  next : ∀ i, i < N → ∀ V, ScK b mb K T V → Calls Tryz.prog 32 #[.pointer (some ⟨b, 0, none⟩), .int .i64 (p i : Int)] V fun e w' => e = .returned (.tuple #[tokV (tk i).1 (tk i).2 (p i), .int .i64 (en i : Int)]) ∧ Below V.heap.size V w'
  go : ∀ i, i < N → ∀ V, ScK b mb K T V → Calls Tryz.prog 31 #[.pointer (some ⟨b, 0, none⟩), .int .i64 (en i : Int)] V fun e w' => e = .returned (.int .i64 (p (i + 1) : Int)) ∧ V = w'
  lt : ∀ i, i < N → p i < T.size
  inc : ∀ i, i < N → p i < p (i + 1)
  last : p N = T.size

/-- The tokens that have come. -/
def come (p : Nat → Nat) (tk : Nat → Int × ByteArray) (i : Nat) : List Tk := (List.range i).map fun j => ((tk j).1, (tk j).2, p j)
theorem come_succ (p : Nat → Nat) (tk : Nat → Int × ByteArray) (i : Nat) : come p tk (i + 1) = come p tk i ++ [((tk i).1, (tk i).2, p i)] := by
  unfold come
  rw [List.range_succ, List.map_append]
  rfl
theorem come_len (p : Nat → Nat) (tk : Nat → Int × ByteArray) (i : Nat) : (come p tk i).length = i := by simp [come]
theorem come_prefix (p : Nat → Nat) (tk : Nat → Int × ByteArray) {i N : Nat} (h : i ≤ N) : come p tk i <+: come p tk N := by
  obtain ⟨d, rfl⟩ := Nat.exists_eq_add_of_le h
  unfold come
  rw [List.range_add, List.map_append]
  exact List.prefix_append _ _

set_option maxHeartbeats 1000000 in
theorem tokens_ok (n b : Nat) (w : World) :
    CallsIn Fence.wide n Tryz.prog 25 #[.pointer (some ⟨b, 0, none⟩)] w fun e w' => e = .returned (.func (.func 30) #[] #[.pointer (some ⟨w.heap.size, 0, none⟩)]) ∧ w' = w.alloc (.cells #[.pointer (some ⟨b, 0, none⟩)] 62) := by
  refine callsIn_of_wp Tryz.func25 rfl trivial ?_ rfl
  simp only [Tryz.ntmps25, List.size_toArray, List.length_cons, List.length_nil, Nat.reduceAdd, Nat.reduceSub, Array.replicate_succ, Array.replicate_zero, List.push_toArray, List.append_toArray, List.nil_append, List.cons_append]
  gi_wp2
  go_ret
  exact ⟨rfl, rfl⟩

set_option maxRecDepth 100000 in
set_option maxHeartbeats 4000000 in
/-- What tokens returns yields the tokens. -/
theorem tokens_stops (n b mb Bx n₀ rb : Nat) (K : ByteArray → Bool) (T : ByteArray) (N : Nat) (p en : Nat → Nat) (tk : Nat → Int × ByteArray) (hsc : Scans b mb K T N p en tk) (w : World) (hS : ScK b mb K T w) (hB : w.cell? ⟨Bx, 0, none⟩ = some (.pointer (some ⟨b, 0, none⟩)))
    (h1 : b < n₀) (h2 : mb < n₀) (h3 : b ≠ rb) (h4 : mb ≠ rb) (h5 : Bx < n₀) (h6 : Bx ≠ rb) (h7 : n₀ ≤ w.heap.size) :
    SeqC Fence.wide n Tryz.prog 30 #[.pointer (some ⟨Bx, 0, none⟩)] encT (But n₀ rb) (fun ys => ys = come p tk N) (fun pre => pre <+: come p tk N) N w := by
  intro l J Jx W hW hJ hJx hY h0
  have hdd : ∀ k : Nat, (Fence.wide.depth.isSome = true → 1 ≤ k) := fun k h => by cases h
  have hSW := hS.later hW hS.text.lt hS.2.lt
  have hBW := (hW.cell (p := ⟨Bx, 0, none⟩) (by show Bx < w.heap.size; omega)).trans hB
  have hst := Lib.hid (hsc.start W hSW)
  refine callsIn_of_wp Tryz.func30 rfl trivial ?_ rfl
  simp only [Tryz.ntmps30, List.size_toArray, List.length_cons, List.length_nil, Nat.reduceAdd, Nat.reduceSub, Array.replicate_succ, Array.replicate_zero, List.push_toArray, List.append_toArray, List.nil_append, List.cons_append]
  gi_wp2
  refine ⟨trivial, hdd _, ?_⟩
  (with_reducible refine (callsIn_wide.2 hst.out).mono ?_)
  rintro e w' ⟨rfl, rfl⟩
  have HS := Lib.hid hSW
  have HB := Lib.hid hBW
  have H0 := Lib.hid h0
  clear hSW hBW h0 hB hS hst
  gi_wp2
  gi_loopw [3] (fun i wr => ∃ j : Nat, j ≤ N ∧ i = .int .i64 (p j : Int) ∧ Hid (ScK b mb K T wr) ∧ Hid (wr.cell? ⟨Bx, 0, none⟩ = some (.pointer (some ⟨b, 0, none⟩))) ∧ Hid (n₀ ≤ wr.heap.size) ∧ Hid (J (come p tk j) wr)) (fun i _ => T.size - (intOf i).toNat)
  case atStart => exact ⟨0, by omega, rfl, HS, HB, Lib.hid (Nat.le_trans h7 hW.size), H0⟩
  case round =>
    obtain ⟨j, hj, rfl, HSr, HBr, HZr, HJr⟩ := hrel
    have cb := HBr.out
    have ct := HSr.out.text.cell
    by_cases hlt : j < N
    · have hd : decide (p j < T.size) = true := by simp; exact hsc.lt j hlt
      have hnx := Lib.hid (hsc.next j hlt _ HSr.out)
      gi_wp2
      refine ⟨trivial, hdd _, ?_⟩
      (with_reducible refine (callsIn_wide.2 hnx.out).mono ?_)
      rintro e w2 ⟨rfl, hb2⟩
      have hb3 : Below wr.heap.size wr (w2.alloc (.cells #[.int .i64 (tk j).1, .string (tk j).2, .int .i64 (p j : Int)] 35)) := hb2.alloc hb2.size _
      have hnw := tok_new w2 (tk j).1 (tk j).2 (p j : Int)
      obtain ⟨q0, q1, q2, _, _, _⟩ := hnw.cells
      have cb3 := (hb3.cell (p := ⟨Bx, 0, none⟩) (by have := HZr.out; show Bx < wr.heap.size; omega)).trans HBr.out
      have HS3 := Lib.hid (HSr.out.below hb3)
      have HZ3 := Lib.hid (Nat.le_trans HZr.out hb3.size)
      have HCB := Lib.hid cb3
      obtain ⟨fn, tmps, assign, body, hy, hR⟩ := hY (come p tk j) ((tk j).1, (tk j).2, p j) _ (hJ _ _ _ HJr.out hb3) (by rw [come_len]; exact hlt)
      have henc : encT ((tk j).1, (tk j).2, p j) = #[tokV (tk j).1 (tk j).2 (p j : Int)] := rfl
      rw [henc] at hy
      rw [← come_succ] at hR
      have HR := Lib.hid hR
      clear hY hnx hb2 hb3 hnw hR henc cb ct HSr HBr HJr HZr HS HB H0
      gi_wp2
      refine ⟨hdd _, ?_⟩
      refine HR.out.mono ?_
      rintro e W4 (⟨rfl, hJ4, hk4⟩ | ⟨rfl, hx4⟩)
      · have hS4 := HS3.out.but hk4 h1 h2 h3 h4
        have hgo := Lib.hid (hsc.go j hlt _ hS4)
        have hcb4 : W4.cell? ⟨Bx, 0, none⟩ = some (.pointer (some ⟨b, 0, none⟩)) := (World.cell?_of_block (a := ⟨Bx, 0, none⟩) (hk4.block Bx h5 h6)).trans HCB.out
        have HS4 := Lib.hid hS4
        have HZ4 := Lib.hid (Nat.le_trans HZ3.out hk4.size)
        have HJ4 := Lib.hid hJ4
        have HCB4 := Lib.hid hcb4
        clear hS4 hJ4 hk4 HR hy cb3 q0 q1 q2
        gi_wp2
        refine ⟨trivial, hdd _, ?_⟩
        (with_reducible refine (callsIn_wide.2 hgo.out).mono ?_)
        rintro e w5 ⟨rfl, rfl⟩
        gi_wp2
        go_roundw
        case rel => exact ⟨j + 1, by omega, rfl, HS4, HCB4, HZ4, HJ4⟩
        case measure => have := hsc.lt j hlt; have := hsc.inc j hlt; simp [intOf]; omega
      · gi_wp2
        refine bodyPost_ret (results_none rfl _ _ _) rfl ?_
        exact ⟨⟨_, rfl⟩, .inr ⟨come p tk (j + 1), come_prefix p tk hlt, hx4⟩⟩
    · have hjn : j = N := by omega
      subst hjn
      have hd : decide (p j < T.size) = false := by simp; have := hsc.last; omega
      gi_wp2
      go_end0
      exact ⟨⟨_, rfl⟩, .inl ⟨_, rfl, HJr.out⟩⟩
end Go.Proofs.YtdkagjbedinhjaaGreat
