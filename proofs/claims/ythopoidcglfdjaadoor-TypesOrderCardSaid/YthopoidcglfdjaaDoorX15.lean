/-
  The reader: what comes next, what has to come, a word.
-/
import Derived.Test.YthopoidcglfdjaaDoorX14
namespace Go.Proofs.YthopoidcglfdjaaDoor
open Go.RowKit

/-- Below B all blocks but one stay. -/
structure But (B rb : Nat) (w w' : World) : Prop where
  os : w'.os = w.os
  tape : w'.tape = w.tape
  output : w'.output = w.output
  size : w.heap.size ≤ w'.heap.size
  block : ∀ k, k < B → k ≠ rb → w'.heap[k]? = w.heap[k]?

theorem But.of {B rb : Nat} {w w' : World} (h : Below B w w') : But B rb w w' := ⟨h.os, h.tape, h.output, h.size, fun k hk _ => h.block k hk⟩
theorem But.refl (B rb : Nat) (w : World) : But B rb w w := .of (Below.refl _ _)
theorem But.trans {B rb : Nat} {a b c : World} (h : But B rb a b) (k : But B rb b c) : But B rb a c :=
  ⟨k.os.trans h.os, k.tape.trans h.tape, k.output.trans h.output, Nat.le_trans h.size k.size, fun i hi hn => (k.block i hi hn).trans (h.block i hi hn)⟩
theorem But.mono {B B' rb : Nat} {w w' : World} (h : But B rb w w') (hB : B' ≤ B) : But B' rb w w' := ⟨h.os, h.tape, h.output, h.size, fun k hk => h.block k (Nat.lt_of_lt_of_le hk hB)⟩
theorem But.below {B B' rb : Nat} {w w' : World} (h : But B rb w w') (hB : B' ≤ B) (hr : B' ≤ rb) : Below B' w w' := ⟨h.os, h.tape, h.output, h.size, fun k hk => h.block k (by omega) (by omega)⟩
theorem But.setRb {B rb : Nat} {w w' : World} (h : But B rb w w') (v : Value) : But B rb w (w'.setCell ⟨rb, 0, none⟩ v) :=
  ⟨h.os, h.tape, h.output, by have := h.size; simpa using this, fun k hk hn => (Below.heap_setCell w' ⟨rb, 0, none⟩ v k hn).trans (h.block k hk hn)⟩
theorem But.setCell {B rb : Nat} {w w' : World} (h : But B rb w w') (p : Addr) (hp : B ≤ p.block) (v : Value) : But B rb w (w'.setCell p v) :=
  ⟨h.os, h.tape, h.output, by have := h.size; simpa using this, fun k hk hn => (Below.heap_setCell w' p v k (by omega)).trans (h.block k hk hn)⟩
theorem But.cell {B rb : Nat} {w w' : World} (h : But B rb w w') {p : Addr} (hp : p.block < B) (hr : p.block ≠ rb) : w'.cell? p = w.cell? p := World.cell?_of_block (w := w) (h.block p.block hp hr)
theorem But.frozen {B rb : Nat} {w w' : World} (h : But B rb w w') {p : Addr} (hp : p.block < B) (hr : p.block ≠ rb) : w'.frozen? p = w.frozen? p := World.frozen?_of_block (w := w) (h.block p.block hp hr)

/-- The reader and what it has still to read. -/
def RAt (rb : Nat) (s : ByteArray) (w : World) : Prop := w.cell? ⟨rb, 0, none⟩ = some (.string s) ∧ w.frozen? ⟨rb, 0, none⟩ = false ∧ rb < w.heap.size
theorem RAt.set {rb : Nat} {s : ByteArray} {w : World} (h : RAt rb s w) (t : ByteArray) : RAt rb t (w.setCell ⟨rb, 0, none⟩ (.string t)) :=
  ⟨World.cell?_setCell_same' _ _ _ (by rw [h.1]; rfl), by rw [World.frozen?_setCell]; exact h.2.1, by simpa using h.2.2⟩
theorem RAt.below {rb B : Nat} {s : ByteArray} {w w' : World} (h : RAt rb s w) (hb : Below B w w') (hr : rb < B) : RAt rb s w' :=
  ⟨(hb.cell (p := ⟨rb, 0, none⟩) hr).trans h.1, (hb.frozen (p := ⟨rb, 0, none⟩) hr).trans h.2.1, by have := h.2.2; have := hb.size; omega⟩

set_option maxRecDepth 100000 in
set_option maxHeartbeats 4000000 in
theorem next_any (rb : Nat) (s p t : ByteArray) (v : Bool) (w : World) (h : RAt rb s w) (hv : Lib.hasPrefix s.data.toList p.data.toList = v) (ht : (⟨(Lib.trimPrefix s.data.toList p.data.toList).toArray⟩ : ByteArray) = t) :
    Calls Tryd.prog 53 #[.pointer (some ⟨rb, 0, none⟩), .string p] w fun e w' => e = .returned (.bool v) ∧ RAt rb t w' ∧ But w.heap.size rb w w' := by
  have hc := Lib.hid (Tryd.strings_CutPrefix s p w)
  rw [hv, ht] at hc
  have R1 := Lib.hid (h.set t)
  have B1 := Lib.hid ((But.refl w.heap.size rb w).setRb (.string t))
  obtain ⟨c0, f0, _⟩ := h
  clear hv ht
  go_enter Tryd.func53, Tryd.ntmps53
  go_wp2_with fail
  refine hc.out.mono ?_
  rintro e w' ⟨rfl, rfl⟩
  go_wp2_with fail
  go_ret
  exact ⟨rfl, R1.out, B1.out⟩

set_option maxRecDepth 100000 in
set_option maxHeartbeats 4000000 in
theorem want_any (rb : Nat) (s p t : ByteArray) (w : World) (h : RAt rb s w) (hv : Lib.hasPrefix s.data.toList p.data.toList = true) (ht : (⟨(Lib.trimPrefix s.data.toList p.data.toList).toArray⟩ : ByteArray) = t) :
    Calls Tryd.prog 55 #[.pointer (some ⟨rb, 0, none⟩), .string p] w fun e w' => e = .returned (.tuple #[]) ∧ RAt rb t w' ∧ But w.heap.size rb w w' := by
  have hc := Lib.hid (next_any rb s p t true w h hv ht)
  clear hv ht h
  go_enter Tryd.func55, Tryd.ntmps55
  go_wp2_with fail
  refine hc.out.mono ?_
  rintro e w' ⟨rfl, hr, hb⟩
  go_wp2_with fail
  go_end0
  exact ⟨rfl, hr, hb⟩

set_option maxRecDepth 100000 in
set_option maxHeartbeats 4000000 in
theorem word_any (rb : Nat) (s a b : ByteArray) (w : World) (h : RAt rb s w) (hw : Calls Tryd.prog 70 #[.string s] w fun e w' => e = .returned (.tuple #[.string a, .string b]) ∧ Below w.heap.size w w') :
    Calls Tryd.prog 62 #[.pointer (some ⟨rb, 0, none⟩)] w fun e w' => e = .returned (.string a) ∧ RAt rb b w' ∧ But w.heap.size rb w w' := by
  have hc := Lib.hid hw
  have R := Lib.hid h
  obtain ⟨c0, f0, hlt⟩ := h
  clear hw
  go_enter Tryd.func62, Tryd.ntmps62
  go_wp2_with fail
  refine hc.out.mono ?_
  rintro e w1 ⟨rfl, hb⟩
  have R1 := R.out.below hb hlt
  have R2 := Lib.hid (R1.set b)
  have B1 := Lib.hid ((But.of (rb := rb) hb).setRb (.string b))
  obtain ⟨d0, g0, _⟩ := R1
  go_wp2_with fail
  go_ret
  exact ⟨rfl, R2.out, B1.out⟩
end Go.Proofs.YthopoidcglfdjaaDoor
