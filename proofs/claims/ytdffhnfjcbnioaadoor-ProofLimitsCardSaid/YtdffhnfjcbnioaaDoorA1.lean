/-
  A strings.Builder behind new blocks; types.Text of a constructor without arguments.
-/
import Derived.Test.YtdffhnfjcbnioaaDoorC8
import Derived.Test.YtdffhnfjcbnioaaDoorW2
import Derived.StillTailTactics
import Derived.LoopN
namespace Go.Proofs.YtdffhnfjcbnioaaDoor
open Go.RowKit

/-- A builder stays what it is where all that lies there stays. -/
theorem builderAt_below {T e : TypeId} {B b : Nat} {p : Value} {bs : List Value} {w w' : World} (h : Lib.BuilderAt T e B b p bs w) (hw : Below w.heap.size w w') : Lib.BuilderAt T e B b p bs w' := by
  have hlt := h.lt
  obtain ⟨hB, v, hb, hown, hne⟩ := h
  refine ⟨hB, v, (hw.block b hlt).trans hb, ?_, hne⟩
  refine ⟨hown.1, ?_⟩
  rcases hown.2 with h | ⟨g, cap, cur, rfl, hbg, hg, rest⟩
  · exact .inl h
  · exact .inr ⟨g, cap, cur, rfl, hbg, (hw.block g (Array.getElem?_eq_some_iff.1 hg).1).trans hg, rest⟩
theorem isBuilder_below {T e : TypeId} {B b : Nat} {bs : List Value} {w w' : World} (h : Lib.IsBuilder T e B b bs w) (hw : Below w.heap.size w w') : Lib.IsBuilder T e B b bs w' := by
  rcases h with h | h
  · exact .inl (builderAt_below h hw)
  · exact .inr (builderAt_below h hw)

/-- WriteString, said in bytes. -/
theorem write_bytes (Bb b : Nat) (l : List UInt8) (s : ByteArray) (m : List UInt8) (w : World) (hs : s.data.toList = m) (h : Lib.IsBuilder 58 5 Bb b (Lib.byteCells l) w) (hlen : (l ++ m).length ≤ 140737488355328) (hBw : Bb ≤ w.heap.size) :
    Calls Tryd.prog 38 #[.pointer (some ⟨b, 0, none⟩), .string s] w fun e w' => (∃ v, e = .returned (.tuple #[v, .nilIface])) ∧ Lib.IsBuilder 58 5 Bb b (Lib.byteCells (l ++ m)) w' ∧ Below Bb w w' := by
  subst hs
  refine (write_str Bb b (Lib.byteCells l) s w h (by simpa [Lib.byteCells_length] using hlen) hBw).mono ?_
  rintro e w' ⟨rfl, h1, h2⟩
  refine ⟨⟨_, rfl⟩, .inr ?_, h2⟩
  rwa [Lib.byteCells_append, ← Lib.strCells_eq]

/-- A constructor without arguments. -/
def tyC (nm : ByteArray) : Ty := .mk 1 nm 0 [] []
theorem plain_tyC {nm : ByteArray} (h : nameB nm = true) : PlainTy (tyC nm) := fun u hu => by
  simp only [tyC, Ty.pre, Ty.preL, List.mem_singleton] at hu
  rw [hu]
  simp [conB, Ty.op, Ty.index, Ty.sort, Ty.name, h]

set_option maxRecDepth 100000 in
set_option maxHeartbeats 4000000 in
theorem write_con (nm : ByteArray) (B Bb b tb to : Nat) (l : List UInt8) (w : World) (hB : B ≤ Bb) (hBw : Bb ≤ w.heap.size) (hT : AtTy B w tb to (tyC nm)) (hbd : Lib.IsBuilder 58 5 Bb b (Lib.byteCells l) w) (hlen : l.length + nm.size ≤ 1000000) :
    Calls Tryd.prog 57 #[.pointer (some ⟨b, 0, none⟩), .pointer (some ⟨tb, to, none⟩)] w fun e w' => e = .returned (.tuple #[]) ∧ Lib.IsBuilder 58 5 Bb b (Lib.byteCells (l ++ nm.data.toList)) w' ∧ Below Bb w w' := by
  obtain ⟨_, _, op, ix, nm, srt, args, vs, a, cap, ab, ao, hb, k0, k1, k2, k3, k4, hop, hix, hnm, hs, hl, ha, he⟩ := hT
  obtain ⟨sa, sc, sb, so, rfl, hsl, hsn, hsc⟩ := hs
  have K3 := Lib.hid fun W (h : Below Bb w W) => (h.cell (p := ⟨tb, to + 3, none⟩) (by show tb < Bb; omega)).trans k3
  have K4 := Lib.hid fun W (h : Below Bb w W) => (h.cell (p := ⟨tb, to + 4, none⟩) (by show tb < Bb; omega)).trans k4
  have HB := Lib.hid hbd
  have hsz : nm.data.toList.length = nm.size := by simp
  clear ha he hsn hsc hbd
  go_enter Tryd.func57, Tryd.ntmps57
  go_wp2_with fail
  (with_reducible refine (write_bytes Bb b l _ nm.data.toList w rfl HB.out (by rw [List.length_append]; omega) hBw).mono ?_)
  rintro e W ⟨⟨v, rfl⟩, hbW, hW⟩
  have k3W := K3.out W hW
  have k4W := K4.out W hW
  simp only [List.length_nil] at k3W k4W
  have HBW := Lib.hid hbW
  clear hbW
  go_wp2_with fail
  refine wp_loop_rounds 1 ?_
  rw [rounds_succ]
  go_wp2_with fail
  go_end0
  exact ⟨rfl, HBW.out, hW⟩

theorem builder_new (w : World) : Lib.IsBuilder 58 5 w.heap.size w.heap.size (Lib.byteCells []) (w.alloc (.cells #[.pointer none, .slice none 0 0] 58)) := Lib.fresh_isBuilder 58 5 w

theorem ba_of (nm : ByteArray) : (⟨nm.data.toList.toArray⟩ : ByteArray) = nm := by cases nm; simp

set_option maxRecDepth 100000 in
set_option maxHeartbeats 4000000 in
theorem text_con (nm : ByteArray) (B : Nat) (v : Value) (w : World) (hB : B ≤ w.heap.size) (hv : HasTy B w v (tyC nm)) (hn : nameB nm = true) (hs : nm.size ≤ 1000) :
    Calls Tryd.prog 41 #[v] w fun e w' => e = .returned (.tuple #[.string nm, .int .i64 0]) ∧ Below w.heap.size w w' := by
  obtain ⟨vs, rfl, a1⟩ := hv.boxed hB 26
  have b1 := Lib.hid (show Below w.heap.size w (w.alloc (.cells vs 26)) from (Below.refl _ w).alloc (Nat.le_refl _) _)
  have hs1 : (w.alloc (.cells vs 26)).heap.size = w.heap.size + 1 := by simp
  have h1 := Lib.hid (form_plain (w.heap.size + 1) w.heap.size 0 (tyC nm) (w.alloc (.cells vs 26)) (by omega) a1 (plain_tyC hn) (by show 1 ≤ 20000; decide) (by show 1 ≤ 500; decide))
  have A1 := Lib.hid a1
  clear a1 hv
  go_enter Tryd.func41, Tryd.ntmps41
  go_wp2_with fail
  generalize w.alloc (.cells vs 26) = w1 at *
  (with_reducible refine h1.out.mono ?_)
  rintro e w2 ⟨rfl, b2⟩
  go_wp2_with fail
  have b3 := Lib.hid (show Below w2.heap.size w2 (w2.alloc (.cells #[.pointer none, .slice none 0 0] 58)) from (Below.refl _ w2).alloc (Nat.le_refl _) _)
  have hn := Lib.hid (builder_new w2)
  have hs3 : (w2.alloc (.cells #[.pointer none, .slice none 0 0] 58)).heap.size = w2.heap.size + 1 := by simp
  generalize w2.alloc (.cells #[.pointer none, .slice none 0 0] 58) = w3 at *
  have s2 := b2.size
  have b13 : Below (w.heap.size + 1) w1 w3 := (b2.mono (by omega)).trans (b3.out.mono (by omega))
  (with_reducible refine (write_con nm (w.heap.size + 1) w2.heap.size w2.heap.size w.heap.size 0 [] w3 (by omega) (by omega) (AtTy.later b13 (Nat.le_refl _) A1.out) hn.out (by simp; omega)).mono ?_)
  rintro e w4 ⟨rfl, hbd, b4⟩
  have s4 := b4.size
  have hst := Lib.hid (Tryd.Builder_String_any w2.heap.size w2.heap.size ([] ++ nm.data.toList) w4 hbd (by omega))
  clear hbd
  go_wp2_with fail
  (with_reducible refine hst.out.mono ?_)
  rw [List.nil_append, ba_of nm]
  rintro e w5 ⟨rfl, b5⟩
  go_wp2_with fail
  go_ret2
  exact ⟨rfl, (b1.out.trans (b13.mono (by omega))).trans ((b4.trans b5).mono (by omega))⟩
end Go.Proofs.YtdffhnfjcbnioaaDoor
