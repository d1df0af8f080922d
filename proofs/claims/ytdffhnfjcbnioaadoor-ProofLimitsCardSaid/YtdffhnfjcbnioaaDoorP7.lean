/-
  proof.Check of a proof as a value; how the statement builds its two proofs.
-/
import Derived.Test.YtdffhnfjcbnioaaDoorP6
namespace Go.Proofs.YtdffhnfjcbnioaaDoor
open Go.RowKit

/-- A node without a term. -/
def pcv (op : Int) (nm : ByteArray) (a : Option Addr) (n c : Nat) : Array Value :=
  #[.int .i64 op, .string nm, .int .i64 0, .string ⟨#[]⟩, .int .i64 0, .int .i64 0, .string ⟨#[]⟩, .int .i64 0, .slice none 0 0, .slice none 0 0, .slice none 0 0, .slice none 0 0, .slice none 0 0, .slice none 0 0, .slice none 0 0, .int .i64 0, .slice a n c]

/-- Such a node's cells in a block, at an offset. -/
def CellsPf (W : World) (b o : Nat) (op : Int) (nm : ByteArray) (a : Option Addr) (n c : Nat) : Prop := ∀ j, j < 17 → W.cell? ⟨b, o + j, none⟩ = (pcv op nm a n c)[j]?

theorem cells_atPf {B : Nat} {W : World} {b o : Nat} {op : Int} {nm : ByteArray} {a : Option Addr} {c kb ko : Nat} {kids : List Pf} (hb : b < B) (h : CellsPf W b o op nm a kids.length c)
    (hop : -9223372036854775808 ≤ op ∧ op ≤ 9223372036854775807) (hnm : nm.size ≤ 9223372036854775807) (hl : kids.length ≤ 9223372036854775807) (hk : kids ≠ [] → a = some ⟨kb, ko, none⟩ ∧ kb < B) (he : ∀ i (h : i < kids.length), AtPf B W kb (ko + i * 17) kids[i]) :
    AtPf B W b o (.mk op nm tm0 kids) := by
  refine .mk b o op nm tm0 kids a c kb ko hb (h 0 (by omega)) (h 1 (by omega)) ?_ (h 11 (by omega)) (h 12 (by omega)) (h 13 (by omega)) (h 14 (by omega)) (h 15 (by omega)) (h 16 (by omega)) hop hnm hl hk he
  refine atTm_of_has (cs := [.int .i64 0, .string ⟨#[]⟩, .int .i64 0, .int .i64 0, .string ⟨#[]⟩, .int .i64 0, .slice none 0 0, .slice none 0 0, .slice none 0 0]) hb (fun j hj => ?_) (hasTm0 B W)
  have h2 := h (2 + j) (by omega)
  rw [← Nat.add_assoc] at h2
  rw [h2]
  match j, hj with
  | 0, _ => rfl
  | 1, _ => rfl
  | 2, _ => rfl
  | 3, _ => rfl
  | 4, _ => rfl
  | 5, _ => rfl
  | 6, _ => rfl
  | 7, _ => rfl
  | 8, _ => rfl

/-- All but one block is as it was. -/
def ButB (pb : Nat) (W W' : World) : Prop := W.heap.size ≤ W'.heap.size ∧ ∀ k, k < W.heap.size → k ≠ pb → W'.heap[k]? = W.heap[k]?
theorem ButB.refl (pb : Nat) (W : World) : ButB pb W W := ⟨Nat.le_refl _, fun _ _ _ => rfl⟩
theorem ButB.trans {pb : Nat} {W W' W'' : World} (h : ButB pb W W') (h' : ButB pb W' W'') : ButB pb W W'' := ⟨Nat.le_trans h.1 h'.1, fun k hk hn => (h'.2 k (Nat.lt_of_lt_of_le hk h.1) hn).trans (h.2 k hk hn)⟩
theorem ButB.below {pb : Nat} {W W' : World} (h : Below W.heap.size W W') : ButB pb W W' := ⟨h.size, fun k hk _ => h.block k hk⟩

/-- A proof as a value, whose kids lie in memory (not in one block): it may be put anywhere. -/
def ValPf (pb : Nat) (W : World) (op : Int) (nm : ByteArray) (a : Option Addr) (n c : Nat) (T : Pf) : Prop :=
  ∀ (B : Nat) (W' : World) (b o : Nat), ButB pb W W' → W.heap.size ≤ B → b < B → CellsPf W' b o op nm a n c → AtPf B W' b o T
theorem ValPf.later {pb : Nat} {W W' : World} {op : Int} {nm : ByteArray} {a : Option Addr} {n c : Nat} {T : Pf} (h : ValPf pb W op nm a n c T) (hb : ButB pb W W') : ValPf pb W' op nm a n c T :=
  fun B V b o hV hB hbB hc => h B V b o (hb.trans hV) (Nat.le_trans hb.1 hB) hbB hc

theorem valPf_leaf (pb : Nat) (W : World) : ValPf pb W 1 nmA none 0 0 (.mk 1 nmA tm0 []) := fun B V b o hV hB hb hc =>
  cells_atPf (kids := []) (kb := 0) (ko := 0) hb hc (by decide) (by decide) (by decide) (fun h => absurd rfl h) (fun i hi => by simp at hi)

/-- The cells of a block that is known whole. -/
theorem cells_of_block {W : World} {b : Nat} {op : Int} {nm : ByteArray} {a : Option Addr} {n c : Nat} {t : TypeId} (h : W.heap[b]? = some (.cells (pcv op nm a n c) t (0, 0))) : CellsPf W b 0 op nm a n c := fun j hj => by
  rw [Lib.cell_of_heap h, Nat.zero_add]

/-- One node more: the proof that stood in the block is its kid. -/
theorem valPf_sym {pb : Nat} {W W' : World} {op : Int} {nm : ByteArray} {a : Option Addr} {n c kb : Nat} {t : TypeId} {T : Pf} (h : ValPf pb W op nm a n c T) (hw : ButB pb W W') (hk : W.heap.size ≤ kb) (hk2 : kb < W'.heap.size) (hp : pb < W.heap.size) (hc : W'.heap[kb]? = some (.cells (pcv op nm a n c) t (0, 0))) :
    ValPf pb W' 9 ⟨#[]⟩ (some ⟨kb, 0, none⟩) 1 1 (.mk 9 ⟨#[]⟩ tm0 [T]) := fun B V b o hV hB hb hcs => by
  have hkV : V.heap[kb]? = some (.cells (pcv op nm a n c) t (0, 0)) := (hV.2 kb hk2 (by omega)).trans hc
  refine cells_atPf (kids := [T]) (kb := kb) (ko := 0) hb hcs (by decide) (by decide) (by simp) (fun _ => ⟨rfl, by omega⟩) (fun i hi => ?_)
  have hi0 : i = 0 := by simpa using hi
  subst hi0
  exact h B V kb (0 + 0 * 17) (hw.trans hV) (Nat.le_trans hw.1 hB) (by omega) (cells_of_block hkV)

theorem cells_of_two {W : World} {b : Nat} {op : Int} {nm : ByteArray} {a : Option Addr} {n c : Nat} {t : TypeId} (h : W.heap[b]? = some (.cells (pcv op nm a n c ++ pcv op nm a n c) t (0, 0))) : CellsPf W b 0 op nm a n c ∧ CellsPf W b 17 op nm a n c := by
  have hz : (pcv op nm a n c).size = 17 := rfl
  refine ⟨fun j hj => ?_, fun j hj => ?_⟩
  · rw [Lib.cell_of_heap h, Nat.zero_add, Array.getElem?_append_left (by omega)]
  · rw [Lib.cell_of_heap h, Array.getElem?_append_right (by omega), hz, Nat.add_sub_cancel_left]

/-- One node more: the proof that stood in the block is its kid twice. -/
theorem valPf_dup {pb : Nat} {W W' : World} {op : Int} {nm : ByteArray} {a : Option Addr} {n c kb : Nat} {t : TypeId} {T : Pf} (h : ValPf pb W op nm a n c T) (hw : ButB pb W W') (hk : W.heap.size ≤ kb) (hk2 : kb < W'.heap.size) (hp : pb < W.heap.size) (hc : W'.heap[kb]? = some (.cells (pcv op nm a n c ++ pcv op nm a n c) t (0, 0))) :
    ValPf pb W' 10 ⟨#[]⟩ (some ⟨kb, 0, none⟩) 2 2 (.mk 10 ⟨#[]⟩ tm0 [T, T]) := fun B V b o hV hB hb hcs => by
  have hkV : V.heap[kb]? = some (.cells (pcv op nm a n c ++ pcv op nm a n c) t (0, 0)) := (hV.2 kb hk2 (by omega)).trans hc
  refine cells_atPf (kids := [T, T]) (kb := kb) (ko := 0) hb hcs (by decide) (by decide) (by simp) (fun _ => ⟨rfl, by omega⟩) (fun i hi => ?_)
  have hi2 : i < 2 := by simpa using hi
  match i, hi2 with
  | 0, _ => exact h B V kb (0 + 0 * 17) (hw.trans hV) (Nat.le_trans hw.1 hB) (by omega) (cells_of_two hkV).1
  | 1, _ => exact h B V kb (0 + 1 * 17) (hw.trans hV) (Nat.le_trans hw.1 hB) (by omega) (cells_of_two hkV).2

theorem cells_new (W : World) (op : Int) (nm : ByteArray) (a : Option Addr) (n c : Nat) (t : TypeId) : CellsPf (W.alloc (.cells (pcv op nm a n c) t)) W.heap.size 0 op nm a n c := fun j hj => by
  rw [World.cell?_alloc_new, Nat.zero_add]

set_option maxRecDepth 100000 in
set_option maxHeartbeats 1000000 in
theorem check_val (op : Int) (nm : ByteArray) (a : Option Addr) (n c : Nat) (T : Pf) (pb : Nat) (w : World) (hT : ValPf pb w op nm a n c T) (hK : Kinds w) (hG : GoodPf T) (hD : T.depth ≤ 900000000) :
    Calls Tryd.prog 4 #[.agg (pcv op nm a n c)] w fun e w' => e = .returned (.int .i64 (limitE T)) ∧ Below w.heap.size w w' := by
  have hb : Below w.heap.size w (w.alloc (.cells (pcv op nm a n c) 36)) := (Below.refl _ w).alloc (Nat.le_refl _) _
  have hA := hT (w.heap.size + 1) _ w.heap.size 0 (.below hb) (by omega) (by omega) (cells_new w op nm a n c 36)
  have hc := Lib.hid (check_good (w.heap.size + 1) w.heap.size 0 T _ (by simp) hA (hK.later hb) hG hD)
  have HB := Lib.hid hb
  clear hA hT hK hb
  unfold pcv at hc HB ⊢
  go_enter Tryd.func4, Tryd.ntmps4
  go_wp2_with fail
  (with_reducible refine hc.out.mono ?_)
  rintro e W ⟨rfl, hW⟩
  have HBW := Lib.hid (HB.out.trans (hW.mono HB.out.size))
  go_wp2_with fail
  go_ret
  exact ⟨rfl, HBW.out⟩
end Go.Proofs.YtdffhnfjcbnioaaDoor
