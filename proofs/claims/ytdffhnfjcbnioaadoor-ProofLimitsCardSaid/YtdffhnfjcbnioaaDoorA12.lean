/-
  The text of the proof of A ==> A.
-/
import Derived.Test.YtdffhnfjcbnioaaDoorA11
namespace Go.Proofs.YtdffhnfjcbnioaaDoor
open Go.RowKit

def nA : ByteArray := ⟨#[65]⟩
def nProp : ByteArray := ⟨#[112, 114, 111, 112]⟩
/-- A node with the term A in its cells. -/
def pcA (op : Int) (a : Option Addr) (n c : Nat) : Array Value :=
  #[.int .i64 op, .string ⟨#[]⟩, .int .i64 2, .string ⟨#[65]⟩, .int .i64 0, .int .i64 1, .string ⟨#[112, 114, 111, 112]⟩, .int .i64 0, .slice none 0 0, .slice none 0 0, .slice none 0 0, .slice none 0 0, .slice none 0 0, .slice none 0 0, .slice none 0 0, .int .i64 0, .slice a n c]
def tmA : Tm := tmF nA nProp
def pfA : Pf := .mk 3 ⟨#[]⟩ tmA []
def pfI : Pf := .mk 4 ⟨#[]⟩ tmA [pfA]

theorem hasTmA (B : Nat) (W : World) : HasTm B W (.agg #[.int .i64 2, .string ⟨#[65]⟩, .int .i64 0, .int .i64 1, .string ⟨#[112, 114, 111, 112]⟩, .int .i64 0, .slice none 0 0, .slice none 0 0, .slice none 0 0]) tmA :=
  ⟨.slice none 0 0, none, 0, none, 0, 0, 0, rfl, ⟨.slice none 0 0, none, 0, 0, 0, rfl, by decide, by decide, by decide, ⟨none, 0, 0, 0, rfl, by decide, fun h => absurd rfl h, fun i hi => by simp [tmA, tmF, tyC, Tm.ty, Ty.sort] at hi⟩, by decide, fun h => absurd rfl h, fun i hi => by simp [tmA, tmF, tyC, Tm.ty, Ty.args] at hi⟩,
    by decide, by decide, by decide, by decide, fun h => absurd rfl h, fun i hi => by simp [tmA, tmF, Tm.kids] at hi⟩

theorem cellsA_atPf {B : Nat} {W : World} {b o : Nat} {op : Int} {a : Option Addr} {c kb ko : Nat} {kids : List Pf} (hb : b < B) (h : ∀ j, j < 17 → W.cell? ⟨b, o + j, none⟩ = (pcA op a kids.length c)[j]?)
    (hop : -9223372036854775808 ≤ op ∧ op ≤ 9223372036854775807) (hl : kids.length ≤ 9223372036854775807) (hk : kids ≠ [] → a = some ⟨kb, ko, none⟩ ∧ kb < B) (he : ∀ i (h : i < kids.length), AtPf B W kb (ko + i * 17) kids[i]) :
    AtPf B W b o (.mk op ⟨#[]⟩ tmA kids) := by
  refine .mk b o op ⟨#[]⟩ tmA kids a c kb ko hb (h 0 (by omega)) (h 1 (by omega)) ?_ (h 11 (by omega)) (h 12 (by omega)) (h 13 (by omega)) (h 14 (by omega)) (h 15 (by omega)) (h 16 (by omega)) hop (by decide) hl hk he
  refine atTm_of_has (cs := [.int .i64 2, .string ⟨#[65]⟩, .int .i64 0, .int .i64 1, .string ⟨#[112, 114, 111, 112]⟩, .int .i64 0, .slice none 0 0, .slice none 0 0, .slice none 0 0]) hb (fun j hj => ?_) (hasTmA B W)
  have h2 := h (2 + j) (by omega)
  rw [← Nat.add_assoc] at h2
  rw [h2]
  match j, hj with
  | 0, _ => rfl
  | 1, _ => rfl
  | 2, _ => rfl
  | 3, _ => rfl
  | 4, _ => rfl
  | 5, _ => rfl
  | 6, _ => rfl
  | 7, _ => rfl
  | 8, _ => rfl

theorem cellsA_of_block {W : World} {b : Nat} {op : Int} {a : Option Addr} {n c : Nat} {t : TypeId} (h : W.heap[b]? = some (.cells (pcA op a n c) t (0, 0))) (j : Nat) (_ : j < 17) : W.cell? ⟨b, 0 + j, none⟩ = (pcA op a n c)[j]? := by
  rw [Lib.cell_of_heap h, Nat.zero_add]

/-- The proof stands in its two blocks. -/
theorem pfI_at {B b kb : Nat} {W : World} {t t' : TypeId} (hb : b < B) (hkb : kb < B) (hk : W.heap[kb]? = some (.cells (pcA 3 none 0 0) t (0, 0))) (h : W.heap[b]? = some (.cells (pcA 4 (some ⟨kb, 0, none⟩) 1 1) t' (0, 0))) : AtPf B W b 0 pfI :=
  cellsA_atPf (kids := [pfA]) (kb := kb) (ko := 0) hb (cellsA_of_block h) (by decide) (by decide) (fun _ => ⟨rfl, hkb⟩) fun i hi => by
    match i, hi with
    | 0, _ => exact cellsA_atPf (kids := []) (kb := 0) (ko := 0) hkb (cellsA_of_block hk) (by decide) (by decide) (fun h => absurd rfl h) fun i hi => by simp at hi

theorem good_pfI : GoodPf pfI := fun u hu => by
  simp only [pfI, pfA, Pf.pre, Pf.preL, List.append_nil, List.mem_cons, List.not_mem_nil, or_false] at hu
  rcases hu with rfl | rfl
  · exact ⟨by show Tm.nodes tmA ≤ 20000; decide, by show Tm.depth tmA ≤ 500; decide, .inr (.inr (.inr (.inr ⟨rfl, rfl, rfl⟩)))⟩
  · exact ⟨by show Tm.nodes tmA ≤ 20000; decide, by show Tm.depth tmA ≤ 500; decide, .inr (.inr (.inr (.inl ⟨rfl, rfl, rfl⟩)))⟩
theorem limit_pfI : limitE pfI = 0 := by simp [limitE, pfI, pfA, Pf.nodes, Pf.nodesL, Pf.depth, Pf.depthL]
theorem depth_pfI : pfI.depth = 2 := by simp [pfI, pfA, Pf.depth, Pf.depthL]
theorem nodes_pfI : pfI.nodes = 2 := by simp [pfI, pfA, Pf.nodes, Pf.nodesL]
end Go.Proofs.YtdffhnfjcbnioaaDoor
