/-
  Symbols and Plain: the text with all written signs (or symbols) replaced.
-/
import Derived.Test.YtlpopbpddfegfaaB3
import Derived.Test.YtlpopbpddfegfaaShelf
import Derived.OwnWalk
import Derived.Lib.IndexBytes
namespace Go.Proofs.Ytlpopbpddfegfaa
open Go.RowKit

/-- The table of signs, in a block. -/
def Tab (b : Nat) (w : World) : Prop := ∃ T, w.heap[b]? = some (.cells signCells T (0, 0))
theorem Tab.later {b : Nat} {w w' : World} (h : Tab b w) (hb : Below w.heap.size w w') : Tab b w' := by
  obtain ⟨T, h⟩ := h
  exact ⟨T, (hb.block b (Array.getElem?_eq_some_iff.1 h).1).trans h⟩

/-- The sign of a number, and its symbol. -/
def sB (k : Nat) : ByteArray := ⟨(pairsL.getD k ([], [])).1.toArray⟩
def yB (k : Nat) : ByteArray := ⟨(pairsL.getD k ([], [])).2.toArray⟩
theorem sign_cells : ∀ {k : Nat}, k < 10 → signCells[k * 2]? = some (.string (sB k)) ∧ signCells[k * 2 + 1]? = some (.string (yB k))
  | 0, _ => ⟨rfl, rfl⟩ | 1, _ => ⟨rfl, rfl⟩ | 2, _ => ⟨rfl, rfl⟩ | 3, _ => ⟨rfl, rfl⟩ | 4, _ => ⟨rfl, rfl⟩
  | 5, _ => ⟨rfl, rfl⟩ | 6, _ => ⟨rfl, rfl⟩ | 7, _ => ⟨rfl, rfl⟩ | 8, _ => ⟨rfl, rfl⟩ | 9, _ => ⟨rfl, rfl⟩
  | k + 10, h => absurd h (by omega)
theorem Tab.cells {b : Nat} {w : World} (h : Tab b w) {k : Nat} (hk : k < 10) : w.cell? ⟨b, k * 2, none⟩ = some (.string (sB k)) ∧ w.cell? ⟨b, k * 2 + 1, none⟩ = some (.string (yB k)) := by
  obtain ⟨T, h⟩ := h
  have hs := sign_cells hk
  exact ⟨by rw [Lib.cell_of_heap h]; exact hs.1, by rw [Lib.cell_of_heap h]; exact hs.2⟩

theorem builderAt_below {T e : TypeId} {B b : Nat} {p : Value} {bs : List Value} {w w' : World} (h : Lib.BuilderAt T e B b p bs w) (hw : Below w.heap.size w w') : Lib.BuilderAt T e B b p bs w' := by
  have hlt := h.lt
  obtain ⟨hB, v, hb, hown, hne⟩ := h
  refine ⟨hB, v, (hw.block b hlt).trans hb, ?_, hne⟩
  refine ⟨hown.1, ?_⟩
  rcases hown.2 with h | ⟨g, cap, cur, rfl, hbg, hg, rest⟩
  · exact .inl h
  · exact .inr ⟨g, cap, cur, rfl, hbg, (hw.block g (Array.getElem?_eq_some_iff.1 hg).1).trans hg, rest⟩
theorem isBuilder_below {T e : TypeId} {B b : Nat} {bs : List Value} {w w' : World} (h : Lib.IsBuilder T e B b bs w) (hw : Below w.heap.size w w') : Lib.IsBuilder T e B b bs w' := by
  rcases h with h | h
  · exact .inl (builderAt_below h hw)
  · exact .inr (builderAt_below h hw)
theorem isBuilder_lt {T e : TypeId} {B b : Nat} {bs : List Value} {w : World} (h : Lib.IsBuilder T e B b bs w) : b < w.heap.size := by
  rcases h with h | h
  · exact h.lt
  · exact h.lt

/-- WriteString, said in bytes. -/
theorem write_bytes (Bb b : Nat) (l : List UInt8) (s : ByteArray) (m : List UInt8) (w : World) (hs : s.data.toList = m) (h : Lib.IsBuilder 51 5 Bb b (Lib.byteCells l) w) (hlen : (l ++ m).length ≤ 140737488355328) (hBw : Bb ≤ w.heap.size) :
    Calls Try.prog 24 #[.pointer (some ⟨b, 0, none⟩), .string s] w fun e w' => (∃ v, e = .returned (.tuple #[v, .nilIface])) ∧ Lib.IsBuilder 51 5 Bb b (Lib.byteCells (l ++ m)) w' ∧ Below Bb w w' := by
  subst hs
  refine (write_str Bb b (Lib.byteCells l) s w h (by simpa [Lib.byteCells_length] using hlen) hBw).mono ?_
  rintro e w' ⟨rfl, h1, h2⟩
  refine ⟨⟨_, rfl⟩, .inr ?_, h2⟩
  rwa [Lib.byteCells_append, ← Lib.strCells_eq]

theorem sign_at {k : Nat} (hk : k < 10) : pairsL[k]? = some ((sB k).data.toList, (yB k).data.toList) := by
  have : k < pairsL.length := hk
  rw [List.getElem?_eq_getElem this]
  simp [sB, yB, List.getD, List.getElem?_eq_getElem this]

theorem step_some (d : Bool) {r : ByteArray} {k : Nat} (hno : ∀ (j : Nat) (q : Bs × Bs), j < k → pairsL[j]? = some q → Lib.hasPrefix r.data.toList (fromOf d q) = false) (hk : k < 10) {f t : ByteArray} (hf : fromOf d ((sB k).data.toList, (yB k).data.toList) = f.data.toList) (ht : toOf d ((sB k).data.toList, (yB k).data.toList) = t.data.toList) (hp : Lib.hasPrefix r.data.toList f.data.toList = true) : stepOf d r.data.toList = (f.data.toList, t.data.toList) := by
  rw [step_hit (sign_at hk) hno (by rw [hf]; exact hp), hf, ht]

theorem step_none (d : Bool) {r : ByteArray} {k : Nat} (hk : k ≤ 10) (hlt : ¬ k < 10) (hno : ∀ (j : Nat) (q : Bs × Bs), j < k → pairsL[j]? = some q → Lib.hasPrefix r.data.toList (fromOf d q) = false) {f0 : ByteArray} (hf : r.extract 0 1 = f0) : stepOf d r.data.toList = (f0.data.toList, f0.data.toList) := by
  subst hf
  have : k = 10 := by omega
  subst this
  rw [step_miss fun j q hq => hno j q (by have := (List.getElem?_eq_some_iff.1 hq).1; exact this) hq]
  rw [Lib.extract_data]
  simp

theorem hits_more (d : Bool) {r : ByteArray} {k : Nat} (hno : ∀ (j : Nat) (q : Bs × Bs), j < k → pairsL[j]? = some q → Lib.hasPrefix r.data.toList (fromOf d q) = false) (hk : k < 10) {f : ByteArray} (hf : fromOf d ((sB k).data.toList, (yB k).data.toList) = f.data.toList) (hp : Lib.hasPrefix r.data.toList f.data.toList = false) : ∀ (j : Nat) (q : Bs × Bs), j < k + 1 → pairsL[j]? = some q → Lib.hasPrefix r.data.toList (fromOf d q) = false := by
  intro j q hj hq
  by_cases h : j < k
  · exact hno j q h hq
  · have : j = k := by omega
    subst this
    rw [sign_at hk] at hq
    cases hq
    rw [hf]
    exact hp

theorem step_sizes {d : Bool} {r f t : ByteArray} (h : stepOf d r.data.toList = (f.data.toList, t.data.toList)) (hr : ¬ r.data.toList = []) : 1 ≤ f.size ∧ f.size ≤ r.size ∧ t.size ≤ 18 := by
  have := step_len d hr
  rw [h] at this
  simp only [← Lib.size_eq] at this
  exact this

theorem out_step {d : Bool} {r f t : ByteArray} {out S : Bs} (h : stepOf d r.data.toList = (f.data.toList, t.data.toList)) (hr : ¬ r.data.toList = []) (ho : out ++ repl d r.data.toList = S) : (out ++ t.data.toList) ++ repl d (r.extract f.size r.size).data.toList = S := by
  rw [← ho, repl_step d hr, h, Lib.extract_to_end, Lib.size_eq f]
  simp

theorem tab_lt {b : Nat} {w wo : World} (h : Tab b wo) : b < wo.heap.size := by
  obtain ⟨T, h⟩ := h
  exact (Array.getElem?_eq_some_iff.1 h).1
theorem tab_later {b B : Nat} {w w' : World} (h : Tab b w) (hb : Below B w w') (hB : b < B) : Tab b w' := by
  obtain ⟨T, h⟩ := h
  exact ⟨T, (hb.block b hB).trans h⟩

theorem laid_table (w : World) : ∃ W, (w.alloc (.cells signCells 38)).alloc (.cells #[.pointer none, .slice none 0 0] 51) = W ∧ Below w.heap.size w W ∧ Tab w.heap.size W ∧ Lib.IsBuilder 51 5 (w.heap.size + 1) (w.heap.size + 1) (Lib.byteCells []) W := by
  have h1 := Go.heap_alloc_new w (.cells signCells 38)
  have z1 : (w.alloc (.cells signCells 38)).heap.size = w.heap.size + 1 := by simp
  have hb := (Below.refl w.heap.size w).alloc (Nat.le_refl _) (.cells signCells 38)
  have hf := Lib.fresh_isBuilder 51 5 (w.alloc (.cells signCells 38))
  rw [z1] at hf
  refine ⟨_, rfl, hb.alloc (by simp) _, ⟨38, ?_⟩, hf⟩
  rw [Go.heap_alloc_old]
  · exact h1
  · omega

set_option maxRecDepth 100000 in
set_option maxHeartbeats 2000000 in
theorem replace_true (s : ByteArray) (w : World) (hs : s.size ≤ 1000000) : Calls Try.prog 14 #[.string s, .func (.func 15) #[] #[]] w fun e w' => e = .returned (.string ⟨(repl true s.data.toList).toArray⟩) ∧ Below w.heap.size w w' := by
  have HT := Lib.hid (signs_table w)
  have HL := Lib.hid (laid_table w)
  go_enter Try.func14, Try.ntmps14
  go_wp2_with fail
  (with_reducible refine HT.out.mono ?_)
  rintro e w1 ⟨rfl, rfl⟩
  go_wp2_with fail
  obtain ⟨W, hW, HB, HTab, HBu⟩ := HL.out
  rw [hW]
  clear hW HL HT
  go_loopw [0] (fun t wr => ∃ (r : ByteArray) (out : Bs), t = .string r ∧ Hid (out ++ repl true r.data.toList = repl true s.data.toList) ∧ out.length + 18 * r.size ≤ 18 * s.size ∧ Hid (Tab w.heap.size wr) ∧ Hid (Lib.IsBuilder 51 5 (w.heap.size + 1) (w.heap.size + 1) (Lib.byteCells out) wr) ∧ Hid (Below w.heap.size w wr)) (fun t _ => match t with | .string r => r.size | _ => 0)
  case atStart => exact ⟨s, [], rfl, Lib.hid rfl, by simp, Lib.hid HTab, Lib.hid HBu, Lib.hid HB⟩
  case round =>
    obtain ⟨r, out, rfl, H1, h2, H3, H4, H5⟩ := hrel
    clear HB HTab HBu
    by_cases hr : r.data.toList = []
    · have e1 : r.toList = [] := by rw [Lib.toList_data]; exact hr
      have e2 : (!r.toList.isEmpty) = false := by rw [e1]; rfl
      have HS := Lib.hid (Try.Builder_String_any (w.heap.size + 1) (w.heap.size + 1) out wr H4.out (by have := isBuilder_lt H4.out; omega))
      go_wp2_with fail
      (with_reducible refine HS.out.mono ?_)
      rintro e w2 ⟨rfl, hb⟩
      have HE := Lib.hid (H5.out.trans (hb.mono (by omega)))
      go_wp2_with fail
      go_ret
      have := H1.out
      rw [hr, repl_nil, List.append_nil] at this
      exact ⟨by rw [this]; rfl, HE.out⟩
    · have e1 : (!r.toList.isEmpty) = true := by rw [Lib.toList_data]; cases h : r.data.toList with
        | nil => exact absurd h hr
        | cons a b => rfl
      have hz : 1 ≤ r.size := by
        cases h : r.data.toList with
        | nil => exact absurd h hr
        | cons a b =>
          have : r.data.toList.length = r.size := by simp
          rw [h] at this
          simp at this
          omega
      go_wp2_with fail
      go_quiet (fail)
      go_wp2_with fail
      clear e1
      obtain ⟨wo, hwo, ho3, ho4, ho5⟩ : ∃ wo, wr.drewN nq = wo ∧ Hid (Tab w.heap.size wo) ∧ Hid (Lib.IsBuilder 51 5 (w.heap.size + 1) (w.heap.size + 1) (Lib.byteCells out) wo) ∧ Hid (Below w.heap.size w wo) :=
        ⟨_, rfl, Lib.hid (H3.out.later (below_drewN (Below.refl _ _) nq)), Lib.hid (isBuilder_below H4.out (below_drewN (Below.refl _ _) nq)), Lib.hid (below_drewN H5.out nq)⟩
      rw [hwo]
      clear hwo H3 H4 H5
      obtain ⟨f0, hf0⟩ : ∃ f0, r.extract 0 1 = f0 := ⟨_, rfl⟩
      rw [hf0]
      have HF0 := Lib.hid hf0
      clear hf0
      go_loopw [7, 8, 22] (fun x y i wi => ∃ k : Nat, k ≤ 10 ∧ i = .int .i64 k ∧ x = .string f0 ∧ y = .string f0 ∧ (∀ (j : Nat) (q : Bs × Bs), j < k → pairsL[j]? = some q → Lib.hasPrefix r.data.toList (fromOf true q) = false) ∧ Hid (Below wo.heap.size wo wi)) (fun _ _ i _ => 10 - (intOf i).toNat)
      case atStart => exact ⟨0, by omega, rfl, rfl, rfl, fun j q h => absurd h (by omega), Lib.hid (Below.refl _ _)⟩
      case round =>
        obtain ⟨k, hk, rfl, rfl, rfl, HN, HI⟩ := hrel
        have HN := Lib.hid HN
        by_cases hlt : k < 10
        · obtain ⟨c0, c1⟩ := (ho3.out.later HI.out).cells hlt
          go_wp2_with fail
          (with_reducible refine (ends_true _ _ _).mono ?_)
          rintro e w2 ⟨rfl, hb2⟩
          have HW3 := Lib.hid (HI.out.trans ((((Below.refl _ _).alloc (Nat.le_refl _) _).trans (hb2.mono (by simp))).mono HI.out.size))
          clear hb2
          go_wp2_with fail
          (with_reducible refine (Try.strings_HasPrefix _ _ _).mono ?_)
          rintro e w3 ⟨rfl, rfl⟩
          cases hp : Lib.hasPrefix r.data.toList (sB k).data.toList with
          | true =>
            have HSt := Lib.hid (step_some true HN.out hlt (f := sB k) (t := yB k) rfl rfl hp)
            have hsz := Lib.hid (step_sizes HSt.out hr)
            go_wp2_with fail
            (with_reducible refine (write_bytes (w.heap.size + 1) (w.heap.size + 1) out (yB k) _ w3 rfl (isBuilder_below ho4.out HW3.out) (by have := hsz.out.2.2; simp; omega) (by have h1 := isBuilder_lt ho4.out; have h2 := HW3.out.size; omega)).mono ?_)
            rintro e W4 ⟨⟨v, rfl⟩, hb4, hbel⟩
            have HB4 := Lib.hid hb4
            have HL4 := Lib.hid hbel
            clear hb4 hbel
            have hs1 := hsz.out.1
            have hs2 := hsz.out.2.1
            go_wp2_with fail
            go_roundw
            case rel => exact ⟨r.extract (sB k).size r.size, out ++ (yB k).data.toList, rfl, Lib.hid (out_step HSt.out hr H1.out), by have := hsz.out.2.2; simp; omega, Lib.hid (tab_later (ho3.out.later HW3.out) HL4.out (Nat.lt_succ_self _)), HB4, Lib.hid (ho5.out.trans ((HW3.out.mono ho5.out.size).trans (HL4.out.mono (by omega))))⟩
            case measure => simp; omega
          | false =>
            go_wp2_with fail
            go_roundw
            case rel => exact ⟨k + 1, by omega, by go_num, rfl, rfl, hits_more true HN.out hlt (f := sB k) rfl hp, HW3⟩
            case measure => simp [intOf]; omega
        · have HSt := Lib.hid (step_none true hk hlt HN.out HF0.out)
          have HI2 := HI
          have hsz := Lib.hid (step_sizes HSt.out hr)
          go_wp2_with fail
          (with_reducible refine (write_bytes (w.heap.size + 1) (w.heap.size + 1) out (f0) _ wr rfl (isBuilder_below ho4.out HI2.out) (by have := hsz.out.2.2; simp; omega) (by have h1 := isBuilder_lt ho4.out; have h2 := HI2.out.size; omega)).mono ?_)
          rintro e W4 ⟨⟨v, rfl⟩, hb4, hbel⟩
          have HB4 := Lib.hid hb4
          have HL4 := Lib.hid hbel
          clear hb4 hbel
          have hs1 := hsz.out.1
          have hs2 := hsz.out.2.1
          go_wp2_with fail
          go_roundw
          case rel => exact ⟨r.extract (f0).size r.size, out ++ (f0).data.toList, rfl, Lib.hid (out_step HSt.out hr H1.out), by have := hsz.out.2.2; simp; omega, Lib.hid (tab_later (ho3.out.later HI2.out) HL4.out (Nat.lt_succ_self _)), HB4, Lib.hid (ho5.out.trans ((HI2.out.mono ho5.out.size).trans (HL4.out.mono (by omega))))⟩
          case measure => simp; omega

set_option maxRecDepth 100000 in
set_option maxHeartbeats 2000000 in
theorem replace_false (s : ByteArray) (w : World) (hs : s.size ≤ 1000000) : Calls Try.prog 14 #[.string s, .func (.func 17) #[] #[]] w fun e w' => e = .returned (.string ⟨(repl false s.data.toList).toArray⟩) ∧ Below w.heap.size w w' := by
  have HT := Lib.hid (signs_table w)
  have HL := Lib.hid (laid_table w)
  go_enter Try.func14, Try.ntmps14
  go_wp2_with fail
  (with_reducible refine HT.out.mono ?_)
  rintro e w1 ⟨rfl, rfl⟩
  go_wp2_with fail
  obtain ⟨W, hW, HB, HTab, HBu⟩ := HL.out
  rw [hW]
  clear hW HL HT
  go_loopw [0] (fun t wr => ∃ (r : ByteArray) (out : Bs), t = .string r ∧ Hid (out ++ repl false r.data.toList = repl false s.data.toList) ∧ out.length + 18 * r.size ≤ 18 * s.size ∧ Hid (Tab w.heap.size wr) ∧ Hid (Lib.IsBuilder 51 5 (w.heap.size + 1) (w.heap.size + 1) (Lib.byteCells out) wr) ∧ Hid (Below w.heap.size w wr)) (fun t _ => match t with | .string r => r.size | _ => 0)
  case atStart => exact ⟨s, [], rfl, Lib.hid rfl, by simp, Lib.hid HTab, Lib.hid HBu, Lib.hid HB⟩
  case round =>
    obtain ⟨r, out, rfl, H1, h2, H3, H4, H5⟩ := hrel
    clear HB HTab HBu
    by_cases hr : r.data.toList = []
    · have e1 : r.toList = [] := by rw [Lib.toList_data]; exact hr
      have e2 : (!r.toList.isEmpty) = false := by rw [e1]; rfl
      have HS := Lib.hid (Try.Builder_String_any (w.heap.size + 1) (w.heap.size + 1) out wr H4.out (by have := isBuilder_lt H4.out; omega))
      go_wp2_with fail
      (with_reducible refine HS.out.mono ?_)
      rintro e w2 ⟨rfl, hb⟩
      have HE := Lib.hid (H5.out.trans (hb.mono (by omega)))
      go_wp2_with fail
      go_ret
      have := H1.out
      rw [hr, repl_nil, List.append_nil] at this
      exact ⟨by rw [this]; rfl, HE.out⟩
    · have e1 : (!r.toList.isEmpty) = true := by rw [Lib.toList_data]; cases h : r.data.toList with
        | nil => exact absurd h hr
        | cons a b => rfl
      have hz : 1 ≤ r.size := by
        cases h : r.data.toList with
        | nil => exact absurd h hr
        | cons a b =>
          have : r.data.toList.length = r.size := by simp
          rw [h] at this
          simp at this
          omega
      go_wp2_with fail
      go_quiet (fail)
      go_wp2_with fail
      clear e1
      obtain ⟨wo, hwo, ho3, ho4, ho5⟩ : ∃ wo, wr.drewN nq = wo ∧ Hid (Tab w.heap.size wo) ∧ Hid (Lib.IsBuilder 51 5 (w.heap.size + 1) (w.heap.size + 1) (Lib.byteCells out) wo) ∧ Hid (Below w.heap.size w wo) :=
        ⟨_, rfl, Lib.hid (H3.out.later (below_drewN (Below.refl _ _) nq)), Lib.hid (isBuilder_below H4.out (below_drewN (Below.refl _ _) nq)), Lib.hid (below_drewN H5.out nq)⟩
      rw [hwo]
      clear hwo H3 H4 H5
      obtain ⟨f0, hf0⟩ : ∃ f0, r.extract 0 1 = f0 := ⟨_, rfl⟩
      rw [hf0]
      have HF0 := Lib.hid hf0
      clear hf0
      go_loopw [7, 8, 22] (fun x y i wi => ∃ k : Nat, k ≤ 10 ∧ i = .int .i64 k ∧ x = .string f0 ∧ y = .string f0 ∧ (∀ (j : Nat) (q : Bs × Bs), j < k → pairsL[j]? = some q → Lib.hasPrefix r.data.toList (fromOf false q) = false) ∧ Hid (Below wo.heap.size wo wi)) (fun _ _ i _ => 10 - (intOf i).toNat)
      case atStart => exact ⟨0, by omega, rfl, rfl, rfl, fun j q h => absurd h (by omega), Lib.hid (Below.refl _ _)⟩
      case round =>
        obtain ⟨k, hk, rfl, rfl, rfl, HN, HI⟩ := hrel
        have HN := Lib.hid HN
        by_cases hlt : k < 10
        · obtain ⟨c0, c1⟩ := (ho3.out.later HI.out).cells hlt
          go_wp2_with fail
          (with_reducible refine (ends_false _ _ _).mono ?_)
          rintro e w2 ⟨rfl, hb2⟩
          have HW3 := Lib.hid (HI.out.trans ((((Below.refl _ _).alloc (Nat.le_refl _) _).trans (hb2.mono (by simp))).mono HI.out.size))
          clear hb2
          go_wp2_with fail
          (with_reducible refine (Try.strings_HasPrefix _ _ _).mono ?_)
          rintro e w3 ⟨rfl, rfl⟩
          cases hp : Lib.hasPrefix r.data.toList (yB k).data.toList with
          | true =>
            have HSt := Lib.hid (step_some false HN.out hlt (f := yB k) (t := sB k) rfl rfl hp)
            have hsz := Lib.hid (step_sizes HSt.out hr)
            go_wp2_with fail
            (with_reducible refine (write_bytes (w.heap.size + 1) (w.heap.size + 1) out (sB k) _ w3 rfl (isBuilder_below ho4.out HW3.out) (by have := hsz.out.2.2; simp; omega) (by have h1 := isBuilder_lt ho4.out; have h2 := HW3.out.size; omega)).mono ?_)
            rintro e W4 ⟨⟨v, rfl⟩, hb4, hbel⟩
            have HB4 := Lib.hid hb4
            have HL4 := Lib.hid hbel
            clear hb4 hbel
            have hs1 := hsz.out.1
            have hs2 := hsz.out.2.1
            go_wp2_with fail
            go_roundw
            case rel => exact ⟨r.extract (yB k).size r.size, out ++ (sB k).data.toList, rfl, Lib.hid (out_step HSt.out hr H1.out), by have := hsz.out.2.2; simp; omega, Lib.hid (tab_later (ho3.out.later HW3.out) HL4.out (Nat.lt_succ_self _)), HB4, Lib.hid (ho5.out.trans ((HW3.out.mono ho5.out.size).trans (HL4.out.mono (by omega))))⟩
            case measure => simp; omega
          | false =>
            go_wp2_with fail
            go_roundw
            case rel => exact ⟨k + 1, by omega, by go_num, rfl, rfl, hits_more false HN.out hlt (f := yB k) rfl hp, HW3⟩
            case measure => simp [intOf]; omega
        · have HSt := Lib.hid (step_none false hk hlt HN.out HF0.out)
          have HI2 := HI
          have hsz := Lib.hid (step_sizes HSt.out hr)
          go_wp2_with fail
          (with_reducible refine (write_bytes (w.heap.size + 1) (w.heap.size + 1) out (f0) _ wr rfl (isBuilder_below ho4.out HI2.out) (by have := hsz.out.2.2; simp; omega) (by have h1 := isBuilder_lt ho4.out; have h2 := HI2.out.size; omega)).mono ?_)
          rintro e W4 ⟨⟨v, rfl⟩, hb4, hbel⟩
          have HB4 := Lib.hid hb4
          have HL4 := Lib.hid hbel
          clear hb4 hbel
          have hs1 := hsz.out.1
          have hs2 := hsz.out.2.1
          go_wp2_with fail
          go_roundw
          case rel => exact ⟨r.extract (f0).size r.size, out ++ (f0).data.toList, rfl, Lib.hid (out_step HSt.out hr H1.out), by have := hsz.out.2.2; simp; omega, Lib.hid (tab_later (ho3.out.later HI2.out) HL4.out (Nat.lt_succ_self _)), HB4, Lib.hid (ho5.out.trans ((HI2.out.mono ho5.out.size).trans (HL4.out.mono (by omega))))⟩
          case measure => simp; omega

end Go.Proofs.Ytlpopbpddfegfaa
