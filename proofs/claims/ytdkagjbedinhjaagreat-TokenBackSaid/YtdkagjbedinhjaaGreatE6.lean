/-
  The Replacer of the six texts, built.
-/
import Derived.Test.YtdkagjbedinhjaaGreatE2
import Derived.Test.YtdkagjbedinhjaaGreatE4
import Derived.Deep.WholeRow
section
namespace Go.Proofs.YtdkagjbedinhjaaGreat
open Go.RowKit Go.Shelf

theorem zeroBSR : Tryz.zeroCells118 = (List.replicate 257 (Value.slice none 0 0)).toArray := by kernel_rfl
theorem infoB : (Tryz.prog.info? 118).map (·.size) = some 257 := by kernel_rfl
/-- The cells, all nil but the last. -/
def cellsB (v : Value) : List Value := (List.replicate 257 (Value.slice none 0 0)).set 256 v
theorem store_bsr (w : World) (v : Value) (h : v.oneCell' = true) :
    (storeCells ⟨w.heap.size, 0, none⟩ (Tryz.zeroCells118.toList.set 256 v) 0).run Tryz.prog (w.alloc (.cells Tryz.zeroCells118 118)) = .ok () (w.alloc (.cells (cellsB v).toArray 118)) := by
  rw [zeroBSR]
  refine run_storeCells_new (P := Tryz.prog) w 118 _ (cellsB v).toArray ?_ ?_ ?_
  · rw [infoB]; unfold cellsB; rw [List.size_toArray, List.length_set, List.length_replicate]
  · unfold cellsB; rw [List.size_toArray, List.size_toArray, List.length_set]
  · rw [List.all_toArray, List.all_eq_true]
    intro x hx
    rcases List.mem_or_eq_of_mem_set hx with hx | rfl
    · rw [(List.mem_replicate.1 hx).2]; rfl
    · exact h

theorem eql_nil (w : World) : (binOp .eql 57 (.slice none 0 0) (.slice none 0 0)).run Tryz.prog w = .ok (.bool true) w := by
  have := run_equal_slice_nil w 57 5 none 0 0 (P := Tryz.prog) Tryz.underlying57
  simp only [binOp]
  simp [this]
/-- The bytes, in the order in which they come. -/
def ordS : List UInt8 := [10, 34, 92]
/-- What a byte's cell holds once k bytes have come. -/
def CellK (k q t : Nat) (c : UInt8) (v : Value) (w : World) : Prop :=
  (c ∉ ordS.take k ∧ v = .slice none 0 0) ∨ (c ∈ ordS.take k ∧ ∃ g cap, v = .slice (some ⟨g, 0, none⟩) 2 cap ∧ g < w.heap.size ∧ g ≠ q ∧ t < g ∧ ∀ j u, (Lib.byteCells (escOf c))[j]? = some u → w.cell? ⟨g, j, none⟩ = some u)
theorem CellK.frame {k q t : Nat} {c : UInt8} {v : Value} {w w' : World} (h : CellK k q t c v w) (hs : w.heap.size ≤ w'.heap.size) (hb : ∀ g, g < w.heap.size → g ≠ q → g ≠ t → w'.heap[g]? = w.heap[g]?) : CellK k q t c v w' := by
  rcases h with h | ⟨h, g, cap, hv, hg, h1, h2, hc⟩
  · exact .inl h
  · exact .inr ⟨h, g, cap, hv, Nat.lt_of_lt_of_le hg hs, h1, h2, fun j u hj => (World.cell?_of_block (w := w) (a := ⟨g, j, none⟩) (hb g hg h1 (by omega))).trans (hc j u hj)⟩
/-- The replacer, once k bytes have come. -/
structure RB (k q t B : Nat) (w0 w : World) : Prop where
  row : ∃ L : List Value, L.length = 257 ∧ w.heap[q]? = some (.cells L.toArray 118 (0, 0)) ∧ L[256]? = some (.slice (some ⟨t, 0, none⟩) k 3) ∧ ∀ c : UInt8, ∃ v, L[c.toNat]? = some v ∧ CellK k q t c v w
  own : w.ownsRow B 9 1 (.slice (some ⟨t, 0, none⟩) k 3) k (lookS.take k)
  ne : q ≠ t
  leq : B ≤ q
  let' : B ≤ t
  below : Below B w0 w
theorem RB.lt {k q t B : Nat} {w0 w : World} (h : RB k q t B w0 w) : q < w.heap.size := by
  obtain ⟨L, _, h, _⟩ := h.row
  exact (Array.getElem?_eq_some_iff.1 h).1
theorem RB.start {w w0 : World} (ho : w0.ownsRow w.heap.size 9 1 (.slice (some ⟨w.heap.size, 0, none⟩) 0 3) 0 []) (hg : w.grownBy w0 none) :
    RB 0 w0.heap.size w.heap.size w.heap.size w (w0.alloc (.cells (cellsB (.slice (some ⟨w.heap.size, 0, none⟩) 0 3)).toArray 118)) where
  row := ⟨_, by unfold cellsB; rw [List.length_set, List.length_replicate], Go.heap_alloc_new _ _, by unfold cellsB; rw [List.getElem?_set_self (by rw [List.length_replicate]; decide)], fun c => ⟨.slice none 0 0, by
    have := c.toNat_lt
    unfold cellsB
    rw [List.getElem?_set_ne (by omega), List.getElem?_replicate, if_pos (by omega)], .inl ⟨by simp, rfl⟩⟩⟩
  own := ho.alloc _
  ne := by
    have := (ho.lt w.heap.size rfl).2
    show w0.heap.size ≠ w.heap.size
    have h2 : w.heap.size < w0.heap.size := this
    omega
  leq := hg.size
  let' := Nat.le_refl _
  below := ((Below.refl _ w).grown hg (Nat.le_refl _) (fun q e => by cases e)).alloc hg.size _
theorem own_heap {w w' : World} {B e size n m t : Nat} {xs : List Value} (h : w.ownsRow B e size (.slice (some ⟨t, 0, none⟩) n m) n xs) (ht : w'.heap[t]? = w.heap[t]?) : w'.ownsRow B e size (.slice (some ⟨t, 0, none⟩) n m) n xs := by
  obtain ⟨h1, ⟨h2, _⟩ | ⟨g, cap, cur, hv, hg, hh, r⟩⟩ := h
  · cases h2
  · cases hv
    exact ⟨h1, .inr ⟨t, m, cur, rfl, hg, ht.trans hh, r⟩⟩
theorem ord_mem {k : Nat} {c d : UInt8} (hk : ordS[k]? = some c) : d ∈ ordS.take (k + 1) ↔ d ∈ ordS.take k ∨ d = c := by
  rw [List.take_add_one, hk]
  simp
theorem RB.step {k q t B r cap : Nat} {w0 W W2 w3 S V : World} {c : UInt8} (h : RB k q t B w0 W) (hk : ordS[k]? = some c) (hl : lookS.take k ++ [.string ⟨#[c]⟩] = lookS.take (k + 1))
    (h2 : Below W.heap.size W W2) (hg : W2.grownBy w3 (some t)) (ho : w3.ownsRow B 9 1 (.slice (some ⟨t, 0, none⟩) (k + 1) 3) (k + 1) (lookS.take k ++ [.string ⟨#[c]⟩]))
    (hS : w3.setCell ⟨q, 256, none⟩ (.slice (some ⟨t, 0, none⟩) (k + 1) 3) = S) (hr : S.heap.size = r) (hV : Below r S V) (hrV : r < V.heap.size)
    (hc : ∀ j u, (Lib.byteCells (escOf c))[j]? = some u → V.cell? ⟨r, j, none⟩ = some u) :
    RB (k + 1) q t B w0 (V.setCell ⟨q, c.toNat, none⟩ (.slice (some ⟨r, 0, none⟩) 2 cap)) := by
  obtain ⟨L, hL1, hL2, hL3, hL4⟩ := h.row
  have hqW := h.lt
  have htW : t < W.heap.size := (h.own.lt t rfl).2
  have hs2 := h2.size
  have hs3 := hg.size
  have hsS : S.heap.size = w3.heap.size := by rw [← hS]; simp [World.setCell]
  have hc256 : c.toNat < 256 := c.toNat_lt
  have q3 : w3.heap[q]? = some (.cells L.toArray 118 (0, 0)) := (hg.block q (by omega) (fun e => h.ne (by cases e; rfl))).trans ((h2.block q hqW).trans hL2)
  have qS : S.heap[q]? = some (.cells (L.toArray.setIfInBounds 256 (.slice (some ⟨t, 0, none⟩) (k + 1) 3)) 118 (0, 0)) := by
    rw [← hS]
    exact heap_setCell_same w3 q 256 _ _ _ q3
  have qV := (hV.block q (by omega)).trans qS
  have qF := heap_setCell_same V q c.toNat _ _ (.slice (some ⟨r, 0, none⟩) 2 cap) qV
  have other : ∀ g, g < r → g ≠ q → (V.setCell ⟨q, c.toNat, none⟩ (.slice (some ⟨r, 0, none⟩) 2 cap)).heap[g]? = w3.heap[g]? := fun g h1 h3 => by
    rw [heap_setCell_other _ _ _ _ h3, hV.block g h1, ← hS, heap_setCell_other _ _ _ _ h3]
  have old : ∀ g, g < W.heap.size → g ≠ q → g ≠ t → (V.setCell ⟨q, c.toNat, none⟩ (.slice (some ⟨r, 0, none⟩) 2 cap)).heap[g]? = W.heap[g]? := fun g h1 h3 h4 => by
    rw [other g (by omega) h3, hg.block g (by omega) (fun e => h4 (by cases e; rfl)), h2.block g h1]
  refine ⟨⟨(L.set 256 (.slice (some ⟨t, 0, none⟩) (k + 1) 3)).set c.toNat (.slice (some ⟨r, 0, none⟩) 2 cap), by simp [hL1], ?_, ?_, ?_⟩, ?_, h.ne, h.leq, h.let', ?_⟩
  · rw [qF]
    congr 2
    apply Array.ext'
    simp
  · rw [List.getElem?_set_ne (by omega), List.getElem?_set_self (by omega)]
  · intro d
    by_cases hd : d = c
    · subst hd
      refine ⟨_, List.getElem?_set_self (by rw [List.length_set]; omega), .inr ⟨(ord_mem hk).2 (.inr rfl), r, cap, rfl, by simpa [World.setCell] using hrV, by omega, by omega, fun j u hj => ?_⟩⟩
      rw [World.cell?_setCell_other _ _ _ _ (by intro e; have := congrArg Addr.block e; simp at this; omega)]
      exact hc j u hj
    · have hne : c.toNat ≠ d.toNat := fun e => hd (UInt8.toNat_inj.1 e).symm
      have hd256 : d.toNat < 256 := d.toNat_lt
      obtain ⟨v, hv, hcv⟩ := hL4 d
      refine ⟨v, by rw [List.getElem?_set_ne hne, List.getElem?_set_ne (by omega)]; exact hv, ?_⟩
      rcases hcv with ⟨hn, hv⟩ | ⟨hm, g, cap', hv, hgl, h1, h3, hcc⟩
      · exact .inl ⟨fun hm => (((ord_mem hk).1 hm).elim hn hd), hv⟩
      · have hfs : (V.setCell ⟨q, c.toNat, none⟩ (.slice (some ⟨r, 0, none⟩) 2 cap)).heap.size = V.heap.size := by simp [World.setCell]
        exact .inr ⟨(ord_mem hk).2 (.inl hm), g, cap', hv, by omega, h1, h3, fun j u hj => (World.cell?_of_block (w := W) (a := ⟨g, j, none⟩) (old g hgl h1 (by omega))).trans (hcc j u hj)⟩
  · rw [← hl]
    exact own_heap ho (other t (by omega) (Ne.symm h.ne))
  · have hBW : B ≤ W.heap.size := Nat.le_trans h.let' (Nat.le_of_lt htW)
    refine Below.setCell ?_ (p := ⟨q, c.toNat, none⟩) h.leq _
    refine Below.trans ?_ (hV.mono (by omega))
    rw [← hS]
    refine Below.setCell ?_ (p := ⟨q, 256, none⟩) h.leq _
    exact (h.below.trans (h2.mono hBW)).grown hg (by omega) (fun k' e => by cases e; exact h.let')
/-- The bytes of a text, new. -/
theorem esc_bytes (S : World) (c : UInt8) : ∃ V cap, (convert 9 57 (.string ⟨(escOf c).toArray⟩)).run Tryz.prog S = .ok (.slice (some ⟨S.heap.size, 0, none⟩) (escOf c).length cap) V ∧ Below S.heap.size S V ∧ S.heap.size < V.heap.size ∧ ∀ j u, (Lib.byteCells (escOf c))[j]? = some u → V.cell? ⟨S.heap.size, j, none⟩ = some u := by
  have h := run_bytes_of_string (P := Tryz.prog) S 9 57 5 ⟨(escOf c).toArray⟩ Tryz.underlying9 Tryz.underlying57 Tryz.underlying5
  have hsz : (⟨(escOf c).toArray⟩ : ByteArray).size = (escOf c).length := by rw [Lib.size_eq]
  rw [hsz] at h
  refine ⟨_, _, h, (Below.refl _ S).drew.alloc (Nat.le_refl _) _, by simp, fun j u hj => ?_⟩
  have hj2 := hj
  unfold Lib.byteCells at hj
  rw [List.getElem?_map] at hj
  obtain ⟨b, hb, rfl⟩ := Option.map_eq_some_iff.1 hj
  obtain ⟨hlt, hbe⟩ := List.getElem?_eq_some_iff.1 hb
  have h1 := World.cell?_alloc_mark S.drew (bytesRow ⟨(escOf c).toArray⟩ (grownCap S (escOf c).length 0 5)) 5 ((bytesRow ⟨(escOf c).toArray⟩ (grownCap S (escOf c).length 0 5)).size, (bytesRow ⟨(escOf c).toArray⟩ (grownCap S (escOf c).length 0 5)).size + 1) j
  refine h1.trans ?_
  rw [bytesRow_at _ _ _ (by simpa using hlt)]
  simp [hbe]

/-- What a round leaves. -/
theorem round_tail {k q t B : Nat} {w0 W W2 w3 : World} {c : UInt8} {L : List Value} (h : RB k q t B w0 W) (hk : ordS[k]? = some c) (hl : lookS.take k ++ [.string ⟨#[c]⟩] = lookS.take (k + 1))
    (h2 : Below W.heap.size W W2) (hg : W2.grownBy w3 (some t)) (ho : w3.ownsRow B 9 1 (.slice (some ⟨t, 0, none⟩) (k + 1) 3) (k + 1) (lookS.take k ++ [.string ⟨#[c]⟩]))
    (hL2 : W.heap[q]? = some (.cells L.toArray 118 (0, 0))) (hL3 : L[256]? = some (.slice (some ⟨t, 0, none⟩) k 3)) (hL4 : L[c.toNat]? = some (.slice none 0 0)) :
    ∃ (S V : World) (r cap : Nat), w3.setCell ⟨q, 256, none⟩ (.slice (some ⟨t, 0, none⟩) (k + 1) 3) = S ∧ (convert 9 57 (.string ⟨(escOf c).toArray⟩)).run Tryz.prog S = .ok (.slice (some ⟨r, 0, none⟩) 2 cap) V ∧
      w3.cell? ⟨q, 256, none⟩ = some (.slice (some ⟨t, 0, none⟩) k 3) ∧ w3.frozen? ⟨q, 256, none⟩ = false ∧ V.cell? ⟨q, c.toNat, none⟩ = some (.slice none 0 0) ∧ V.frozen? ⟨q, c.toNat, none⟩ = false ∧
      Hid (RB (k + 1) q t B w0 (V.setCell ⟨q, c.toNat, none⟩ (.slice (some ⟨r, 0, none⟩) 2 cap))) := by
  have hqW := h.lt
  have hs2 := h2.size
  have hs3 := hg.size
  have hc256 : c.toNat < 256 := c.toNat_lt
  have q3 : w3.heap[q]? = some (.cells L.toArray 118 (0, 0)) := (hg.block q (by omega) (fun e => h.ne (by cases e; rfl))).trans ((h2.block q hqW).trans hL2)
  obtain ⟨S, hS⟩ : ∃ S, w3.setCell ⟨q, 256, none⟩ (.slice (some ⟨t, 0, none⟩) (k + 1) 3) = S := ⟨_, rfl⟩
  have qS : S.heap[q]? = some (.cells (L.toArray.setIfInBounds 256 (.slice (some ⟨t, 0, none⟩) (k + 1) 3)) 118 (0, 0)) := by
    rw [← hS]
    exact heap_setCell_same w3 q 256 _ _ _ q3
  have hsS : S.heap.size = w3.heap.size := by rw [← hS]; simp [World.setCell]
  obtain ⟨V, cap, hcv, hV, hlt, hcc⟩ := esc_bytes S c
  have qV := (hV.block q (by omega)).trans qS
  have h2l : (escOf c).length = 2 := by
    apply escOf_two
    match k, hk with
    | 0, h => cases h; rfl
    | 1, h => cases h; rfl
    | 2, h => cases h; rfl
  rw [h2l] at hcv
  refine ⟨S, V, _, cap, hS, hcv, (Lib.cell_of_heap q3 256).trans ((List.getElem?_toArray).trans hL3), Lib.frozen_of_heap q3 256, ?_, Lib.frozen_of_heap qV _, Lib.hid (h.step hk hl h2 hg ho hS rfl hV hlt hcc)⟩
  rw [Lib.cell_of_heap qV, Array.getElem?_setIfInBounds_ne (by omega), List.getElem?_toArray]
  exact hL4
end Go.Proofs.YtdkagjbedinhjaaGreat
end

section
namespace Go.Proofs.YtdkagjbedinhjaaGreat
open Go.RowKit Go.Shelf

set_option maxRecDepth 100000 in
set_option maxHeartbeats 4000000 in
theorem build_six (b g c : Nat) (x0 x1 x2 x3 : Value) (w : World) (hb : w.heap[b]? = some (.cells #[x0, x1, x2, x3, .slice (some ⟨g, 0, none⟩) 6 c] 88 (0, 0))) (hg : g < w.heap.size) (hc : ∀ j u, sixCells[j]? = some u → w.cell? ⟨g, j, none⟩ = some u) :
    Calls Tryz.prog 61 #[.pointer (some ⟨b, 0, none⟩)] w fun e w' => (∃ q, e = .returned (.iface 119 (.pointer (some ⟨q, 0, none⟩))) ∧ RB 3 q w.heap.size w.heap.size w w') ∧ Below w.heap.size w w' := by
  have c0 := hc 0 _ rfl
  have c1 := hc 1 _ rfl
  have c2 := hc 2 _ rfl
  have c3 := hc 3 _ rfl
  have c4 := hc 4 _ rfl
  have c5 := hc 5 _ rfl
  have cb : w.cell? ⟨b, 4, none⟩ = some (.slice (some ⟨g, 0, none⟩) 6 c) := by rw [Lib.cell_of_heap hb]; rfl
  go_enter Tryz.func61, Tryz.ntmps61
  go_wp2_with fail
  refine wp_loop_rounds 4 ?_
  rw [rounds_succ]
  go_wp2_with fail
  rw [rounds_succ]
  go_wp2_with fail
  rw [rounds_succ]
  go_wp2_with fail
  rw [rounds_succ]
  obtain ⟨i0, hi, hz0, hz1, hz2⟩ := info_parts infoStr
  go_wp2_with (at_make; refine wpList_make_own _ rfl _ _ 22 rfl w.heap.size 9 i0 (.string ⟨#[]⟩) 1 Tryz.underlying22 hi hz0 hz1 .i64 .i64 _ 3 rfl rfl (by decide) (by rw [hz2]; omega) (by unfold maxLen; omega) (Nat.le_refl _) ?_; intro w0 hown0 hgrow0; have HOWN := Lib.hid hown0; have HGR := Lib.hid hgrow0; have hst := store_bsr w0 (.slice (some ⟨w.heap.size, 0, none⟩) 0 3) rfl; clear hown0 hgrow0)
  have HRB := Lib.hid (RB.start HOWN.out HGR.out)
  obtain ⟨t, ht⟩ : ∃ t, w.heap.size = t := ⟨_, rfl⟩
  obtain ⟨q, hq⟩ : ∃ q, w0.heap.size = q := ⟨_, rfl⟩
  rw [ht, hq] at HRB ⊢
  obtain ⟨W, hW⟩ : ∃ W, w0.alloc (.cells (cellsB (.slice (some ⟨t, 0, none⟩) 0 3)).toArray 118) = W := ⟨_, rfl⟩
  rw [hW] at HRB ⊢
  clear hst hW HOWN HGR
  have heq := eql_nil
  have HG := Lib.hid (show g < t by rw [← ht]; exact hg)
  have HC := Lib.hid hc
  have HT := Lib.hid ht
  clear hg hc c0 c1 c2 c3 c4 c5 cb hb hz0 hz2 ht hq
  clear w0
  refine wp_loop_rounds 4 ?_
  obtain ⟨L, hL1, hL2, hL3, hL4⟩ := HRB.out.row
  have r256 : W.cell? ⟨q, 256, none⟩ = some (.slice (some ⟨t, 0, none⟩) 0 3) := by rw [Lib.cell_of_heap hL2, List.getElem?_toArray]; exact hL3
  obtain ⟨v, hv, hcv⟩ := hL4 10
  have hvn : v = .slice none 0 0 := by
    rcases hcv with ⟨_, h⟩ | ⟨h, _⟩
    · exact h
    · exact absurd h (by decide)
  subst hvn
  have rc : W.cell? ⟨q, 10, none⟩ = some (.slice none 0 0) := by
    rw [Lib.cell_of_heap hL2, List.getElem?_toArray]
    exact hv
  have s1 : W.cell? ⟨g, 4, none⟩ = some (.string ⟨(#[10] : Array UInt8)⟩) := (HRB.out.below.cell (p := ⟨g, 4, none⟩) HG.out).trans (HC.out 4 _ rfl)
  have s2 : W.cell? ⟨g, 5, none⟩ = some (.string ⟨(escOf 10).toArray⟩) := (HRB.out.below.cell (p := ⟨g, 5, none⟩) HG.out).trans (HC.out 5 _ rfl)
  have hx : ((⟨(#[10] : Array UInt8)⟩ : ByteArray)[0]'(by decide)).toNat = 10 := rfl
  have hback : (convert 57 9 (.slice (some ⟨W.heap.size, 0, none⟩) 1 1)).run Tryz.prog (W.alloc (.cells #[.int .u8 10] 5)) = .ok (.string ⟨(#[10] : Array UInt8)⟩) (W.alloc (.cells #[.int .u8 10] 5)) := run_convert_bytes_back (P := Tryz.prog) _ _ _ 5 ⟨W.heap.size, 0, none⟩ 1 [10] Tryz.underlying57 Tryz.underlying5 Tryz.underlying9 (fun j hj => by
    have h0 : j = 0 := by simpa using hj
    subst h0
    rw [Addr.add_lit, Lib.cell_of_heap (Go.heap_alloc_new _ _)]
    rfl)
  obtain ⟨W2, hW2⟩ : ∃ W2, (W.alloc (.cells #[.int .u8 10] 5)).alloc (.cells #[.string ⟨(#[10] : Array UInt8)⟩] 9) = W2 := ⟨_, rfl⟩
  have HB2 := Lib.hid (show Below W.heap.size W W2 by rw [← hW2]; exact ((Below.refl _ W).alloc (Nat.le_refl _) _).alloc (by simp) _)
  have OWN2 := Lib.hid (show W2.ownsRow t 9 1 (.slice (some ⟨t, 0, none⟩) 0 3) 0 (lookS.take 0) by rw [← hW2]; exact (HRB.out.own.alloc _).alloc _)
  have HS2 := Lib.hid (show W2.cell? ⟨W.heap.size + 1, 0, none⟩ = some (.string ⟨(#[10] : Array UInt8)⟩) by rw [← hW2, show W.heap.size + 1 = (W.alloc (.cells #[.int .u8 10] 5)).heap.size by simp, Lib.cell_of_heap (Go.heap_alloc_new _ _)]; rfl)
  have HW2 := Lib.hid hW2
  have HL2 := Lib.hid hL2
  have HL3 := Lib.hid hL3
  have HV0 := Lib.hid hv
  clear hW2 hL2 hL3 hv hL1 hL4 hcv
  rw [rounds_succ]
  go_wp2_with (at_builtin; rw [HW2.out]; refine wpList_append_fits _ rfl _ _ 22 rfl t 9 i0 1 Tryz.underlying22 hi hz1 t 0 3 (lookS.take 0) rfl OWN2.out ⟨W.heap.size + 1, 0, none⟩ 1 1 [.string ⟨(#[10] : Array UInt8)⟩] rfl rfl (fun j u hj => by rw [Addr.add_lit, Nat.zero_add]; cases j with | zero => cases hj; exact HS2.out | succ j => cases j <;> cases hj) (by intro u hu; cases List.mem_singleton.1 hu; rfl) (by decide) ?_; intro w3 ho3 hg3; obtain ⟨S3, V, r, cap, hS3', hcv, r3, f3, rV', fV', HR'⟩ := round_tail HRB.out (c := 10) rfl rfl HB2.out hg3 ho3 HL2.out HL3.out HV0.out; have hS3 : w3.setCell ⟨q, 256, none⟩ (.slice (some ⟨t, 0, none⟩) 1 3) = S3 := hS3'; have rV : V.cell? ⟨q, 10, none⟩ = some (.slice none 0 0) := rV'; have fV : V.frozen? ⟨q, 10, none⟩ = false := fV'; have HR : Hid (RB 1 q t t w (V.setCell ⟨q, 10, none⟩ (.slice (some ⟨r, 0, none⟩) 2 cap))) := HR'; clear ho3 hg3 hS3' rV' fV' HR')
  clear HRB r256 rc s1 s2 hx hback HB2 OWN2 HS2 HW2 HL2 HL3 HV0 hS3 hcv r3 f3 rV fV
  obtain ⟨W1z, hW'⟩ : ∃ W1z, V.setCell ⟨q, 10, none⟩ (.slice (some ⟨r, 0, none⟩) 2 cap) = W1z := ⟨_, rfl⟩
  rw [hW'] at HR ⊢
  clear hW'
  have HRB := HR
  clear HR
  obtain ⟨L, hL1, hL2, hL3, hL4⟩ := HRB.out.row
  have r256 : W1z.cell? ⟨q, 256, none⟩ = some (.slice (some ⟨t, 0, none⟩) 1 3) := by rw [Lib.cell_of_heap hL2, List.getElem?_toArray]; exact hL3
  obtain ⟨v, hv, hcv⟩ := hL4 34
  have hvn : v = .slice none 0 0 := by
    rcases hcv with ⟨_, h⟩ | ⟨h, _⟩
    · exact h
    · exact absurd h (by decide)
  subst hvn
  have rc : W1z.cell? ⟨q, 34, none⟩ = some (.slice none 0 0) := by
    rw [Lib.cell_of_heap hL2, List.getElem?_toArray]
    exact hv
  have s1 : W1z.cell? ⟨g, 2, none⟩ = some (.string ⟨(#[34] : Array UInt8)⟩) := (HRB.out.below.cell (p := ⟨g, 2, none⟩) HG.out).trans (HC.out 2 _ rfl)
  have s2 : W1z.cell? ⟨g, 3, none⟩ = some (.string ⟨(escOf 34).toArray⟩) := (HRB.out.below.cell (p := ⟨g, 3, none⟩) HG.out).trans (HC.out 3 _ rfl)
  have hx : ((⟨(#[34] : Array UInt8)⟩ : ByteArray)[0]'(by decide)).toNat = 34 := rfl
  have hback : (convert 57 9 (.slice (some ⟨W1z.heap.size, 0, none⟩) 1 1)).run Tryz.prog (W1z.alloc (.cells #[.int .u8 34] 5)) = .ok (.string ⟨(#[34] : Array UInt8)⟩) (W1z.alloc (.cells #[.int .u8 34] 5)) := run_convert_bytes_back (P := Tryz.prog) _ _ _ 5 ⟨W1z.heap.size, 0, none⟩ 1 [34] Tryz.underlying57 Tryz.underlying5 Tryz.underlying9 (fun j hj => by
    have h0 : j = 0 := by simpa using hj
    subst h0
    rw [Addr.add_lit, Lib.cell_of_heap (Go.heap_alloc_new _ _)]
    rfl)
  obtain ⟨W2, hW2⟩ : ∃ W2, (W1z.alloc (.cells #[.int .u8 34] 5)).alloc (.cells #[.string ⟨(#[34] : Array UInt8)⟩] 9) = W2 := ⟨_, rfl⟩
  have HB2 := Lib.hid (show Below W1z.heap.size W1z W2 by rw [← hW2]; exact ((Below.refl _ W1z).alloc (Nat.le_refl _) _).alloc (by simp) _)
  have OWN2 := Lib.hid (show W2.ownsRow t 9 1 (.slice (some ⟨t, 0, none⟩) 1 3) 1 (lookS.take 1) by rw [← hW2]; exact (HRB.out.own.alloc _).alloc _)
  have HS2 := Lib.hid (show W2.cell? ⟨W1z.heap.size + 1, 0, none⟩ = some (.string ⟨(#[34] : Array UInt8)⟩) by rw [← hW2, show W1z.heap.size + 1 = (W1z.alloc (.cells #[.int .u8 34] 5)).heap.size by simp, Lib.cell_of_heap (Go.heap_alloc_new _ _)]; rfl)
  have HW2 := Lib.hid hW2
  have HL2 := Lib.hid hL2
  have HL3 := Lib.hid hL3
  have HV0 := Lib.hid hv
  clear hW2 hL2 hL3 hv hL1 hL4 hcv
  rw [rounds_succ]
  go_wp2_with (at_builtin; rw [HW2.out]; refine wpList_append_fits _ rfl _ _ 22 rfl t 9 i0 1 Tryz.underlying22 hi hz1 t 1 3 (lookS.take 1) rfl OWN2.out ⟨W1z.heap.size + 1, 0, none⟩ 1 1 [.string ⟨(#[34] : Array UInt8)⟩] rfl rfl (fun j u hj => by rw [Addr.add_lit, Nat.zero_add]; cases j with | zero => cases hj; exact HS2.out | succ j => cases j <;> cases hj) (by intro u hu; cases List.mem_singleton.1 hu; rfl) (by decide) ?_; intro w3 ho3 hg3; obtain ⟨S3, V, r, cap, hS3', hcv, r3, f3, rV', fV', HR'⟩ := round_tail HRB.out (c := 34) rfl rfl HB2.out hg3 ho3 HL2.out HL3.out HV0.out; have hS3 : w3.setCell ⟨q, 256, none⟩ (.slice (some ⟨t, 0, none⟩) 2 3) = S3 := hS3'; have rV : V.cell? ⟨q, 34, none⟩ = some (.slice none 0 0) := rV'; have fV : V.frozen? ⟨q, 34, none⟩ = false := fV'; have HR : Hid (RB 2 q t t w (V.setCell ⟨q, 34, none⟩ (.slice (some ⟨r, 0, none⟩) 2 cap))) := HR'; clear ho3 hg3 hS3' rV' fV' HR')
  clear HRB r256 rc s1 s2 hx hback HB2 OWN2 HS2 HW2 HL2 HL3 HV0 hS3 hcv r3 f3 rV fV
  obtain ⟨W2z, hW'⟩ : ∃ W2z, V.setCell ⟨q, 34, none⟩ (.slice (some ⟨r, 0, none⟩) 2 cap) = W2z := ⟨_, rfl⟩
  rw [hW'] at HR ⊢
  clear hW'
  have HRB := HR
  clear HR
  obtain ⟨L, hL1, hL2, hL3, hL4⟩ := HRB.out.row
  have r256 : W2z.cell? ⟨q, 256, none⟩ = some (.slice (some ⟨t, 0, none⟩) 2 3) := by rw [Lib.cell_of_heap hL2, List.getElem?_toArray]; exact hL3
  obtain ⟨v, hv, hcv⟩ := hL4 92
  have hvn : v = .slice none 0 0 := by
    rcases hcv with ⟨_, h⟩ | ⟨h, _⟩
    · exact h
    · exact absurd h (by decide)
  subst hvn
  have rc : W2z.cell? ⟨q, 92, none⟩ = some (.slice none 0 0) := by
    rw [Lib.cell_of_heap hL2, List.getElem?_toArray]
    exact hv
  have s1 : W2z.cell? ⟨g, 0, none⟩ = some (.string ⟨(#[92] : Array UInt8)⟩) := (HRB.out.below.cell (p := ⟨g, 0, none⟩) HG.out).trans (HC.out 0 _ rfl)
  have s2 : W2z.cell? ⟨g, 1, none⟩ = some (.string ⟨(escOf 92).toArray⟩) := (HRB.out.below.cell (p := ⟨g, 1, none⟩) HG.out).trans (HC.out 1 _ rfl)
  have hx : ((⟨(#[92] : Array UInt8)⟩ : ByteArray)[0]'(by decide)).toNat = 92 := rfl
  have hback : (convert 57 9 (.slice (some ⟨W2z.heap.size, 0, none⟩) 1 1)).run Tryz.prog (W2z.alloc (.cells #[.int .u8 92] 5)) = .ok (.string ⟨(#[92] : Array UInt8)⟩) (W2z.alloc (.cells #[.int .u8 92] 5)) := run_convert_bytes_back (P := Tryz.prog) _ _ _ 5 ⟨W2z.heap.size, 0, none⟩ 1 [92] Tryz.underlying57 Tryz.underlying5 Tryz.underlying9 (fun j hj => by
    have h0 : j = 0 := by simpa using hj
    subst h0
    rw [Addr.add_lit, Lib.cell_of_heap (Go.heap_alloc_new _ _)]
    rfl)
  obtain ⟨W2, hW2⟩ : ∃ W2, (W2z.alloc (.cells #[.int .u8 92] 5)).alloc (.cells #[.string ⟨(#[92] : Array UInt8)⟩] 9) = W2 := ⟨_, rfl⟩
  have HB2 := Lib.hid (show Below W2z.heap.size W2z W2 by rw [← hW2]; exact ((Below.refl _ W2z).alloc (Nat.le_refl _) _).alloc (by simp) _)
  have OWN2 := Lib.hid (show W2.ownsRow t 9 1 (.slice (some ⟨t, 0, none⟩) 2 3) 2 (lookS.take 2) by rw [← hW2]; exact (HRB.out.own.alloc _).alloc _)
  have HS2 := Lib.hid (show W2.cell? ⟨W2z.heap.size + 1, 0, none⟩ = some (.string ⟨(#[92] : Array UInt8)⟩) by rw [← hW2, show W2z.heap.size + 1 = (W2z.alloc (.cells #[.int .u8 92] 5)).heap.size by simp, Lib.cell_of_heap (Go.heap_alloc_new _ _)]; rfl)
  have HW2 := Lib.hid hW2
  have HL2 := Lib.hid hL2
  have HL3 := Lib.hid hL3
  have HV0 := Lib.hid hv
  clear hW2 hL2 hL3 hv hL1 hL4 hcv
  rw [rounds_succ]
  go_wp2_with (at_builtin; rw [HW2.out]; refine wpList_append_fits _ rfl _ _ 22 rfl t 9 i0 1 Tryz.underlying22 hi hz1 t 2 3 (lookS.take 2) rfl OWN2.out ⟨W2z.heap.size + 1, 0, none⟩ 1 1 [.string ⟨(#[92] : Array UInt8)⟩] rfl rfl (fun j u hj => by rw [Addr.add_lit, Nat.zero_add]; cases j with | zero => cases hj; exact HS2.out | succ j => cases j <;> cases hj) (by intro u hu; cases List.mem_singleton.1 hu; rfl) (by decide) ?_; intro w3 ho3 hg3; obtain ⟨S3, V, r, cap, hS3', hcv, r3, f3, rV', fV', HR'⟩ := round_tail HRB.out (c := 92) rfl rfl HB2.out hg3 ho3 HL2.out HL3.out HV0.out; have hS3 : w3.setCell ⟨q, 256, none⟩ (.slice (some ⟨t, 0, none⟩) 3 3) = S3 := hS3'; have rV : V.cell? ⟨q, 92, none⟩ = some (.slice none 0 0) := rV'; have fV : V.frozen? ⟨q, 92, none⟩ = false := fV'; have HR : Hid (RB 3 q t t w (V.setCell ⟨q, 92, none⟩ (.slice (some ⟨r, 0, none⟩) 2 cap))) := HR'; clear ho3 hg3 hS3' rV' fV' HR')
  clear HRB r256 rc s1 s2 hx hback HB2 OWN2 HS2 HW2 HL2 HL3 HV0 hS3 hcv r3 f3 rV fV
  obtain ⟨W3z, hW'⟩ : ∃ W3z, V.setCell ⟨q, 92, none⟩ (.slice (some ⟨r, 0, none⟩) 2 cap) = W3z := ⟨_, rfl⟩
  rw [hW'] at HR ⊢
  clear hW'
  have HRB := HR
  clear HR
  rw [rounds_succ]
  go_wp2_with fail
  go_ret
  exact ⟨⟨_, rfl, by rw [HT.out]; exact HRB.out⟩, by rw [HT.out]; exact HRB.out.below⟩

theorem spB_ord (c : UInt8) : spB c = true ↔ c ∈ ordS := by
  unfold spB ordS
  simp only [Bool.or_eq_true, beq_iff_eq, List.mem_cons, List.not_mem_nil, or_false]
  constructor
  · rintro ((h | h) | h) <;> simp [h]
  · rintro (h | h | h) <;> simp [h]
theorem RB.done {q t B : Nat} {w0 w w' : World} (h : RB 3 q t B w0 w) (hq : t ≤ q) (hs : w.heap.size ≤ w'.heap.size) (hw : ∀ g, t ≤ g → g < w.heap.size → w'.heap[g]? = w.heap[g]?) : BSR q w' := by
  obtain ⟨L, hL1, hL2, hL3, hL4⟩ := h.row
  have hqw := hw q hq h.lt
  refine ⟨Nat.lt_of_lt_of_le h.lt hs, fun c => ?_, ?_⟩
  · obtain ⟨v, hv, hcv⟩ := hL4 c
    refine ⟨v, by rw [Lib.cell_of_heap (hqw.trans hL2), List.getElem?_toArray]; exact hv, ?_⟩
    rcases hcv with ⟨hn, rfl⟩ | ⟨hm, g, cap, rfl, hg, _, htg, hc⟩
    · exact .inl ⟨Bool.eq_false_iff.2 fun hs => hn ((spB_ord c).1 hs), rfl⟩
    · exact .inr ⟨(spB_ord c).2 hm, g, cap, rfl, by omega, fun j u hj => (World.cell?_of_block (w := w) (a := ⟨g, j, none⟩) (hw g (by omega) hg)).trans (hc j u hj)⟩
  · have htl := (h.own.lt t rfl).2
    refine ⟨t, by rw [Lib.cell_of_heap (hqw.trans hL2), List.getElem?_toArray]; exact hL3, by omega, fun j u hj => ?_⟩
    have hj3 : j < 3 := (List.getElem?_eq_some_iff.1 hj).1
    exact (World.cell?_of_block (w := w) (a := ⟨t, j, none⟩) (hw t (Nat.le_refl _) htl)).trans ((h.own.cellAt j hj3).trans hj)
end Go.Proofs.YtdkagjbedinhjaaGreat
end

