/-
  The Replacer of the six texts, built: the walk.
-/
import Derived.Test.YtdkagjbedinhjaaGreatE5
namespace Go.Proofs.YtdkagjbedinhjaaGreat
open Go.RowKit Go.Shelf

set_option maxRecDepth 100000 in
set_option maxHeartbeats 4000000 in
theorem build_six (b g c : Nat) (x0 x1 x2 x3 : Value) (w : World) (hb : w.heap[b]? = some (.cells #[x0, x1, x2, x3, .slice (some ⟨g, 0, none⟩) 6 c] 88 (0, 0))) (hg : g < w.heap.size) (hc : ∀ j u, sixCells[j]? = some u → w.cell? ⟨g, j, none⟩ = some u) :
    Calls Tryz.prog 61 #[.pointer (some ⟨b, 0, none⟩)] w fun e w' => (∃ q, e = .returned (.iface 119 (.pointer (some ⟨q, 0, none⟩))) ∧ RB 3 q w.heap.size w.heap.size w w') ∧ Below w.heap.size w w' := by
  have c0 := hc 0 _ rfl
  have c1 := hc 1 _ rfl
  have c2 := hc 2 _ rfl
  have c3 := hc 3 _ rfl
  have c4 := hc 4 _ rfl
  have c5 := hc 5 _ rfl
  have cb : w.cell? ⟨b, 4, none⟩ = some (.slice (some ⟨g, 0, none⟩) 6 c) := by rw [Lib.cell_of_heap hb]; rfl
  go_enter Tryz.func61, Tryz.ntmps61
  go_wp2_with fail
  refine wp_loop_rounds 4 ?_
  rw [rounds_succ]
  go_wp2_with fail
  rw [rounds_succ]
  go_wp2_with fail
  rw [rounds_succ]
  go_wp2_with fail
  rw [rounds_succ]
  obtain ⟨i0, hi, hz0, hz1, hz2⟩ := info_parts infoStr
  go_wp2_with (at_make; refine wpList_make_own _ rfl _ _ 22 rfl w.heap.size 9 i0 (.string ⟨#[]⟩) 1 Tryz.underlying22 hi hz0 hz1 .i64 .i64 _ 3 rfl rfl (by decide) (by rw [hz2]; omega) (by unfold maxLen; omega) (Nat.le_refl _) ?_; intro w0 hown0 hgrow0; have HOWN := Lib.hid hown0; have HGR := Lib.hid hgrow0; have hst := store_bsr w0 (.slice (some ⟨w.heap.size, 0, none⟩) 0 3) rfl; clear hown0 hgrow0)
  have HRB := Lib.hid (RB.start HOWN.out HGR.out)
  obtain ⟨t, ht⟩ : ∃ t, w.heap.size = t := ⟨_, rfl⟩
  obtain ⟨q, hq⟩ : ∃ q, w0.heap.size = q := ⟨_, rfl⟩
  rw [ht, hq] at HRB ⊢
  obtain ⟨W, hW⟩ : ∃ W, w0.alloc (.cells (cellsB (.slice (some ⟨t, 0, none⟩) 0 3)).toArray 118) = W := ⟨_, rfl⟩
  rw [hW] at HRB ⊢
  clear hst hW HOWN HGR
  have heq := eql_nil
  have HG := Lib.hid (show g < t by rw [← ht]; exact hg)
  have HC := Lib.hid hc
  have HT := Lib.hid ht
  clear hg hc c0 c1 c2 c3 c4 c5 cb hb hz0 hz2 ht hq
  clear w0
  refine wp_loop_rounds 4 ?_
  obtain ⟨L, hL1, hL2, hL3, hL4⟩ := HRB.out.row
  have r256 : W.cell? ⟨q, 256, none⟩ = some (.slice (some ⟨t, 0, none⟩) 0 3) := by rw [Lib.cell_of_heap hL2, List.getElem?_toArray]; exact hL3
  obtain ⟨v, hv, hcv⟩ := hL4 10
  have hvn : v = .slice none 0 0 := by
    rcases hcv with ⟨_, h⟩ | ⟨h, _⟩
    · exact h
    · exact absurd h (by decide)
  subst hvn
  have rc : W.cell? ⟨q, 10, none⟩ = some (.slice none 0 0) := by
    rw [Lib.cell_of_heap hL2, List.getElem?_toArray]
    exact hv
  have s1 : W.cell? ⟨g, 4, none⟩ = some (.string ⟨(#[10] : Array UInt8)⟩) := (HRB.out.below.cell (p := ⟨g, 4, none⟩) HG.out).trans (HC.out 4 _ rfl)
  have s2 : W.cell? ⟨g, 5, none⟩ = some (.string ⟨(escOf 10).toArray⟩) := (HRB.out.below.cell (p := ⟨g, 5, none⟩) HG.out).trans (HC.out 5 _ rfl)
  have hx : ((⟨(#[10] : Array UInt8)⟩ : ByteArray)[0]'(by decide)).toNat = 10 := rfl
  have hback : (convert 57 9 (.slice (some ⟨W.heap.size, 0, none⟩) 1 1)).run Tryz.prog (W.alloc (.cells #[.int .u8 10] 5)) = .ok (.string ⟨(#[10] : Array UInt8)⟩) (W.alloc (.cells #[.int .u8 10] 5)) := run_convert_bytes_back (P := Tryz.prog) _ _ _ 5 ⟨W.heap.size, 0, none⟩ 1 [10] Tryz.underlying57 Tryz.underlying5 Tryz.underlying9 (fun j hj => by
    have h0 : j = 0 := by simpa using hj
    subst h0
    rw [Addr.add_lit, Lib.cell_of_heap (Go.heap_alloc_new _ _)]
    rfl)
  obtain ⟨W2, hW2⟩ : ∃ W2, (W.alloc (.cells #[.int .u8 10] 5)).alloc (.cells #[.string ⟨(#[10] : Array UInt8)⟩] 9) = W2 := ⟨_, rfl⟩
  have HB2 := Lib.hid (show Below W.heap.size W W2 by rw [← hW2]; exact ((Below.refl _ W).alloc (Nat.le_refl _) _).alloc (by simp) _)
  have OWN2 := Lib.hid (show W2.ownsRow t 9 1 (.slice (some ⟨t, 0, none⟩) 0 3) 0 (lookS.take 0) by rw [← hW2]; exact (HRB.out.own.alloc _).alloc _)
  have HS2 := Lib.hid (show W2.cell? ⟨W.heap.size + 1, 0, none⟩ = some (.string ⟨(#[10] : Array UInt8)⟩) by rw [← hW2, show W.heap.size + 1 = (W.alloc (.cells #[.int .u8 10] 5)).heap.size by simp, Lib.cell_of_heap (Go.heap_alloc_new _ _)]; rfl)
  have HW2 := Lib.hid hW2
  have HL2 := Lib.hid hL2
  have HL3 := Lib.hid hL3
  have HV0 := Lib.hid hv
  clear hW2 hL2 hL3 hv hL1 hL4 hcv
  rw [rounds_succ]
  go_wp2_with (at_builtin; rw [HW2.out]; refine wpList_append_fits _ rfl _ _ 22 rfl t 9 i0 1 Tryz.underlying22 hi hz1 t 0 3 (lookS.take 0) rfl OWN2.out ⟨W.heap.size + 1, 0, none⟩ 1 1 [.string ⟨(#[10] : Array UInt8)⟩] rfl rfl (fun j u hj => by rw [Addr.add_lit, Nat.zero_add]; cases j with | zero => cases hj; exact HS2.out | succ j => cases j <;> cases hj) (by intro u hu; cases List.mem_singleton.1 hu; rfl) (by decide) ?_; intro w3 ho3 hg3; obtain ⟨S3, V, r, cap, hS3', hcv, r3, f3, rV', fV', HR'⟩ := round_tail HRB.out (c := 10) rfl rfl HB2.out hg3 ho3 HL2.out HL3.out HV0.out; have hS3 : w3.setCell ⟨q, 256, none⟩ (.slice (some ⟨t, 0, none⟩) 1 3) = S3 := hS3'; have rV : V.cell? ⟨q, 10, none⟩ = some (.slice none 0 0) := rV'; have fV : V.frozen? ⟨q, 10, none⟩ = false := fV'; have HR : Hid (RB 1 q t t w (V.setCell ⟨q, 10, none⟩ (.slice (some ⟨r, 0, none⟩) 2 cap))) := HR'; clear ho3 hg3 hS3' rV' fV' HR')
  clear HRB r256 rc s1 s2 hx hback HB2 OWN2 HS2 HW2 HL2 HL3 HV0 hS3 hcv r3 f3 rV fV
  obtain ⟨W1z, hW'⟩ : ∃ W1z, V.setCell ⟨q, 10, none⟩ (.slice (some ⟨r, 0, none⟩) 2 cap) = W1z := ⟨_, rfl⟩
  rw [hW'] at HR ⊢
  clear hW'
  have HRB := HR
  clear HR
  obtain ⟨L, hL1, hL2, hL3, hL4⟩ := HRB.out.row
  have r256 : W1z.cell? ⟨q, 256, none⟩ = some (.slice (some ⟨t, 0, none⟩) 1 3) := by rw [Lib.cell_of_heap hL2, List.getElem?_toArray]; exact hL3
  obtain ⟨v, hv, hcv⟩ := hL4 34
  have hvn : v = .slice none 0 0 := by
    rcases hcv with ⟨_, h⟩ | ⟨h, _⟩
    · exact h
    · exact absurd h (by decide)
  subst hvn
  have rc : W1z.cell? ⟨q, 34, none⟩ = some (.slice none 0 0) := by
    rw [Lib.cell_of_heap hL2, List.getElem?_toArray]
    exact hv
  have s1 : W1z.cell? ⟨g, 2, none⟩ = some (.string ⟨(#[34] : Array UInt8)⟩) := (HRB.out.below.cell (p := ⟨g, 2, none⟩) HG.out).trans (HC.out 2 _ rfl)
  have s2 : W1z.cell? ⟨g, 3, none⟩ = some (.string ⟨(escOf 34).toArray⟩) := (HRB.out.below.cell (p := ⟨g, 3, none⟩) HG.out).trans (HC.out 3 _ rfl)
  have hx : ((⟨(#[34] : Array UInt8)⟩ : ByteArray)[0]'(by decide)).toNat = 34 := rfl
  have hback : (convert 57 9 (.slice (some ⟨W1z.heap.size, 0, none⟩) 1 1)).run Tryz.prog (W1z.alloc (.cells #[.int .u8 34] 5)) = .ok (.string ⟨(#[34] : Array UInt8)⟩) (W1z.alloc (.cells #[.int .u8 34] 5)) := run_convert_bytes_back (P := Tryz.prog) _ _ _ 5 ⟨W1z.heap.size, 0, none⟩ 1 [34] Tryz.underlying57 Tryz.underlying5 Tryz.underlying9 (fun j hj => by
    have h0 : j = 0 := by simpa using hj
    subst h0
    rw [Addr.add_lit, Lib.cell_of_heap (Go.heap_alloc_new _ _)]
    rfl)
  obtain ⟨W2, hW2⟩ : ∃ W2, (W1z.alloc (.cells #[.int .u8 34] 5)).alloc (.cells #[.string ⟨(#[34] : Array UInt8)⟩] 9) = W2 := ⟨_, rfl⟩
  have HB2 := Lib.hid (show Below W1z.heap.size W1z W2 by rw [← hW2]; exact ((Below.refl _ W1z).alloc (Nat.le_refl _) _).alloc (by simp) _)
  have OWN2 := Lib.hid (show W2.ownsRow t 9 1 (.slice (some ⟨t, 0, none⟩) 1 3) 1 (lookS.take 1) by rw [← hW2]; exact (HRB.out.own.alloc _).alloc _)
  have HS2 := Lib.hid (show W2.cell? ⟨W1z.heap.size + 1, 0, none⟩ = some (.string ⟨(#[34] : Array UInt8)⟩) by rw [← hW2, show W1z.heap.size + 1 = (W1z.alloc (.cells #[.int .u8 34] 5)).heap.size by simp, Lib.cell_of_heap (Go.heap_alloc_new _ _)]; rfl)
  have HW2 := Lib.hid hW2
  have HL2 := Lib.hid hL2
  have HL3 := Lib.hid hL3
  have HV0 := Lib.hid hv
  clear hW2 hL2 hL3 hv hL1 hL4 hcv
  rw [rounds_succ]
  go_wp2_with (at_builtin; rw [HW2.out]; refine wpList_append_fits _ rfl _ _ 22 rfl t 9 i0 1 Tryz.underlying22 hi hz1 t 1 3 (lookS.take 1) rfl OWN2.out ⟨W1z.heap.size + 1, 0, none⟩ 1 1 [.string ⟨(#[34] : Array UInt8)⟩] rfl rfl (fun j u hj => by rw [Addr.add_lit, Nat.zero_add]; cases j with | zero => cases hj; exact HS2.out | succ j => cases j <;> cases hj) (by intro u hu; cases List.mem_singleton.1 hu; rfl) (by decide) ?_; intro w3 ho3 hg3; obtain ⟨S3, V, r, cap, hS3', hcv, r3, f3, rV', fV', HR'⟩ := round_tail HRB.out (c := 34) rfl rfl HB2.out hg3 ho3 HL2.out HL3.out HV0.out; have hS3 : w3.setCell ⟨q, 256, none⟩ (.slice (some ⟨t, 0, none⟩) 2 3) = S3 := hS3'; have rV : V.cell? ⟨q, 34, none⟩ = some (.slice none 0 0) := rV'; have fV : V.frozen? ⟨q, 34, none⟩ = false := fV'; have HR : Hid (RB 2 q t t w (V.setCell ⟨q, 34, none⟩ (.slice (some ⟨r, 0, none⟩) 2 cap))) := HR'; clear ho3 hg3 hS3' rV' fV' HR')
  clear HRB r256 rc s1 s2 hx hback HB2 OWN2 HS2 HW2 HL2 HL3 HV0 hS3 hcv r3 f3 rV fV
  obtain ⟨W2z, hW'⟩ : ∃ W2z, V.setCell ⟨q, 34, none⟩ (.slice (some ⟨r, 0, none⟩) 2 cap) = W2z := ⟨_, rfl⟩
  rw [hW'] at HR ⊢
  clear hW'
  have HRB := HR
  clear HR
  obtain ⟨L, hL1, hL2, hL3, hL4⟩ := HRB.out.row
  have r256 : W2z.cell? ⟨q, 256, none⟩ = some (.slice (some ⟨t, 0, none⟩) 2 3) := by rw [Lib.cell_of_heap hL2, List.getElem?_toArray]; exact hL3
  obtain ⟨v, hv, hcv⟩ := hL4 92
  have hvn : v = .slice none 0 0 := by
    rcases hcv with ⟨_, h⟩ | ⟨h, _⟩
    · exact h
    · exact absurd h (by decide)
  subst hvn
  have rc : W2z.cell? ⟨q, 92, none⟩ = some (.slice none 0 0) := by
    rw [Lib.cell_of_heap hL2, List.getElem?_toArray]
    exact hv
  have s1 : W2z.cell? ⟨g, 0, none⟩ = some (.string ⟨(#[92] : Array UInt8)⟩) := (HRB.out.below.cell (p := ⟨g, 0, none⟩) HG.out).trans (HC.out 0 _ rfl)
  have s2 : W2z.cell? ⟨g, 1, none⟩ = some (.string ⟨(escOf 92).toArray⟩) := (HRB.out.below.cell (p := ⟨g, 1, none⟩) HG.out).trans (HC.out 1 _ rfl)
  have hx : ((⟨(#[92] : Array UInt8)⟩ : ByteArray)[0]'(by decide)).toNat = 92 := rfl
  have hback : (convert 57 9 (.slice (some ⟨W2z.heap.size, 0, none⟩) 1 1)).run Tryz.prog (W2z.alloc (.cells #[.int .u8 92] 5)) = .ok (.string ⟨(#[92] : Array UInt8)⟩) (W2z.alloc (.cells #[.int .u8 92] 5)) := run_convert_bytes_back (P := Tryz.prog) _ _ _ 5 ⟨W2z.heap.size, 0, none⟩ 1 [92] Tryz.underlying57 Tryz.underlying5 Tryz.underlying9 (fun j hj => by
    have h0 : j = 0 := by simpa using hj
    subst h0
    rw [Addr.add_lit, Lib.cell_of_heap (Go.heap_alloc_new _ _)]
    rfl)
  obtain ⟨W2, hW2⟩ : ∃ W2, (W2z.alloc (.cells #[.int .u8 92] 5)).alloc (.cells #[.string ⟨(#[92] : Array UInt8)⟩] 9) = W2 := ⟨_, rfl⟩
  have HB2 := Lib.hid (show Below W2z.heap.size W2z W2 by rw [← hW2]; exact ((Below.refl _ W2z).alloc (Nat.le_refl _) _).alloc (by simp) _)
  have OWN2 := Lib.hid (show W2.ownsRow t 9 1 (.slice (some ⟨t, 0, none⟩) 2 3) 2 (lookS.take 2) by rw [← hW2]; exact (HRB.out.own.alloc _).alloc _)
  have HS2 := Lib.hid (show W2.cell? ⟨W2z.heap.size + 1, 0, none⟩ = some (.string ⟨(#[92] : Array UInt8)⟩) by rw [← hW2, show W2z.heap.size + 1 = (W2z.alloc (.cells #[.int .u8 92] 5)).heap.size by simp, Lib.cell_of_heap (Go.heap_alloc_new _ _)]; rfl)
  have HW2 := Lib.hid hW2
  have HL2 := Lib.hid hL2
  have HL3 := Lib.hid hL3
  have HV0 := Lib.hid hv
  clear hW2 hL2 hL3 hv hL1 hL4 hcv
  rw [rounds_succ]
  go_wp2_with (at_builtin; rw [HW2.out]; refine wpList_append_fits _ rfl _ _ 22 rfl t 9 i0 1 Tryz.underlying22 hi hz1 t 2 3 (lookS.take 2) rfl OWN2.out ⟨W2z.heap.size + 1, 0, none⟩ 1 1 [.string ⟨(#[92] : Array UInt8)⟩] rfl rfl (fun j u hj => by rw [Addr.add_lit, Nat.zero_add]; cases j with | zero => cases hj; exact HS2.out | succ j => cases j <;> cases hj) (by intro u hu; cases List.mem_singleton.1 hu; rfl) (by decide) ?_; intro w3 ho3 hg3; obtain ⟨S3, V, r, cap, hS3', hcv, r3, f3, rV', fV', HR'⟩ := round_tail HRB.out (c := 92) rfl rfl HB2.out hg3 ho3 HL2.out HL3.out HV0.out; have hS3 : w3.setCell ⟨q, 256, none⟩ (.slice (some ⟨t, 0, none⟩) 3 3) = S3 := hS3'; have rV : V.cell? ⟨q, 92, none⟩ = some (.slice none 0 0) := rV'; have fV : V.frozen? ⟨q, 92, none⟩ = false := fV'; have HR : Hid (RB 3 q t t w (V.setCell ⟨q, 92, none⟩ (.slice (some ⟨r, 0, none⟩) 2 cap))) := HR'; clear ho3 hg3 hS3' rV' fV' HR')
  clear HRB r256 rc s1 s2 hx hback HB2 OWN2 HS2 HW2 HL2 HL3 HV0 hS3 hcv r3 f3 rV fV
  obtain ⟨W3z, hW'⟩ : ∃ W3z, V.setCell ⟨q, 92, none⟩ (.slice (some ⟨r, 0, none⟩) 2 cap) = W3z := ⟨_, rfl⟩
  rw [hW'] at HR ⊢
  clear hW'
  have HRB := HR
  clear HR
  rw [rounds_succ]
  go_wp2_with fail
  go_ret
  exact ⟨⟨_, rfl, by rw [HT.out]; exact HRB.out⟩, by rw [HT.out]; exact HRB.out.below⟩

theorem spB_ord (c : UInt8) : spB c = true ↔ c ∈ ordS := by
  unfold spB ordS
  simp only [Bool.or_eq_true, beq_iff_eq, List.mem_cons, List.not_mem_nil, or_false]
  constructor
  · rintro ((h | h) | h) <;> simp [h]
  · rintro (h | h | h) <;> simp [h]
theorem RB.done {q t B : Nat} {w0 w w' : World} (h : RB 3 q t B w0 w) (hq : t ≤ q) (hs : w.heap.size ≤ w'.heap.size) (hw : ∀ g, t ≤ g → g < w.heap.size → w'.heap[g]? = w.heap[g]?) : BSR q w' := by
  obtain ⟨L, hL1, hL2, hL3, hL4⟩ := h.row
  have hqw := hw q hq h.lt
  refine ⟨Nat.lt_of_lt_of_le h.lt hs, fun c => ?_, ?_⟩
  · obtain ⟨v, hv, hcv⟩ := hL4 c
    refine ⟨v, by rw [Lib.cell_of_heap (hqw.trans hL2), List.getElem?_toArray]; exact hv, ?_⟩
    rcases hcv with ⟨hn, rfl⟩ | ⟨hm, g, cap, rfl, hg, _, htg, hc⟩
    · exact .inl ⟨Bool.eq_false_iff.2 fun hs => hn ((spB_ord c).1 hs), rfl⟩
    · exact .inr ⟨(spB_ord c).2 hm, g, cap, rfl, by omega, fun j u hj => (World.cell?_of_block (w := w) (a := ⟨g, j, none⟩) (hw g (by omega) hg)).trans (hc j u hj)⟩
  · have htl := (h.own.lt t rfl).2
    refine ⟨t, by rw [Lib.cell_of_heap (hqw.trans hL2), List.getElem?_toArray]; exact hL3, by omega, fun j u hj => ?_⟩
    have hj3 : j < 3 := (List.getElem?_eq_some_iff.1 hj).1
    exact (World.cell?_of_block (w := w) (a := ⟨t, j, none⟩) (hw t (Nat.le_refl _) htl)).trans ((h.own.cellAt j hj3).trans hj)
end Go.Proofs.YtdkagjbedinhjaaGreat
