/-
  The scanner's keywords: a map, asked.
-/
import Derived.Test.YtdkagjbedinhjaaGreatS5
import Derived.Maps.Own
namespace Go.Proofs.YtdkagjbedinhjaaGreat
open Go.RowKit Go.Maps Go.WideMaps

/-- How a bool reads as an element of a map. -/
def boolR : Value → Option (DataW Unit × List MemPlace)
  | .bool b => some (.lit (.bool b), [])
  | _ => none
theorem boolR_some {v : Value} {z : DataW Unit × List MemPlace} (h : boolR v = some z) : ∃ b, v = .bool b ∧ z = (.lit (.bool b), []) := by
  unfold boolR at h
  split at h
  · exact ⟨_, rfl, by cases h; rfl⟩
  · cases h
theorem zeroB (w : World) : (zeroValue 4).run Tryz.prog w = .ok (.bool false) w := by kernel_rfl
theorem keyedS : Keyed Tryz.prog 9 := string_keyed Tryz.underlying9

/-- A set of keywords, in a map. -/
def MapK (mb : Nat) (K : ByteArray → Bool) (w : World) : Prop := ∃ (n : Nat) (D : DataW Unit), w.ownsMap Tryz.prog 9 boolR mb n D ∧ Maps.IsMap D ∧ ∀ s : ByteArray, s.size ≤ maxLen → D.atKey (.string s.data.toList) (.lit (.bool false)) = .lit (.bool (K s))
theorem MapK.lt {mb : Nat} {K : ByteArray → Bool} {w : World} (h : MapK mb K w) : mb < w.heap.size := by
  obtain ⟨n, D, h, _⟩ := h
  exact h.lt
theorem MapK.later {mb B : Nat} {K : ByteArray → Bool} {w w' : World} (h : MapK mb K w) (hb : Below B w w') (hB : mb < B) : MapK mb K w' := by
  obtain ⟨n, D, ⟨es, c, h1, h2⟩, h3⟩ := h
  exact ⟨n, D, ⟨es, c, (hb.block mb hB).trans h1, h2⟩, h3⟩
theorem MapK.look {mb : Nat} {K : ByteArray → Bool} {w : World} (h : MapK mb K w) (s : ByteArray) (hs : s.size ≤ maxLen) : (Instr.lookup 40 (.map (some mb)) (.string s) false).run Tryz.prog w = .ok (.bool (K s)) w := by
  obtain ⟨n, D, h1, _, h2⟩ := h
  obtain ⟨v, ps, hr, hv⟩ := World.ownsMap.lookup h1 keyedS Tryz.underlying40 (zeroB _) (show boolR (.bool false) = some (.lit (.bool false), []) from rfl) (keyOf_string_mk Tryz.underlying9 hs)
  obtain ⟨b, rfl, he⟩ := boolR_some hv
  have := (Prod.mk.inj he).1
  rw [h2 s hs] at this
  rw [hr]
  cases this
  rfl

/-- The scanner: its keywords and its text. -/
def ScK (b mb : Nat) (K : ByteArray → Bool) (T : ByteArray) (w : World) : Prop := w.heap[b]? = some (.cells #[.map (some mb), .string T] 53 (0, 0)) ∧ MapK mb K w
theorem ScK.text {b mb : Nat} {K : ByteArray → Bool} {T : ByteArray} {w : World} (h : ScK b mb K T w) : ScT b T w := ⟨_, h.1⟩
theorem ScK.cell0 {b mb : Nat} {K : ByteArray → Bool} {T : ByteArray} {w : World} (h : ScK b mb K T w) : w.cell? ⟨b, 0, none⟩ = some (.map (some mb)) := by
  rw [Lib.cell_of_heap h.1]
  rfl
theorem ScK.later {b mb B : Nat} {K : ByteArray → Bool} {T : ByteArray} {w w' : World} (h : ScK b mb K T w) (hb : Below B w w') (hB : b < B) (hm : mb < B) : ScK b mb K T w' := ⟨(hb.block b hB).trans h.1, h.2.later hb hm⟩
theorem ScK.below {b mb : Nat} {K : ByteArray → Bool} {T : ByteArray} {w w' : World} (h : ScK b mb K T w) (hb : Below w.heap.size w w') : ScK b mb K T w' := h.later hb h.text.lt h.2.lt

/-- Which keyword a text goes on with. -/
def kwLen (K : ByteArray → Bool) (T : ByteArray) (k : Nat) : Nat := if K (T.extract k (k + idLen (from' T k))) then idLen (from' T k) else if K (T.extract k (k + signLen (from' T k))) then signLen (from' T k) else 0

theorem ext_small (T : ByteArray) (a b : Nat) (h : T.size ≤ 100000000) : (T.extract a b).size ≤ maxLen := by
  rw [ByteArray.size_extract]
  unfold maxLen
  omega

set_option maxRecDepth 100000 in
set_option maxHeartbeats 4000000 in
theorem keyword_first (b mb : Nat) (K : ByteArray → Bool) (T : ByteArray) (k : Nat) (w : World) (hS : ScK b mb K T w) (hk : k ≤ T.size) (hT : T.size ≤ 100000000) (h1 : K (T.extract k (k + idLen (from' T k))) = true) :
    CandC 42 b k w (candTok T k 10 (idLen (from' T k))).1 (candTok T k 10 (idLen (from' T k))).2 (k + idLen (from' T k)) := by
  unfold CandC
  obtain ⟨W, hW, hb, hz, ht⟩ := res_laid w
  have hS2 := hS.below hb
  have HId := Lib.hid (identifier_any b T k W hS2.text hk hT)
  have HSg := Lib.hid (sign_any b T k W hS2.text hk hT)
  have hle1 := idLen_from_le T k hk
  have hle2 := signLen_from_le T k hk
  have HTk := Lib.hid fun (V : World) (h : ScT b T V) => token_any b T 10 k (idLen (from' T k)) V h (hle1) hT
  obtain ⟨e1, he1⟩ : ∃ e1, k + idLen (from' T k) = e1 := ⟨_, rfl⟩
  obtain ⟨e2, he2⟩ : ∃ e2, k + signLen (from' T k) = e2 := ⟨_, rfl⟩
  have hk1 : k ≤ e1 := by omega
  have hk2 : k ≤ e2 := by omega
  rw [he1] at HId hle1 h1
  rw [he2] at HSg hle2
  obtain ⟨p, hp⟩ : ∃ p, candTok T k 10 (idLen (from' T k)) = p := ⟨_, rfl⟩
  simp only [he1, hp] at HTk
  rw [he1, hp]
  have pc1 := fun w => piece_run T k e1 hk1 hle1 k e1 rfl rfl w
  have pc2 := fun w => piece_run T k e2 hk2 hle2 k e2 rfl rfl w
  have lk1 : ∀ n, (Instr.lookup 40 (.map (some mb)) (.string (T.extract k e1)) false).run Tryz.prog (W.drewN n) = .ok (.bool true) (W.drewN n) := fun n => by
    have := (hS2.below (below_drewN (Below.refl _ _) n)).2.look (T.extract k e1) (ext_small T _ _ hT)
    rwa [h1] at this
  have ix1 : ∀ w, (Instr.index 92 (.agg #[.int .i64 (e1 : Int), .int .i64 (e2 : Int)]) (.int .i64 0)).run Tryz.prog w = .ok (.int .i64 (e1 : Int)) w := fun _ => by kernel_rfl
  have ix2 : ∀ w, (Instr.index 92 (.agg #[.int .i64 (e1 : Int), .int .i64 (e2 : Int)]) (.int .i64 1)).run Tryz.prog w = .ok (.int .i64 (e2 : Int)) w := fun _ => by kernel_rfl
  have cm := hS2.cell0
  have ct := hS2.text.cell
  have HS2 := Lib.hid hS2
  have HW := Lib.hid hW
  have HB := Lib.hid hb
  have HZ := Lib.hid hz
  have HT := Lib.hid ht
  obtain ⟨q0, q1, q2, f0, f1, f2⟩ := ht.cells
  clear hW hb hz ht hS2 hS he1 he2 h1 hp
  go_enter Tryz.func42, Tryz.ntmps42
  go_wp2_with fail
  rw [HW.out]
  (with_reducible refine HId.out.mono ?_)
  rintro e w' ⟨rfl, rfl⟩
  go_wp2_with fail
  (with_reducible refine HSg.out.mono ?_)
  rintro e w' ⟨rfl, rfl⟩
  go_wp2_with fail
  refine wp_loop_rounds 1 ?_
  rw [rounds_succ]
  go_wp2_with fail
  go_quiet (fail)
  go_wp2_with fail
  (with_reducible refine (HTk.out _ (HS2.out.below (below_drewN (Below.refl _ _) _)).text).mono ?_)
  rintro e w2 ⟨rfl, hb2⟩
  have HB2 := Lib.hid hb2
  clear hb2
  have ht2 := (show TokAt w.heap.size 0 ⟨#[]⟩ 0 (W.drewN _) from HT.out).later HB2.out (by have := HZ.out; simp; omega)
  clear q0 q1 q2 f0 f1 f2
  obtain ⟨q0, q1, q2, f0, f1, f2⟩ := ht2.cells
  have HT2 := Lib.hid ht2
  clear ht2
  go_wp2_with fail
  exact bodyPost_ret (results_ct rfl _ _ ⟨w.heap.size, 0, none⟩ _ rfl (HT2.out.put _ _ _).load) rfl ⟨rfl, below_put ((below_drewN HB.out _).trans (HB2.out.mono (by have := HZ.out; simp; omega))) (Nat.le_refl _) _ _ _⟩

set_option maxRecDepth 100000 in
set_option maxHeartbeats 4000000 in
theorem keyword_second (b mb : Nat) (K : ByteArray → Bool) (T : ByteArray) (k : Nat) (w : World) (hS : ScK b mb K T w) (hk : k ≤ T.size) (hT : T.size ≤ 100000000) (h1 : K (T.extract k (k + idLen (from' T k))) = false) (h2 : K (T.extract k (k + signLen (from' T k))) = true) :
    CandC 42 b k w (candTok T k 10 (signLen (from' T k))).1 (candTok T k 10 (signLen (from' T k))).2 (k + signLen (from' T k)) := by
  unfold CandC
  obtain ⟨W, hW, hb, hz, ht⟩ := res_laid w
  have hS2 := hS.below hb
  have HId := Lib.hid (identifier_any b T k W hS2.text hk hT)
  have HSg := Lib.hid (sign_any b T k W hS2.text hk hT)
  have hle1 := idLen_from_le T k hk
  have hle2 := signLen_from_le T k hk
  have HTk := Lib.hid fun (V : World) (h : ScT b T V) => token_any b T 10 k (signLen (from' T k)) V h (hle2) hT
  obtain ⟨e1, he1⟩ : ∃ e1, k + idLen (from' T k) = e1 := ⟨_, rfl⟩
  obtain ⟨e2, he2⟩ : ∃ e2, k + signLen (from' T k) = e2 := ⟨_, rfl⟩
  have hk1 : k ≤ e1 := by omega
  have hk2 : k ≤ e2 := by omega
  rw [he1] at HId hle1 h1
  rw [he2] at HSg hle2 h2
  obtain ⟨p, hp⟩ : ∃ p, candTok T k 10 (signLen (from' T k)) = p := ⟨_, rfl⟩
  simp only [he2, hp] at HTk
  rw [he2, hp]
  have pc1 := fun w => piece_run T k e1 hk1 hle1 k e1 rfl rfl w
  have pc2 := fun w => piece_run T k e2 hk2 hle2 k e2 rfl rfl w
  have lk1 : ∀ n, (Instr.lookup 40 (.map (some mb)) (.string (T.extract k e1)) false).run Tryz.prog (W.drewN n) = .ok (.bool false) (W.drewN n) := fun n => by
    have := (hS2.below (below_drewN (Below.refl _ _) n)).2.look (T.extract k e1) (ext_small T _ _ hT)
    rwa [h1] at this
  have H2 := Lib.hid h2
  have ix1 : ∀ w, (Instr.index 92 (.agg #[.int .i64 (e1 : Int), .int .i64 (e2 : Int)]) (.int .i64 0)).run Tryz.prog w = .ok (.int .i64 (e1 : Int)) w := fun _ => by kernel_rfl
  have ix2 : ∀ w, (Instr.index 92 (.agg #[.int .i64 (e1 : Int), .int .i64 (e2 : Int)]) (.int .i64 1)).run Tryz.prog w = .ok (.int .i64 (e2 : Int)) w := fun _ => by kernel_rfl
  have cm := hS2.cell0
  have ct := hS2.text.cell
  have HS2 := Lib.hid hS2
  have HW := Lib.hid hW
  have HB := Lib.hid hb
  have HZ := Lib.hid hz
  have HT := Lib.hid ht
  obtain ⟨q0, q1, q2, f0, f1, f2⟩ := ht.cells
  clear hW hb hz ht hS2 hS he1 he2 h1 h2 hp
  go_enter Tryz.func42, Tryz.ntmps42
  go_wp2_with fail
  rw [HW.out]
  (with_reducible refine HId.out.mono ?_)
  rintro e w' ⟨rfl, rfl⟩
  go_wp2_with fail
  (with_reducible refine HSg.out.mono ?_)
  rintro e w' ⟨rfl, rfl⟩
  go_wp2_with fail
  refine wp_loop_rounds 2 ?_
  rw [rounds_succ]
  go_wp2_with fail
  go_quiet (fail)
  go_wp2_with fail
  have hSV := HS2.out.below (below_drewN (Below.refl _ W) nq)
  have HBV := Lib.hid (below_drewN HB.out nq)
  have HTV := Lib.hid (show TokAt w.heap.size 0 ⟨#[]⟩ 0 (W.drewN nq) from HT.out)
  have HZV := Lib.hid (show w.heap.size + 1 = (W.drewN nq).heap.size by have := HZ.out; simpa using this)
  clear lk1 cm ct q0 q1 q2 f0 f1 f2
  generalize W.drewN nq = V at *
  have lk2 : ∀ n, (Instr.lookup 40 (.map (some mb)) (.string (T.extract k e2)) false).run Tryz.prog (V.drewN n) = .ok (.bool true) (V.drewN n) := fun n => by
    have := (hSV.below (below_drewN (Below.refl _ _) n)).2.look (T.extract k e2) (ext_small T _ _ hT)
    rwa [H2.out] at this
  have cm := hSV.cell0
  have ct := hSV.text.cell
  obtain ⟨q0, q1, q2, f0, f1, f2⟩ := HTV.out.cells
  have HSV := Lib.hid hSV
  clear hSV HS2 HB HT HZ
  have HS2 := HSV
  have HB := HBV
  have HT := HTV
  have HZ := HZV
  rw [rounds_succ]
  go_wp2_with fail
  go_quiet (fail)
  go_wp2_with fail
  (with_reducible refine (HTk.out _ (HS2.out.below (below_drewN (Below.refl _ _) _)).text).mono ?_)
  rintro e w2 ⟨rfl, hb2⟩
  have HB2 := Lib.hid hb2
  clear hb2
  have ht2 := (show TokAt w.heap.size 0 ⟨#[]⟩ 0 (V.drewN _) from HT.out).later HB2.out (by have := HZ.out; simp; omega)
  clear q0 q1 q2 f0 f1 f2
  obtain ⟨q0, q1, q2, f0, f1, f2⟩ := ht2.cells
  have HT2 := Lib.hid ht2
  clear ht2
  go_wp2_with fail
  exact bodyPost_ret (results_ct rfl _ _ ⟨w.heap.size, 0, none⟩ _ rfl (HT2.out.put _ _ _).load) rfl ⟨rfl, below_put ((below_drewN HB.out _).trans (HB2.out.mono (by have := HZ.out; simp; omega))) (Nat.le_refl _) _ _ _⟩

set_option maxRecDepth 100000 in
set_option maxHeartbeats 4000000 in
theorem keyword_none (b mb : Nat) (K : ByteArray → Bool) (T : ByteArray) (k : Nat) (w : World) (hS : ScK b mb K T w) (hk : k ≤ T.size) (hT : T.size ≤ 100000000) (h1 : K (T.extract k (k + idLen (from' T k))) = false) (h2 : K (T.extract k (k + signLen (from' T k))) = false) :
    CandC 42 b k w (candTok T k 10 (0)).1 (candTok T k 10 (0)).2 (k + 0) := by
  unfold CandC
  obtain ⟨W, hW, hb, hz, ht⟩ := res_laid w
  have hS2 := hS.below hb
  have HId := Lib.hid (identifier_any b T k W hS2.text hk hT)
  have HSg := Lib.hid (sign_any b T k W hS2.text hk hT)
  have hle1 := idLen_from_le T k hk
  have hle2 := signLen_from_le T k hk
  obtain ⟨e1, he1⟩ : ∃ e1, k + idLen (from' T k) = e1 := ⟨_, rfl⟩
  obtain ⟨e2, he2⟩ : ∃ e2, k + signLen (from' T k) = e2 := ⟨_, rfl⟩
  have hk1 : k ≤ e1 := by omega
  have hk2 : k ≤ e2 := by omega
  rw [he1] at HId hle1 h1
  rw [he2] at HSg hle2 h2
  have pc1 := fun w => piece_run T k e1 hk1 hle1 k e1 rfl rfl w
  have pc2 := fun w => piece_run T k e2 hk2 hle2 k e2 rfl rfl w
  have lk1 : ∀ n, (Instr.lookup 40 (.map (some mb)) (.string (T.extract k e1)) false).run Tryz.prog (W.drewN n) = .ok (.bool false) (W.drewN n) := fun n => by
    have := (hS2.below (below_drewN (Below.refl _ _) n)).2.look (T.extract k e1) (ext_small T _ _ hT)
    rwa [h1] at this
  have H2 := Lib.hid h2
  have ix1 : ∀ w, (Instr.index 92 (.agg #[.int .i64 (e1 : Int), .int .i64 (e2 : Int)]) (.int .i64 0)).run Tryz.prog w = .ok (.int .i64 (e1 : Int)) w := fun _ => by kernel_rfl
  have ix2 : ∀ w, (Instr.index 92 (.agg #[.int .i64 (e1 : Int), .int .i64 (e2 : Int)]) (.int .i64 1)).run Tryz.prog w = .ok (.int .i64 (e2 : Int)) w := fun _ => by kernel_rfl
  have cm := hS2.cell0
  have ct := hS2.text.cell
  have HS2 := Lib.hid hS2
  have HW := Lib.hid hW
  have HB := Lib.hid hb
  have HZ := Lib.hid hz
  have HT := Lib.hid ht
  obtain ⟨q0, q1, q2, f0, f1, f2⟩ := ht.cells
  clear hW hb hz ht hS2 hS he1 he2 h1 h2
  go_enter Tryz.func42, Tryz.ntmps42
  go_wp2_with fail
  rw [HW.out]
  (with_reducible refine HId.out.mono ?_)
  rintro e w' ⟨rfl, rfl⟩
  go_wp2_with fail
  (with_reducible refine HSg.out.mono ?_)
  rintro e w' ⟨rfl, rfl⟩
  go_wp2_with fail
  refine wp_loop_rounds 3 ?_
  rw [rounds_succ]
  go_wp2_with fail
  go_quiet (fail)
  go_wp2_with fail
  have hSV := HS2.out.below (below_drewN (Below.refl _ W) nq)
  have HBV := Lib.hid (below_drewN HB.out nq)
  have HTV := Lib.hid (show TokAt w.heap.size 0 ⟨#[]⟩ 0 (W.drewN nq) from HT.out)
  have HZV := Lib.hid (show w.heap.size + 1 = (W.drewN nq).heap.size by have := HZ.out; simpa using this)
  clear lk1 cm ct q0 q1 q2 f0 f1 f2
  generalize W.drewN nq = V at *
  have lk2 : ∀ n, (Instr.lookup 40 (.map (some mb)) (.string (T.extract k e2)) false).run Tryz.prog (V.drewN n) = .ok (.bool false) (V.drewN n) := fun n => by
    have := (hSV.below (below_drewN (Below.refl _ _) n)).2.look (T.extract k e2) (ext_small T _ _ hT)
    rwa [H2.out] at this
  have cm := hSV.cell0
  have ct := hSV.text.cell
  obtain ⟨q0, q1, q2, f0, f1, f2⟩ := HTV.out.cells
  have HSV := Lib.hid hSV
  clear hSV HS2 HB HT HZ
  have HS2 := HSV
  have HB := HBV
  have HT := HTV
  have HZ := HZV
  rw [rounds_succ]
  go_wp2_with fail
  go_quiet (fail)
  go_wp2_with fail
  rw [rounds_succ]
  go_wp2_with fail
  exact bodyPost_ret (results_ct rfl _ _ ⟨w.heap.size, 0, none⟩ _ rfl ((show TokAt w.heap.size 0 ⟨#[]⟩ 0 (V.drewN _) from HT.out).put 0 ⟨#[]⟩ 0).load) rfl ⟨rfl, below_put ((below_drewN HB.out _)) (Nat.le_refl _) _ _ _⟩

theorem keyword_any (b mb : Nat) (K : ByteArray → Bool) (T : ByteArray) (k : Nat) (w : World) (hS : ScK b mb K T w) (hk : k ≤ T.size) (hT : T.size ≤ 100000000) :
    CandC 42 b k w (candTok T k 10 (kwLen K T k)).1 (candTok T k 10 (kwLen K T k)).2 (k + kwLen K T k) := by
  unfold kwLen
  cases h1 : K (T.extract k (k + idLen (from' T k))) with
  | true => exact keyword_first b mb K T k w hS hk hT h1
  | false =>
    cases h2 : K (T.extract k (k + signLen (from' T k))) with
    | true => exact keyword_second b mb K T k w hS hk hT h1 h2
    | false => exact keyword_none b mb K T k w hS hk hT h1 h2
end Go.Proofs.YtdkagjbedinhjaaGreat
