import Derived.Test.YtlaibimdkamcfaaK6
import Derived.Test.YtlaibimdkamcfaaJ1
section
/-
  Ground: to no depth there is none; to each depth.
-/
namespace Go.Proofs.Ytlaibimdkamcfaa
open Go.RowKit Go.Maps Go.WideMaps

section
variable {cs : List Cls} {ts : List TD} {l : List Ari} {na ua aa t4 : Option Addr} {nl nc ul uc al bc t4c mb mt ms f m : Nat} {W0 : World}

set_option maxRecDepth 100000 in
set_option maxHeartbeats 8000000 in
theorem first_zero (hAF : AF cs ts l na ua aa t4 nl nc ul uc al bc t4c mb mt ms W0)  :
    FirstOK cs ts l na ua aa t4 nl nc ul uc al bc t4c mb mt ms f m W0 0 := by
  intro S nf nm sa s sc w hb hM hnf hnm hs hc hl hk
  obtain ⟨D, hD⟩ : ∃ D : Int, ((0 : Nat) : Int) = D := ⟨_, rfl⟩
  have hD0 : (D == 0) = true := by rw [← hD]; rfl
  have hb1 : Below w.heap.size w ((w.alloc (.cells #[.slice na nl nc, .map (some mb), .slice ua ul uc, .slice aa al bc, .slice t4 ts.length t4c, .map (some mt), .map (some ms), .map (some f), .map (some m)] 94)).alloc (.cells #[.int .i64 0, .string ⟨#[]⟩, .int .i64 0, .slice none 0 0, .slice none 0 0] 50)) := ((Below.refl _ w).alloc (Nat.le_refl _) _).alloc (by simp) _
  have n0 : ((w.alloc (.cells #[.slice na nl nc, .map (some mb), .slice ua ul uc, .slice aa al bc, .slice t4 ts.length t4c, .map (some mt), .map (some ms), .map (some f), .map (some m)] 94)).alloc (.cells #[.int .i64 0, .string ⟨#[]⟩, .int .i64 0, .slice none 0 0, .slice none 0 0] 50)).heap[w.heap.size]? = some (.cells #[.slice na nl nc, .map (some mb), .slice ua ul uc, .slice aa al bc, .slice t4 ts.length t4c, .map (some mt), .map (some ms), .map (some f), .map (some m)] 94 (0, 0)) := by rw [Below.heap_alloc _ _ _ (by simp)]; exact heap_alloc_new w _
  have n1 : ((w.alloc (.cells #[.slice na nl nc, .map (some mb), .slice ua ul uc, .slice aa al bc, .slice t4 ts.length t4c, .map (some mt), .map (some ms), .map (some f), .map (some m)] 94)).alloc (.cells #[.int .i64 0, .string ⟨#[]⟩, .int .i64 0, .slice none 0 0, .slice none 0 0] 50)).heap[w.heap.size + 1]? = some (.cells #[.int .i64 0, .string ⟨#[]⟩, .int .i64 0, .slice none 0 0, .slice none 0 0] 50 (0, 0)) := Go.heap_alloc2_new w _ _
  have hs1 : ((w.alloc (.cells #[.slice na nl nc, .map (some mb), .slice ua ul uc, .slice aa al bc, .slice t4 ts.length t4c, .map (some mt), .map (some ms), .map (some f), .map (some m)] 94)).alloc (.cells #[.int .i64 0, .string ⟨#[]⟩, .int .i64 0, .slice none 0 0, .slice none 0 0] 50)).heap.size = w.heap.size + 2 := by simp
  have HJ := Lib.hid (join_any _ (hs.later hb1) hc (by omega) fun z hz => known_40 hAF.open_ (hk z hz))
  have HB1 := Lib.hid hb1
  have HN0 := Lib.hid n0
  have HN1 := Lib.hid n1
  have HS1 := Lib.hid hs1
  have hM0 : Memo cs ts l (fun b => S b ∧ b < w.heap.size) f m nf nm w := hM.keep rfl rfl (SameIn.refl S _) fun b h hb => ⟨h, hb⟩
  have HM := Lib.hid hM0
  have HFM := Lib.hid hM.lt
  have HBW := Lib.hid hb
  have HK := Lib.hid hk
  have HS := Lib.hid hs
  have HDD := Lib.hid hD
  rw [hD]
  clear hb1 n0 n1 hs1 hb hM hM0 hs hk hD
  go_enter Try.func57, Try.ntmps57
  obtain ⟨w1, hw1⟩ : ∃ q, (w.alloc (.cells #[.slice na nl nc, .map (some mb), .slice ua ul uc, .slice aa al bc, .slice t4 ts.length t4c, .map (some mt), .map (some ms), .map (some f), .map (some m)] 94)).alloc (.cells #[.int .i64 0, .string ⟨#[]⟩, .int .i64 0, .slice none 0 0, .slice none 0 0] 50) = q := ⟨_, rfl⟩
  rw [hw1] at HJ HB1 HN0 HN1 HS1
  have HW1 := Lib.hid hw1
  clear hw1
  go_wp2_with fail
  rw [HW1.out]
  clear HW1
  refine HJ.out.mono ?_
  rintro e w2 ⟨rfl, hb2⟩
  obtain ⟨J, hJ⟩ : ∃ J, joinS s = J := ⟨_, rfl⟩
  rw [hJ]
  have HJJ := Lib.hid hJ
  have b3 : Below w2.heap.size w2 (w2.alloc (.cells #[.string J, .int .i64 D] 122)) := (Below.refl _ _).alloc (Nat.le_refl _) _
  have n3 := heap_alloc_new w2 (.cells #[.string J, .int .i64 D] 122)
  have hz2 := hb2.size
  rw [HS1.out] at hz2
  have hB2 : Below w.heap.size w w2 := HB1.out.trans (hb2.mono (by rw [HS1.out]; omega))
  have hB3 : Below w.heap.size w (w2.alloc (.cells #[.string J, .int .i64 D] 122)) := hB2.trans (b3.mono hB2.size)
  have hm3 := HM.out.below hB3
  obtain ⟨p, n, q, xa, ya, xn, xc, yn, yc, b, hlk, hfound⟩ := memo_found hm3 hAF.open_ HK.out hl (show 0 ≤ 5 by omega)
  rw [hJ, HDD.out] at hlk
  have n03 := (b3.block w.heap.size (by omega)).trans ((hb2.block w.heap.size (by rw [HS1.out]; omega)).trans HN0.out)
  have n13 := (b3.block (w.heap.size + 1) (by omega)).trans ((hb2.block (w.heap.size + 1) (by rw [HS1.out]; omega)).trans HN1.out)
  have HN03 := Lib.hid n03
  have HN13 := Lib.hid n13
  have HN3 := Lib.hid n3
  have HB3 := Lib.hid hB3
  have HM3 := Lib.hid hm3
  have HFO := Lib.hid hfound
  have HZ2 := Lib.hid hz2
  have HZ3 := Lib.hid (show (w2.alloc (.cells #[.string J, .int .i64 D] 122)).heap.size = w2.heap.size + 1 by simp)
  obtain ⟨c0, c1, c2, c3, c4, c5, c6, c7, c8⟩ := box9 n03
  obtain ⟨d0, d1⟩ := cells2' n3
  clear hJ b3 n3 hb2 hz2 hB2 hB3 hm3 n03 n13 hfound
  have b4 : Below w2.heap.size w2 ((w2.alloc (.cells #[.string J, .int .i64 D] 122)).alloc (.cells #[.int .i64 p, .string n, .int .i64 q, .slice xa xn xc, .slice ya yn yc] 50)) := ((Below.refl _ _).alloc (Nat.le_refl _) _).alloc (by simp) _
  have b4' : Below (w2.alloc (.cells #[.string J, .int .i64 D] 122)).heap.size (w2.alloc (.cells #[.string J, .int .i64 D] 122)) ((w2.alloc (.cells #[.string J, .int .i64 D] 122)).alloc (.cells #[.int .i64 p, .string n, .int .i64 q, .slice xa xn xc, .slice ya yn yc] 50)) := (Below.refl _ _).alloc (Nat.le_refl _) _
  have hB4 : Below w.heap.size w ((w2.alloc (.cells #[.string J, .int .i64 D] 122)).alloc (.cells #[.int .i64 p, .string n, .int .i64 q, .slice xa xn xc, .slice ya yn yc] 50)) := HB3.out.trans (b4'.mono HB3.out.size)
  have hz4 : ((w2.alloc (.cells #[.string J, .int .i64 D] 122)).alloc (.cells #[.int .i64 p, .string n, .int .i64 q, .slice xa xn xc, .slice ya yn yc] 50)).heap.size = w2.heap.size + 2 := by simp
  have n04 := (b4'.block w.heap.size (by rw [HZ3.out]; have := HZ2.out; omega)).trans HN03.out
  have n14 := (b4'.block (w.heap.size + 1) (by rw [HZ3.out]; have := HZ2.out; omega)).trans HN13.out
  have n24 := (b4'.block w2.heap.size (by rw [HZ3.out]; omega)).trans HN3.out
  have HB4 := Lib.hid hB4
  have HN14 := Lib.hid n14
  have HN04 := Lib.hid n04
  have HN24 := Lib.hid n24
  have HZ4 := Lib.hid hz4
  have hsub0 : ∀ b, (S b ∧ b < w.heap.size) → S b ∨ w.heap.size ≤ b := fun b h => .inl h.1
  cases b with
  | true => exact (HFO.out rfl).elim
  | false =>
    obtain ⟨c0', c1', c2', c3', c4', c5', c6', c7', c8'⟩ := box9 n04
    obtain ⟨e0, e1, e2, e3, e4, ef⟩ := cells5 n14
    have ef0 := ef 0
    have ef1 := ef 1
    have ef2 := ef 2
    have ef3 := ef 3
    have ef4 := ef 4
    have hm4 := HM3.out.below b4'
    have HM4 := Lib.hid hm4
    clear b4 b4' hB4 hz4 n04 n24 hm4 HFO ef n14
    go_wp2_with fail
    have hfin := store5_below HB4.out (w.heap.size + 1) (by omega) (.int .i64 0) (.string ⟨#[]⟩) (.int .i64 0) (.slice none 0 0) (.slice none 0 0)
    have hfin4 := store5_below (Below.refl w.heap.size ((w2.alloc (.cells #[.string J, .int .i64 D] 122)).alloc (.cells #[.int .i64 p, .string n, .int .i64 q, .slice xa xn xc, .slice ya yn yc] 50))) (w.heap.size + 1) (by omega) (.int .i64 0) (.string ⟨#[]⟩) (.int .i64 0) (.slice none 0 0) (.slice none 0 0)
    exact ret_ct rfl rfl rfl (store5_block HN14.out _ _ _ _ _) ⟨ButM.below hfin, ⟨nf, nm, by omega, by omega, HM4.out.after hfin4 HFM.out.1 HFM.out.2 (fun b hb _ _ => hfin4.block b hb.2) fun b h _ => hsub0 b h⟩, _, _, _, _, _, _, _, _, _, false, rfl, .inr ⟨rfl, fun h => h⟩⟩

theorem first_all (hAF : AF cs ts l na ua aa t4 nl nc ul uc al bc t4c mb mt ms W0) (hf : W0.heap.size ≤ f) (hm : W0.heap.size ≤ m) : ∀ d, d ≤ 5 → FirstOK cs ts l na ua aa t4 nl nc ul uc al bc t4c mb mt ms f m W0 d
  | 0, _ => first_zero hAF
  | d + 1, h => first_any hAF (applied_any hAF (first_all hAF hf hm d (by omega)) hf hm (by omega)) hf hm (by omega)
end
end Go.Proofs.Ytlaibimdkamcfaa
end

section
/-
  Ground: a type in new memory.
-/
namespace Go.Proofs.Ytlaibimdkamcfaa
open Go.RowKit Go.Maps Go.WideMaps

theorem ret_c {F : Func} {p : Tmp} (hF : F.results = #[.cell p 50]) {T : Ending → World → Prop} {tmps : Array Value} {W : World} {g : Nat} {a0 a1 a2 a3 a4 : Value} (h2 : tmps.getD p undef = .pointer (some ⟨g, 0, none⟩))
    (hg : W.heap[g]? = some (.cells #[a0, a1, a2, a3, a4] 50 (0, 0))) (hT : T (.returned (.agg #[a0, a1, a2, a3, a4])) W) : bodyPost Try.prog F T Exit.ret { tmps := tmps, defers := [] } W :=
  bodyPost_ret (results_c hF tmps W ⟨g, 0, none⟩ _ h2 (run_loadVar_row W g 50 50 _ _ _ hg Try.underlying50 rfl (by kernel_rfl))) rfl hT

section
variable {cs : List Cls} {ts : List TD} {l : List Ari}

theorem argsU_ten (hT : typesErr ts = 0) {n : ByteArray} {s : List ByteArray} (h : CanU ts l n s) : (argsU cs ts l n s).length ≤ 10 := by
  unfold argsU
  rw [List.length_map, List.length_range]
  have h1 := tIdx_lt h.1
  have := types_arity hT h1
  rw [tdAt_eq h1]
  omega

/-- copied, to a depth. -/
def CopyOK (cs : List Cls) (ts : List TD) (l : List Ari) (d : Nat) : Prop := ∀ (S : Nat → Prop) (s : List ByteArray) (v : Value) (W : World), Rep cs ts l S W d s v →
  Calls Try.prog 58 #[v] W fun e w' => Below W.heap.size W w' ∧ ∃ v', e = .returned v' ∧ Rep cs ts l (fun b => W.heap.size ≤ b) w' d s v'

set_option maxRecDepth 100000 in
set_option maxHeartbeats 8000000 in
theorem copied_any (hT : typesErr ts = 0) {d : Nat} (hC : CopyOK cs ts l d) : CopyOK cs ts l (d + 1) := by
  intro S s v W hR
  obtain ⟨kk, hk1, hk2, hk3, aa, sc, ac, hpl, rfl, hel⟩ := hR
  have hten := argsU_ten (cs := cs) hT hk2.1
  have HK1 := Lib.hid hk1
  have HK2 := Lib.hid hk2
  have HK3 := Lib.hid hk3
  obtain ⟨U, hU⟩ : ∃ U, argsU cs ts l (tdAt ts kk).name s = U := ⟨_, rfl⟩
  obtain ⟨n, hn⟩ : ∃ n, (tdAt ts kk).name = n := ⟨_, rfl⟩
  have HEL := Lib.hid (show ∀ i (h : i < U.length), ∃ b o v0 v1 v2 v3 v4, S b ∧ aa = some ⟨b, o, none⟩ ∧ W.cell? ⟨b, o + i * 5, none⟩ = some v0 ∧ W.cell? ⟨b, o + i * 5 + 1, none⟩ = some v1 ∧ W.cell? ⟨b, o + i * 5 + 2, none⟩ = some v2 ∧ W.cell? ⟨b, o + i * 5 + 3, none⟩ = some v3 ∧ W.cell? ⟨b, o + i * 5 + 4, none⟩ = some v4 ∧ Rep cs ts l S W d U[i] (.agg #[v0, v1, v2, v3, v4]) from by subst hU; exact hel)
  clear hel
  rw [hU] at hten ⊢
  rw [hn]
  have HU := Lib.hid hU
  have HN := Lib.hid hn
  clear hk1 hk2 hk3 hU hn hpl
  have hb1 : Below W.heap.size W ((W.alloc (.cells #[.int .i64 1, .string n, .int .i64 0, .slice none 0 sc, .slice aa U.length ac] 50)).alloc (.cells #[.int .i64 0, .string ⟨#[]⟩, .int .i64 0, .slice none 0 0, .slice none 0 0] 50)) := ((Below.refl _ W).alloc (Nat.le_refl _) _).alloc (by simp) _
  have n0 : ((W.alloc (.cells #[.int .i64 1, .string n, .int .i64 0, .slice none 0 sc, .slice aa U.length ac] 50)).alloc (.cells #[.int .i64 0, .string ⟨#[]⟩, .int .i64 0, .slice none 0 0, .slice none 0 0] 50)).heap[W.heap.size]? = some (.cells #[.int .i64 1, .string n, .int .i64 0, .slice none 0 sc, .slice aa U.length ac] 50 (0, 0)) := by rw [Below.heap_alloc _ _ _ (by simp)]; exact heap_alloc_new W _
  have n1 : ((W.alloc (.cells #[.int .i64 1, .string n, .int .i64 0, .slice none 0 sc, .slice aa U.length ac] 50)).alloc (.cells #[.int .i64 0, .string ⟨#[]⟩, .int .i64 0, .slice none 0 0, .slice none 0 0] 50)).heap[W.heap.size + 1]? = some (.cells #[.int .i64 0, .string ⟨#[]⟩, .int .i64 0, .slice none 0 0, .slice none 0 0] 50 (0, 0)) := Go.heap_alloc2_new W _ _
  have hz1 : ((W.alloc (.cells #[.int .i64 1, .string n, .int .i64 0, .slice none 0 sc, .slice aa U.length ac] 50)).alloc (.cells #[.int .i64 0, .string ⟨#[]⟩, .int .i64 0, .slice none 0 0, .slice none 0 0] 50)).heap.size = W.heap.size + 2 := by simp
  obtain ⟨c0, c1, c2, c3, c4, cf⟩ := cells5 n0
  have cf3 := cf 3
  have n02 : ((W.alloc (.cells #[.int .i64 1, .string n, .int .i64 0, .slice none 0 0, .slice aa U.length ac] 50)).alloc (.cells #[.int .i64 0, .string ⟨#[]⟩, .int .i64 0, .slice none 0 0, .slice none 0 0] 50)).heap[W.heap.size]? = some (.cells #[.int .i64 1, .string n, .int .i64 0, .slice none 0 0, .slice aa U.length ac] 50 (0, 0)) := by rw [Below.heap_alloc _ _ _ (by simp)]; exact heap_alloc_new W _
  have n12 : ((W.alloc (.cells #[.int .i64 1, .string n, .int .i64 0, .slice none 0 0, .slice aa U.length ac] 50)).alloc (.cells #[.int .i64 0, .string ⟨#[]⟩, .int .i64 0, .slice none 0 0, .slice none 0 0] 50)).heap[W.heap.size + 1]? = some (.cells #[.int .i64 0, .string ⟨#[]⟩, .int .i64 0, .slice none 0 0, .slice none 0 0] 50 (0, 0)) := Go.heap_alloc2_new W _ _
  have hb2 : Below W.heap.size W ((W.alloc (.cells #[.int .i64 1, .string n, .int .i64 0, .slice none 0 0, .slice aa U.length ac] 50)).alloc (.cells #[.int .i64 0, .string ⟨#[]⟩, .int .i64 0, .slice none 0 0, .slice none 0 0] 50)) := ((Below.refl _ W).alloc (Nat.le_refl _) _).alloc (by simp) _
  have hz2 : ((W.alloc (.cells #[.int .i64 1, .string n, .int .i64 0, .slice none 0 0, .slice aa U.length ac] 50)).alloc (.cells #[.int .i64 0, .string ⟨#[]⟩, .int .i64 0, .slice none 0 0, .slice none 0 0] 50)).heap.size = W.heap.size + 2 := by simp
  obtain ⟨d0, d1, d2, d3, d4, df⟩ := cells5 n02
  have df4 := df 4
  have HN02 := Lib.hid n02
  have HN12 := Lib.hid n12
  have HB2 := Lib.hid hb2
  have HZ2 := Lib.hid hz2
  clear n0 n1 hz1 hb1 cf df n02 n12 hb2 hz2
  obtain ⟨i50, hi50, hx0, hx1, hxb⟩ := info_parts Try.info50
  obtain ⟨k, hkk⟩ : ∃ k, U.length = k := ⟨_, rfl⟩
  have HKK := Lib.hid hkk
  rw [hkk] at c0 c1 c2 c3 c4 cf3 d0 d1 d2 d3 d4 df4 hten HN02 HB2 HZ2 HN12 ⊢
  clear hkk
  go_enter Try.func58, Try.ntmps58
  go_wp2_with (first
    | (go_at_call 32; refine (Try.slices_Clone_string_nil 0 sc _).mono ?_; rintro e w' ⟨rfl, rfl⟩)
    | (at_make; refine wpList_make_own _ rfl _ _ 48 rfl (W.heap.size + 2) 50 i50 zeroT 5 Try.underlying48 hi50 hx0 hx1 .i64 .i64 (k : Int) k rfl rfl rfl (by rw [hxb]; omega) (by unfold maxLen; omega) (by rw [HZ2.out]; exact Nat.le_refl _) ?_; intro w5 ho5 hg5; have hb5 : Below (W.heap.size + 2) ((W.alloc (.cells #[.int .i64 1, .string n, .int .i64 0, .slice none 0 0, .slice aa k ac] 50)).alloc (.cells #[.int .i64 0, .string ⟨#[]⟩, .int .i64 0, .slice none 0 0, .slice none 0 0] 50)) w5 := (Below.refl _ _).grown hg5 (by rw [HZ2.out]; exact Nat.le_refl _) (fun q e => by cases e); obtain ⟨e0, e1, e2, e3, e4, _⟩ := cells5 ((hb5.block W.heap.size (by omega)).trans HN02.out); have HO5 := Lib.hid ho5; have HB5 := Lib.hid hb5; clear ho5 hg5 hb5))
  have HB5' := Lib.hid (HB2.out.trans (HB5.out.mono (show W.heap.size ≤ W.heap.size + 2 by omega)))
  have HN05 := Lib.hid ((HB5.out.block W.heap.size (by omega)).trans HN02.out)
  have HN15 := Lib.hid ((HB5.out.block (W.heap.size + 1) (by omega)).trans HN12.out)
  have HZ5 := Lib.hid (show W.heap.size + 2 ≤ w5.heap.size by have := HB5.out.size; rw [HZ2.out] at this; exact this)
  clear c0 c1 c2 c3 c4 cf3 d0 d1 d2 d3 d4 df4 e0 e1 e2 e3 e4 HN02 HN12 HB2
  go_loopw [3, 17] (fun v t wr => ∃ (i : Nat) (aa' : Option Addr) (ac' : Nat) (xs : List Value), v = .slice aa' i ac' ∧ t = .int .i64 i ∧ i ≤ k ∧ wr.ownsRow (W.heap.size + 2) 50 5 v i xs ∧
      (∀ j (h : j < U.length), j < i → ∃ v0 v1 v2 v3 v4, xs[j * 5]? = some v0 ∧ xs[j * 5 + 1]? = some v1 ∧ xs[j * 5 + 2]? = some v2 ∧ xs[j * 5 + 3]? = some v3 ∧ xs[j * 5 + 4]? = some v4 ∧ Rep cs ts l (Apart (fun _ => False) W.heap.size (W.heap.size + 2) v.ownBlock) wr d U[j] (.agg #[v0, v1, v2, v3, v4])) ∧
      Below (W.heap.size + 2) w5 wr) (fun _ t _ => k - (intOf t).toNat)
  case atStart => exact ⟨0, _, _, [], rfl, rfl, Nat.zero_le _, by have h := HO5.out; rw [HZ2.out] at h; exact h, fun j _ h => by omega, Below.refl _ _⟩
  case round =>
    obtain ⟨i, aa', ac', xs, rfl, rfl, hi, how, hel, hb⟩ := hrel
    have HOW := Lib.hid how
    have HEX := Lib.hid hel
    have HB := Lib.hid hb
    have HBW := Lib.hid (HB5'.out.trans (hb.mono (show W.heap.size ≤ W.heap.size + 2 by omega)))
    have HZr := Lib.hid (Nat.le_trans HZ5.out hb.size)
    have HN0r := Lib.hid ((hb.block W.heap.size (by omega)).trans HN05.out)
    have HN1r := Lib.hid ((hb.block (W.heap.size + 1) (by omega)).trans HN15.out)
    clear how hel hb
    by_cases hik : i < k
    · have hiu : i < U.length := by rw [HKK.out]; exact hik
      obtain ⟨b, o, v0, v1, v2, v3, v4, hSb, rfl, g0, g1, g2, g3, g4, hr⟩ := HEL.out i hiu
      obtain ⟨n1, aa1, sc1, m1, ac1, hform⟩ := hr.form
      simp only [Value.agg.injEq, Array.mk.injEq, List.cons.injEq, and_true] at hform
      obtain ⟨rfl, rfl, rfl, rfl, rfl⟩ := hform
      have hl := lt_of_cell g0
      have u0 := (HBW.out.cell (p := ⟨b, o + i * 5, none⟩) hl).trans g0
      have u1 := (HBW.out.cell (p := ⟨b, o + i * 5 + 1, none⟩) hl).trans g1
      have u2 := (HBW.out.cell (p := ⟨b, o + i * 5 + 2, none⟩) hl).trans g2
      have u3 := (HBW.out.cell (p := ⟨b, o + i * 5 + 3, none⟩) hl).trans g3
      have u4 := (HBW.out.cell (p := ⟨b, o + i * 5 + 4, none⟩) hl).trans g4
      have b6 : Below wr.heap.size wr (wr.alloc (.cells #[.int .i64 1, .string n1, .int .i64 0, .slice none 0 sc1, .slice aa1 m1 ac1] 50)) := (Below.refl _ _).alloc (Nat.le_refl _) _
      have HC := Lib.hid (hC S U[i] _ (wr.alloc (.cells #[.int .i64 1, .string n1, .int .i64 0, .slice none 0 sc1, .slice aa1 m1 ac1] 50)) (hr.keep (SameIn.below (HBW.out.trans (b6.mono HBW.out.size))) fun _ h _ => h))
      have hz6 : (wr.alloc (.cells #[.int .i64 1, .string n1, .int .i64 0, .slice none 0 sc1, .slice aa1 m1 ac1] 50)).heap.size = wr.heap.size + 1 := by simp
      have HB6 := Lib.hid b6
      have HZ6 := Lib.hid hz6
      clear g0 g1 g2 g3 g4 hr hl b6 hz6 hSb
      go_wp2_with fail
      refine HC.out.mono ?_
      rintro e w7 ⟨hb7, v', rfl, hr7⟩
      obtain ⟨n2, aa2, sc2, m2, ac2, rfl⟩ := hr7.form
      have hb7' : Below wr.heap.size wr w7 := HB6.out.trans (hb7.mono HB6.out.size)
      have hs7 : wr.heap.size ≤ w7.heap.size := hb7'.size
      have ho7 := own_later HOW.out hb7'
      have HO7 := Lib.hid ho7
      have HB7 := Lib.hid hb7'
      have HR7 := Lib.hid hr7
      have HS7 := Lib.hid hs7
      have hc8 := cell_five_new w7 (.int .i64 1) (.string n2) (.int .i64 0) (.slice none 0 sc2) (.slice aa2 m2 ac2) 50
      have HC8 := Lib.hid hc8
      clear hb7 hb7' hr7 ho7 hs7 hc8 u0 u1 u2 u3 u4
      go_wp2_with (at_builtin; refine wpList_append_own_at _ rfl _ _ 48 rfl (W.heap.size + 2) 50 i50 zeroT 5 80 Try.underlying48 hi50 hx0 hx1 hxb rfl (by decide) (.slice aa' i ac') i xs rfl (HO7.out.alloc _) ⟨w7.heap.size, 0, none⟩ 1 1 [.int .i64 1, .string n2, .int .i64 0, .slice none 0 sc2, .slice aa2 m2 ac2] rfl rfl HC8.out (by simp [Value.oneCell']) (by unfold maxLen; omega) (by omega) (by have := HZr.out; have := HS7.out; simp; omega) ?_; intro v9 w9 hown9 hgrow9 _ hob9; obtain ⟨a9, c9, rfl⟩ := own_slice hown9; have HO9 := Lib.hid hown9; have HGR := Lib.hid hgrow9; have HOB := Lib.hid hob9; clear hown9 hgrow9 hob9)
      have hz8 : (w7.alloc (.cells #[.int .i64 1, .string n2, .int .i64 0, .slice none 0 sc2, .slice aa2 m2 ac2] 50)).heap.size = w7.heap.size + 1 := by simp
      have b8 : Below w7.heap.size w7 (w7.alloc (.cells #[.int .i64 1, .string n2, .int .i64 0, .slice none 0 sc2, .slice aa2 m2 ac2] 50)) := (Below.refl _ _).alloc (Nat.le_refl _) _
      have hown : ∀ q, (Value.slice aa' i ac').ownBlock = some q → W.heap.size + 2 ≤ q ∧ q < wr.heap.size := fun q e => HOW.out.lt q e
      have hsame9 : SameIn (Apart (fun _ => False) W.heap.size (W.heap.size + 2) (Value.slice aa' i ac').ownBlock) w7 w9 := by
        intro b hb hlb hnm
        have e1 : (w7.alloc (.cells #[.int .i64 1, .string n2, .int .i64 0, .slice none 0 sc2, .slice aa2 m2 ac2] 50)).heap[b]? = w7.heap[b]? := b8.block b hlb
        have e2 : w9.heap[b]? = (w7.alloc (.cells #[.int .i64 1, .string n2, .int .i64 0, .slice none 0 sc2, .slice aa2 m2 ac2] 50)).heap[b]? := HGR.out.block b (by omega) (fun e => by
          rcases hb with ⟨h, _⟩ | ⟨_, h⟩
          · exact h
          · exact h e.symm)
        rw [e2, e1]
      have hsub9 : ∀ b, (Apart (fun _ => False) W.heap.size (W.heap.size + 2) (Value.slice aa' i ac').ownBlock) b → b < w7.heap.size → (Apart (fun _ => False) W.heap.size (W.heap.size + 2) (Value.slice a9 (i + 1) c9).ownBlock) b := fun b hb hlb => by
        rcases hb with h | ⟨h1, h2⟩
        · exact .inl h
        · refine .inr ⟨h1, fun e => ?_⟩
          rcases HOB.out with e' | e'
          · exact h2 (by rw [← e', e])
          · rw [e'] at e
            have := Option.some.inj e
            omega
      have hxl : xs.length = i * 5 := HOW.out.1
      have HR9 := Lib.hid ((HR7.out.mono (S' := (Apart (fun _ => False) W.heap.size (W.heap.size + 2) (Value.slice aa' i ac').ownBlock)) fun b h _ => .inr ⟨by have := HZr.out; have := HZ6.out; omega, fun e => by have := hown b e; have := HZ6.out; omega⟩).keep hsame9 hsub9)
      have HE9 := Lib.hid (show ∀ j (h : j < U.length), j < i → ∃ v0 v1 v2 v3 v4, xs[j * 5]? = some v0 ∧ xs[j * 5 + 1]? = some v1 ∧ xs[j * 5 + 2]? = some v2 ∧ xs[j * 5 + 3]? = some v3 ∧ xs[j * 5 + 4]? = some v4 ∧ Rep cs ts l (Apart (fun _ => False) W.heap.size (W.heap.size + 2) (Value.slice a9 (i + 1) c9).ownBlock) w9 d U[j] (.agg #[v0, v1, v2, v3, v4]) from fun j h hj => by
        obtain ⟨v0, v1, v2, v3, v4, q0, q1, q2, q3, q4, hr⟩ := HEX.out j h hj
        exact ⟨v0, v1, v2, v3, v4, q0, q1, q2, q3, q4, (hr.keep (SameIn.below HB7.out) fun b hb _ => hb).keep hsame9 hsub9⟩)
      have hb9 : Below (W.heap.size + 2) wr w9 := ((HB7.out.trans (b8.mono HS7.out)).mono HZr.out).grown HGR.out (by have := HZr.out; have := HS7.out; omega) (fun q e => (hown q e).1)
      refine ⟨⟨i + 1, a9, c9, _, rfl, by simp only [Int.natCast_add, Int.natCast_one], by omega, HO9.out, fun j hj hji => ?_, HB.out.trans hb9⟩, ?_⟩
      · by_cases e : j = i
        · subst e
          refine ⟨_, _, _, _, _, ?_, ?_, ?_, ?_, ?_, HR9.out⟩ <;> (rw [List.getElem?_append_right (by omega), hxl]; simp [Nat.add_sub_cancel_left])
        · obtain ⟨v0, v1, v2, v3, v4, q0, q1, q2, q3, q4, hr⟩ := HE9.out j hj (by omega)
          refine ⟨v0, v1, v2, v3, v4, ?_, ?_, ?_, ?_, ?_, hr⟩ <;> (rw [List.getElem?_append_left (by omega)]; assumption)
      · show k - ((i : Int) + 1).toNat < k - ((i : Nat) : Int).toNat
        omega
    · have hie : i = k := by omega
      subst hie
      have hxn0 : (wr.setCell ⟨W.heap.size, 4, none⟩ (.slice aa' i ac')).heap[W.heap.size]? = some (.cells #[.int .i64 1, .string n, .int .i64 0, .slice none 0 0, .slice aa' i ac'] 50 (0, 0)) := Go.heap_setCell_same _ _ 4 _ 50 _ HN0r.out
      have hxn1 : (wr.setCell ⟨W.heap.size, 4, none⟩ (.slice aa' i ac')).heap[W.heap.size + 1]? = _ := (Below.heap_setCell wr ⟨W.heap.size, 4, none⟩ (.slice aa' i ac') (W.heap.size + 1) (by show W.heap.size + 1 ≠ W.heap.size; omega)).trans HN1r.out
      obtain ⟨g0, g1, g2, g3, g4, gf⟩ := cells5 HN0r.out
      have gf4 := gf 4
      obtain ⟨h0, h1, h2, h3, h4, _⟩ := cells5 hxn0
      obtain ⟨e0, e1, e2, e3, e4, ef⟩ := cells5 hxn1
      have ef0 := ef 0
      have ef1 := ef 1
      have ef2 := ef 2
      have ef3 := ef 3
      have ef4 := ef 4
      have HX1 := Lib.hid hxn1
      clear gf ef hxn0 hxn1
      go_wp2_with fail
      have hfin := store5_below (HBW.out.setCell (p := ⟨W.heap.size, 4, none⟩) (Nat.le_refl _) (.slice aa' i ac')) (W.heap.size + 1) (by omega) (.int .i64 1) (.string n) (.int .i64 0) (.slice none 0 0) (.slice aa' i ac')
      have hsm : SameIn ((Apart (fun _ => False) W.heap.size (W.heap.size + 2) (Value.slice aa' i ac').ownBlock)) wr (store5 (wr.setCell ⟨W.heap.size, 4, none⟩ (.slice aa' i ac')) (W.heap.size + 1) (.int .i64 1) (.string n) (.int .i64 0) (.slice none 0 0) (.slice aa' i ac')) := fun b hb _ _ => (store5_other _ _ _ (apart_ne hb (by omega) (by omega)) _ _ _ _ _).trans (Below.heap_setCell _ _ _ _ (apart_ne hb (Nat.le_refl _) (show W.heap.size < W.heap.size + 2 by omega)))
      have hsb : ∀ b, (Apart (fun _ => False) W.heap.size (W.heap.size + 2) (Value.slice aa' i ac').ownBlock) b → b < wr.heap.size → W.heap.size ≤ b := fun b h _ => by
        rcases h with ⟨h, _⟩ | ⟨h, _⟩
        · exact h.elim
        · omega
      refine ret_c rfl rfl (store5_block HX1.out _ _ _ _ _) ⟨hfin, _, rfl, kk, HK1.out, HK2.out, HK3.out, ?_⟩
      rw [HU.out, HN.out]
      refine ⟨aa', 0, ac', own_plain HOW.out, by rw [HKK.out], fun j hj => ?_⟩
      have hji : j < i := by rw [← HKK.out]; exact hj
      obtain ⟨v0, v1, v2, v3, v4, q0, q1, q2, q3, q4, hr⟩ := HEX.out j hj hji
      obtain ⟨g, rfl, hg1, hg2⟩ := own_some HOW.out (show 0 < i by omega)
      have hst : ∀ o, (store5 (wr.setCell ⟨W.heap.size, 4, none⟩ (.slice (some ⟨g, 0, none⟩) i ac')) (W.heap.size + 1) (.int .i64 1) (.string n) (.int .i64 0) (.slice none 0 0) (.slice (some ⟨g, 0, none⟩) i ac')).cell? ⟨g, o, none⟩ = wr.cell? ⟨g, o, none⟩ := fun o => cell_block (p := ⟨g, o, none⟩) ((store5_other _ _ _ (show g ≠ W.heap.size + 1 by omega) _ _ _ _ _).trans (Below.heap_setCell _ _ _ _ (show g ≠ W.heap.size by omega)))
      have hce : ∀ o, o < i * 5 → wr.cell? ⟨g, o, none⟩ = xs[o]? := fun o ho => HOW.out.cellAt o ho
      refine ⟨g, 0, v0, v1, v2, v3, v4, show W.heap.size ≤ g by omega, rfl, ?_, ?_, ?_, ?_, ?_, hr.keep hsm hsb⟩
      · exact (hst _).trans ((hce _ (by omega)).trans (by rw [Nat.zero_add]; exact q0))
      · exact (hst _).trans ((hce _ (by omega)).trans (by rw [Nat.zero_add]; exact q1))
      · exact (hst _).trans ((hce _ (by omega)).trans (by rw [Nat.zero_add]; exact q2))
      · exact (hst _).trans ((hce _ (by omega)).trans (by rw [Nat.zero_add]; exact q3))
      · exact (hst _).trans ((hce _ (by omega)).trans (by rw [Nat.zero_add]; exact q4))

theorem copied_all (hT : typesErr ts = 0) : ∀ d, CopyOK cs ts l d
  | 0 => fun _ _ _ _ h => h.elim
  | d + 1 => copied_any hT (copied_all hT d)
end
end Go.Proofs.Ytlaibimdkamcfaa
end

section
/-
  Ground: what is asked of the algebra is there.
-/
namespace Go.Proofs.Ytlaibimdkamcfaa
open Go.RowKit Go.Maps Go.WideMaps

theorem results_ctt {P : Program} {fn : Func} {p q r : Tmp} {t : TypeId} (h : fn.results = #[.cell p t, .tmp q, .tmp r]) (tmps : Array Value) (w : World) (a : Addr) (x : Value) (hp : tmps.getD p undef = .pointer (some a)) (h1 : (loadVar t a).run P w = .ok x w) : (results fn tmps).run P w = .ok (.tuple #[x, tmps.getD q undef, tmps.getD r undef]) w := by
  have hp' : tmps[p]?.getD undef = .pointer (some a) := by simpa using hp
  simp [results, h, hp', asAddr, h1, Result.andThen]

theorem ret_ctt {F : Func} {p q r : Tmp} (hF : F.results = #[.cell p 50, .tmp q, .tmp r]) {T : Ending → World → Prop} {tmps : Array Value} {W : World} {g : Nat} {a0 a1 a2 a3 a4 v3 v4 : Value} (h2 : tmps.getD p undef = .pointer (some ⟨g, 0, none⟩)) (h3 : tmps.getD q undef = v3) (h4 : tmps.getD r undef = v4)
    (hg : W.heap[g]? = some (.cells #[a0, a1, a2, a3, a4] 50 (0, 0))) (hT : T (.returned (.tuple #[.agg #[a0, a1, a2, a3, a4], v3, v4])) W) : bodyPost Try.prog F T Exit.ret { tmps := tmps, defers := [] } W :=
  bodyPost_ret (results_ctt hF tmps W ⟨g, 0, none⟩ _ h2 (run_loadVar_row W g 50 50 _ _ _ hg Try.underlying50 rfl (by kernel_rfl))) rfl (by rw [h3, h4]; exact hT)

theorem memo_empty (cs : List Cls) (ts : List TD) (l : List Ari) (S : Nat → Prop) (w : World) : Memo cs ts l S w.heap.size (w.heap.size + 1) 0 0 ((w.alloc (.map #[] 0)).alloc (.map #[] 0)) := by
  have h1 : (w.alloc (.map #[] 0)).heap.size = w.heap.size + 1 := by simp
  have h2 := World.ownsMap_made (w.alloc (.map #[] 0)) Try.prog 122 boolR
  rw [h1] at h2
  refine ⟨by omega, .map [], .map [], (World.ownsMap_made w Try.prog 122 typeR).alloc _, Maps.isMap_empty, h2, Maps.isMap_empty, fun s d _ _ _ h => ?_, fun s d _ _ _ h => ?_⟩
  · simp [Maps.has] at h
  · simp [DataW.atKey] at h

/-- What Ground answers. -/
def GroundOut (cs : List Cls) (ts : List TD) (l : List Ari) (s : List ByteArray) (D : Int) (S : Nat → Prop) (e : Ending) (w' : World) : Prop :=
  (checkErr cs ts l ≠ 0 ∧ e = .returned (.tuple #[zeroT, .bool false, .int .i64 (checkErr cs ts l)])) ∨
  (checkErr cs ts l = 0 ∧ sortErr (knownB cs) s ≠ 0 ∧ e = .returned (.tuple #[zeroT, .bool false, .int .i64 (sortErr (knownB cs) s)])) ∨
  (checkErr cs ts l = 0 ∧ sortErr (knownB cs) s = 0 ∧ (D < 0 ∨ 5 < D) ∧ e = .returned (.tuple #[zeroT, .bool false, .int .i64 4])) ∨
  (checkErr cs ts l = 0 ∧ sortErr (knownB cs) s = 0 ∧ ∃ d : Nat, D = d ∧ d ≤ 5 ∧
    ((∃ v, e = .returned (.tuple #[v, .bool true, .int .i64 0]) ∧ Rep cs ts l S w' d s v) ∨ (¬ Gr cs ts l d s ∧ e = .returned (.tuple #[zeroT, .bool false, .int .i64 0]))))

theorem af_of_full {cs : List Cls} {ts : List TD} {l : List Ari} {B : Nat} {v : Value} {W : World} (h : Full cs ts l B v W) (hz : ∀ i (h : i < ts.length), ts[i].name.size ≤ maxLen) (hf : cs.length ≤ 20) :
    ∃ (na ua aa t4 : Option Addr) (nc uc bc t4c mb mt ms : Nat), v = .agg #[.slice na cs.length nc, .map (some mb), .slice ua cs.length uc, .slice aa cs.length bc, .slice t4 ts.length t4c, .map (some mt), .map (some ms)] ∧
      AF cs ts l na ua aa t4 cs.length nc cs.length uc cs.length bc t4c mb mt ms W ∧
      ∀ (W' : World) (sa : Option Addr) (s : List ByteArray) (sc : Nat), Below W.heap.size W W' → SortAt W' sa s →
        Calls Try.prog 50 #[.agg #[.slice na cs.length nc, .map (some mb), .slice ua cs.length uc, .slice aa cs.length bc, .slice t4 ts.length t4c, .map (some mt), .map (some ms)], .slice sa s.length sc] W' fun e w' =>
          ((sortErr (knownB cs) s ≠ 0 ∧ e = .returned (.tuple #[.slice none 0 0, .int .i64 (sortErr (knownB cs) s)])) ∨
           (sortErr (knownB cs) s = 0 ∧ ∃ (v : Value) (r : List ByteArray), e = .returned (.tuple #[v, .int .i64 0]) ∧ IsNormalOf ltS (belowB cs) s r ∧ w'.ownsRow W'.heap.size 9 1 v r.length (r.map Value.string))) ∧ Below W'.heap.size W' w' := by
  obtain ⟨hO, hT, hA, hR, A, na, ua, aa, t4, nc, uc, bc, t4c, mb, ab, G, B0, n, mt, nt, ms, np, D, Dt, Dp, us, ws, rfl, hB0, hOC, hn, hat, haa, hm, hab, hkn, hbe, ⟨B4, hB4, ho4⟩, htk, hpl, _⟩ := h
  refine ⟨na, ua, aa, t4, nc, uc, bc, t4c, mb, mt, ms, rfl, ⟨fun W' name sa s sc hb hz' hs hl => ?_, fun i hi => ?_, hO, hT, hA, hf⟩, fun W' sa s sc hb hs => ?_⟩
  · have h1 := sorts_any A na ua aa t4 sa cs.length nc cs.length uc bc ts.length t4c mb n ab mt nt ms np sc D Dt Dp cs ts l name s W' (hat.below hb hm hab) haa (Nat.lt_of_lt_of_le hm hb.size) (Nat.lt_of_lt_of_le hab hb.size) hkn hbe (htk.below hb) (hpl.below hb) hT hA hz' hs hl
    rw [hn] at h1
    refine h1.mono ?_
    rintro e w' ⟨hb', (⟨h, rfl⟩ | ⟨h2, h3, R, U, vals, rfl, hRW, hUL, hUN⟩)⟩
    · exact ⟨hb', .inl ⟨h, rfl⟩⟩
    · have e := argsU_eq hUL hUN
      subst e
      exact ⟨hb', .inr ⟨⟨h2, h3⟩, R, vals, rfl, hRW⟩⟩
  · obtain ⟨g, rfl, hg1, hg2⟩ := own_some ho4 (show 0 < ts.length by omega)
    obtain ⟨q0, q1⟩ := tdCells_get ts i hi
    exact ⟨g, rfl, hg2, (ho4.cellAt (i * 2) (by omega)).trans q0, (ho4.cellAt (i * 2 + 1) (by omega)).trans q1, hz i hi⟩
  · obtain ⟨xb, xo, x1, x2, x3⟩ := hs
    have h1 := normal_any A na ua aa t4 cs.length nc cs.length uc bc ts.length t4c mb n ab 0 (some mt) (some ms) D xb xo sc sa s W' (hat.below hb hm hab) haa (Nat.lt_of_lt_of_le hm hb.size) (Nat.lt_of_lt_of_le hab hb.size) x1 x2 x3
    rw [hn, hkn, hbe] at h1
    exact h1
end Go.Proofs.Ytlaibimdkamcfaa
end

