import Derived.Test.YtlaibimdkamcfaaJ1
import Derived.Test.YtlaibimdkamcfaaK0
import Derived.Maps.AppendAt
import Derived.Deep.RegionLaw
section
/-
  Rows of strings in a row of slices: what Algebra.Sorts makes.
-/
namespace Go.Proofs.Ytlaibimdkamcfaa
open Go.RowKit Go.Maps

/-- Rows of strings, each in a block of its own, in a row of slices. -/
structure RowsAt (W : World) (B R : Nat) (U : List (List ByteArray)) (vals : List Value) : Prop where
  len : vals.length = U.length
  box : W.heap[R]? = some (.cells vals.toArray 27 (0, 0))
  base : B ≤ R
  row : ∀ j (h : j < U.length), ∃ v, vals[j]? = some v ∧ W.ownsRow B 9 1 v U[j].length (U[j].map Value.string)
  apart : ∀ (i j : Nat) (u v : Value), i ≠ j → vals[i]? = some u → vals[j]? = some v → u.ownBlock ≠ none → u.ownBlock ≠ v.ownBlock

theorem RowsAt.keep {W W' : World} {B R : Nat} {U : List (List ByteArray)} {vals : List Value} {t : TypeId} (h : RowsAt W B R U vals) (hk : KeepT t W W') (h9 : (9 : TypeId) ≠ t) (h27 : (27 : TypeId) ≠ t) : RowsAt W' B R U vals :=
  ⟨h.len, hk.2 R _ h.box (fun c f e => by cases e; exact h27 rfl), h.base, fun j hj => (by obtain ⟨v, h1, h2⟩ := h.row j hj; exact ⟨v, h1, hk.own h9 h2⟩), h.apart⟩

theorem RowsAt.cell {W : World} {B R : Nat} {U : List (List ByteArray)} {vals : List Value} (h : RowsAt W B R U vals) {j : Nat} {v : Value} (hv : vals[j]? = some v) : W.cell? ⟨R, j, none⟩ = some v := by
  rw [Lib.cell_of_heap h.box]
  simpa using hv

/-- One row anew. -/
theorem RowsAt.put {W W' : World} {B R : Nat} {U : List (List ByteArray)} {vals : List Value} (h : RowsAt W B R U vals) {j : Nat} (hj : j < U.length) {v v' : Value} {new : List ByteArray} (hv : vals[j]? = some v)
    (hg : W.grownBy W' v.ownBlock) (hn : W'.ownsRow B 9 1 v' new.length (new.map Value.string)) (hb : v'.ownBlock = v.ownBlock ∨ ∀ g, v'.ownBlock = some g → W.heap.size ≤ g) :
    RowsAt (W'.setCell ⟨R, j, none⟩ v') B R (U.set j new) (vals.set j v') := by
  obtain ⟨v0, e0, ho⟩ := h.row j hj
  rw [hv] at e0
  obtain rfl := Option.some.inj e0
  have hR : W'.heap[R]? = some (.cells vals.toArray 27 (0, 0)) := (KeepT.grown ho hg).2 R _ h.box (fun c f e => by cases e)
  have hst : KeepT 27 W' (W'.setCell ⟨R, j, none⟩ v') := KeepT.store hR v'
  refine ⟨by simpa using h.len, ?_, h.base, fun i hi => ?_, fun a b u u' hab hu hu' hne => ?_⟩
  · have := Go.heap_setCell_same W' R j _ 27 v' hR
    simpa using this
  · have hi' : i < U.length := by simpa using hi
    by_cases e : i = j
    · subst e
      refine ⟨v', ?_, ?_⟩
      · rw [List.getElem?_set_self (by rw [h.len]; exact hj)]
      · simp only [List.getElem_set_self]
        exact hst.own (by decide) hn
    · obtain ⟨u, hu, hou⟩ := h.row i hi'
      refine ⟨u, by rw [List.getElem?_set_ne (Ne.symm e)]; exact hu, ?_⟩
      rw [List.getElem_set_ne (Ne.symm e)]
      refine hst.own (by decide) (hou.kept hg ?_)
      by_cases hn : u.ownBlock = none
      · exact .inl hn
      · exact .inr (h.apart i j u v e hu hv hn)
  · by_cases ea : a = j
    · subst ea
      rw [List.getElem?_set_self (by rw [h.len]; exact hj)] at hu
      obtain rfl := Option.some.inj hu
      rw [List.getElem?_set_ne hab] at hu'
      rcases hb with hb | hb
      · rw [hb] at hne ⊢
        exact h.apart a b v u' hab hv hu' hne
      · intro e
        have hbl : b < U.length := by rw [← h.len]; exact (List.getElem?_eq_some_iff.1 hu').1
        obtain ⟨u2, e2, ho2⟩ := h.row b hbl
        rw [hu'] at e2
        obtain rfl := Option.some.inj e2
        cases hq : v'.ownBlock with
        | none => exact hne hq
        | some q => exact absurd (hb q hq) (by have := (ho2.lt q (by rw [← e, hq])).2; omega)
    · rw [List.getElem?_set_ne (Ne.symm ea)] at hu
      have hal : a < U.length := by rw [← h.len]; exact (List.getElem?_eq_some_iff.1 hu).1
      by_cases eb : b = j
      · subst eb
        rw [List.getElem?_set_self (by rw [h.len]; exact hj)] at hu'
        obtain rfl := Option.some.inj hu'
        rcases hb with hb | hb
        · rw [hb]
          exact h.apart a b u v hab hu hv hne
        · intro e
          obtain ⟨u2, e2, ho2⟩ := h.row a hal
          rw [hu] at e2
          obtain rfl := Option.some.inj e2
          cases hq : u.ownBlock with
          | none => exact hne hq
          | some q => exact absurd (hb q (by rw [← e, hq])) (by have := (ho2.lt q hq).2; omega)
      · rw [List.getElem?_set_ne (Ne.symm eb)] at hu'
        exact h.apart a b u u' hab hu hu' hne
end Go.Proofs.Ytlaibimdkamcfaa
end

section
/-
  Algebra.Sorts: the sorts of a constructor's arguments for a sort.
-/
namespace Go.Proofs.Ytlaibimdkamcfaa
open Go.RowKit Go.Maps Go.WideMaps

theorem made_slice : ∀ n : Nat, (madeCells (Value.slice none 0 0).cells (n * 1)).toList = List.replicate n (Value.slice none 0 0) := by
  intro n
  rw [Nat.mul_one]
  exact toList_madeCells_one _ _

theorem rows_make {W : World} {B B' R k : Nat} (ho : W.ownsRow B 27 1 (.slice (some ⟨R, 0, none⟩) k k) k (List.replicate k (.slice none 0 0))) (hB : B' ≤ R) : RowsAt W B' R (List.replicate k []) (List.replicate k (.slice none 0 0)) := by
  rcases ho.2 with ⟨e, _⟩ | ⟨g, cap, cur, e, _, hg, _, _, hs, ht⟩
  · cases e
  · cases e
    refine ⟨by simp, ?_, hB, fun j hj => ?_, fun i j u v _ hu _ hn => ?_⟩
    · rw [hg, ← ht, List.take_of_length_le (by simp; omega)]
    · have hj' : j < k := by simpa using hj
      exact ⟨.slice none 0 0, by simp [hj'], by simpa using World.ownsRow_nil W B' 9 1⟩
    · have := List.mem_of_getElem? hu
      rw [List.mem_replicate] at this
      rw [this.2] at hn
      exact absurd rfl hn

theorem need_len {cs : List Cls} {ts : List TD} {l : List Ari} (hA : arisErr cs ts l = 0) {n : ByteArray} {s : List ByteArray} (hs : ∀ c, c ∈ s → (n, c) ∈ l.map pairOf) {i : Nat} (hi : (i : Int) < (tdAt ts (tIdx ts n)).arity) : (needU l n s i).length ≤ 20 * s.length := by
  induction s with
  | nil => simp [needU]
  | cons c s ih =>
    have h1 := ih fun d hd => hs d (List.mem_cons_of_mem _ hd)
    have hm := hs c List.mem_cons_self
    have h2 := (sErr_zero ((aris_mem hA (ariOf_spec hm).1).2.2.2 i (by have := args_len hA hm; omega))).1
    have e : needU l n (c :: s) i = sortOf (ariOf l n c).sorts i ++ needU l n s i := by unfold needU; rw [List.flatMap_cons]
    rw [e, List.length_append, List.length_cons]
    omega

theorem own_base {W : World} {B B' e k n : Nat} {v : Value} {xs : List Value} (h : W.ownsRow B e k v n xs) (hb : B' ≤ B) : W.ownsRow B' e k v n xs := by
  refine ⟨h.1, ?_⟩
  rcases h.2 with h0 | ⟨g, cap, cur, hv, hg, rest⟩
  · exact .inl h0
  · exact .inr ⟨g, cap, cur, hv, Nat.le_trans hb hg, rest⟩

theorem step_append_run {P : Program} {ops : Array Oper} {o : Oper} {a : Act} {w : World} {K : Act → World → Prop} {Q : Exit → Act → World → Prop} {E : Prop}
    (hg : o.guard = none) (s x : Operand) (t : TypeId) (hop : o.op = Op.call { callee := Callee.builtin Builtin.append, args := #[s, x], argTypes := #[t, t] }) (vs vx : Value) (hs : a.eval s = vs) (hx : a.eval x = vx)
    (v' : Value) (w' : World) (hr : (Builtin.append_ #[t, t] o.type #[vs, vx]).run P w = .ok v' w') (hK : K (a.put o.dst v') w') : if Region.wanted o (yielded ops a.tmps) = true then Oper.wp P o a w K Q else E := by
  have hw : Region.wanted o (yielded ops a.tmps) = true := by simp [Region.wanted, hg]
  rw [if_pos hw]
  exact Lib.wp_append_run w s x t t hop vs vx hs hx v' w' hr hK

theorem run_append_sort_at {w : World} {base n : Nat} {v : Value} {xs : List Value} {xa : Option Addr} {x : List ByteArray} {xc : Nat} (ty : TypeId) (hown : w.ownsRow base 9 1 v n xs) (hx : SortAt w xa x) (h : n + x.length ≤ 2000) (hb : base ≤ w.heap.size) :
    ∃ v' w', (Builtin.append_ #[27, 27] ty #[v, .slice xa x.length xc]).run Try.prog w = .ok v' w' ∧ w'.ownsRow base 9 1 v' (n + x.length) (xs ++ x.map Value.string) ∧ w.grownBy w' v.ownBlock ∧ (v'.ownBlock = v.ownBlock ∨ v'.ownBlock = some w.heap.size) := by
  obtain ⟨i9, hi9, hx0, hx1, hxb⟩ := info_parts Try.info9'
  obtain ⟨b, o, h1, h2, h3⟩ := hx
  cases xa with
  | none =>
    have hn : x = [] := Classical.byContradiction fun hn => by have := h1 hn; cases this
    subst hn
    exact ⟨v, w, run_append_owned_none (P := Try.prog) (w := w) base 27 ty 9 i9 1 Try.underlying27 hi9 v n xs hown, by simpa using hown, World.grownBy.refl w _, .inl rfl⟩
  | some a =>
    obtain ⟨v', w', hr, k1, k2, _, k5⟩ := run_append_own_at (P := Try.prog) w base 27 ty 9 i9 (.string ByteArray.empty) 1 16 Try.underlying27 hi9 hx0 hx1 hxb rfl (by decide) v n xs hown a x.length xc (x.map Value.string) (by simp)
      (fun j u hu => by
        have hj : j < x.length := by
          rcases Nat.lt_or_ge j x.length with hj | hj
          · exact hj
          · rw [List.getElem?_eq_none (by simpa using hj)] at hu; cases hu
        have e := h1 (by intro e; subst e; simp at hj)
        cases e
        rw [Go.WideShapes.add_plain, h2.cell j hj]
        rw [List.getElem?_map, List.getElem?_eq_getElem hj] at hu
        simpa using hu)
      (fun u hu => by
        obtain ⟨s, _, rfl⟩ := List.mem_map.1 hu
        rfl)
      (by unfold maxLen; omega) (by omega) hb
    exact ⟨v', w', hr, k1, k2, k5⟩

set_option maxRecDepth 100000 in
set_option maxHeartbeats 8000000 in
theorem sorts_any (A : Alg) (na ua aa t4 sa : Option Addr) (nl nc ul uc bc tl t4c mb nm ab mt nt ms np sc : Nat) (D Dt Dp : DataW Unit) (cs : List Cls) (ts : List TD) (l : List Ari) (name : ByteArray) (s : List ByteArray) (w : World) (h : AlgAt A w mb nm ab 0 D) (haa : 0 < A.n → aa = some ⟨ab, 0, none⟩) (hm : mb < w.heap.size) (ha : ab < w.heap.size)
    (hkn : A.known = knownB cs) (hbe : A.below = belowB cs) (ht : TakesAt ts ts.length mt nt Dt w) (hp : PlacesAt l ms np Dp w) (hT : typesErr ts = 0) (hAr : arisErr cs ts l = 0) (hz : name.size ≤ maxLen) (hs : SortAt w sa s) (hl : s.length ≤ 20) :
    Calls Try.prog 78 #[.agg #[.slice na nl nc, .map (some mb), .slice ua ul uc, .slice aa A.n bc, .slice t4 tl t4c, .map (some mt), .map (some ms)], .string name, .slice sa s.length sc] w fun e w' => Below w.heap.size w w' ∧
      ((¬ (name ∈ tnames ts ∧ ∀ c, c ∈ s → (name, c) ∈ l.map pairOf) ∧ e = .returned (.tuple #[.slice none 0 0, .bool false])) ∨
       (name ∈ tnames ts ∧ (∀ c, c ∈ s → (name, c) ∈ l.map pairOf) ∧ ∃ (R : Nat) (U : List (List ByteArray)) (vals : List Value), e = .returned (.tuple #[.slice (some ⟨R, 0, none⟩) U.length U.length, .bool true]) ∧ RowsAt w' (w.heap.size + 1) R U vals ∧
         (U.length : Int) = (tdAt ts (tIdx ts name)).arity ∧ ∀ i (h : i < U.length), IsNormalOf ltS (belowB cs) (needU l name s i) U[i])) := by
  have hb0 : Below w.heap.size w (w.alloc (.cells #[.slice na nl nc, .map (some mb), .slice ua ul uc, .slice aa A.n bc, .slice t4 tl t4c, .map (some mt), .map (some ms)] 70)) := (Below.refl _ w).alloc (Nat.le_refl _) _
  have HC0 := Lib.hid (heap_alloc_new w (.cells #[.slice na nl nc, .map (some mb), .slice ua ul uc, .slice aa A.n bc, .slice t4 tl t4c, .map (some mt), .map (some ms)] 70))
  have HS1 := Lib.hid (show (w.alloc (.cells #[.slice na nl nc, .map (some mb), .slice ua ul uc, .slice aa A.n bc, .slice t4 tl t4c, .map (some mt), .map (some ms)] 70)).heap.size = w.heap.size + 1 by simp)
  have HB1 := Lib.hid hb0
  have HA := Lib.hid (h.below hb0 hm ha)
  have HAA := Lib.hid haa
  have HT := Lib.hid (ht.below hb0)
  have HP := Lib.hid (hp.below hb0)
  have HX := Lib.hid (hs.later hb0)
  have HK := Lib.hid hkn
  have HBE := Lib.hid hbe
  have HTE := Lib.hid hT
  have HAR := Lib.hid hAr
  have HZ := Lib.hid hz
  have hmw := Nat.lt_of_lt_of_le hm hb0.size
  have haw := Nat.lt_of_lt_of_le ha hb0.size
  clear hb0 h haa ht hp hs hkn hbe hT hAr hz
  go_enter Try.func78, Try.ntmps78
  obtain ⟨w1, hw1⟩ : ∃ q, w.alloc (.cells #[.slice na nl nc, .map (some mb), .slice ua ul uc, .slice aa A.n bc, .slice t4 tl t4c, .map (some mt), .map (some ms)] 70) = q := ⟨_, rfl⟩
  rw [hw1] at HC0 HS1 HB1 HA HT HP HX hmw haw
  have HW1 := Lib.hid hw1
  obtain ⟨c, hlk, hcv⟩ := takes_look HT.out name HZ.out
  have hth := takes_has HT.out name
  obtain ⟨H, hH⟩ : ∃ H, Maps.has Dt (.string name.data.toList) = H := ⟨_, rfl⟩
  rw [hH] at hlk hth
  have HCV := Lib.hid hcv
  have HTH := Lib.hid hth
  rw [← hw1] at hlk
  obtain ⟨g0, g1, g2, g3, g4, g5, g6, _⟩ := box7 HC0.out
  rw [← hw1] at g5
  clear hH hcv hth hw1
  cases H with
  | false =>
    have HNO := Lib.hid (show ¬ (name ∈ tnames ts ∧ ∀ c, c ∈ s → (name, c) ∈ l.map pairOf) from fun hh => by have := HTH.out.2 hh.1; cases this)
    go_wp2_with fail
    rw [HW1.out]
    go_ret2
    exact ⟨HB1.out, .inl ⟨HNO.out, rfl⟩⟩
  | true =>
    have HTY := Lib.hid (HTH.out.1 rfl)
    have hca := HCV.out HTY.out
    subst hca
    clear HCV HTH
    have htl := tIdx_lt HTY.out
    have h010 := types_arity HTE.out htl
    rw [← tdAt_eq htl] at h010
    obtain ⟨k, hk⟩ : ∃ k : Nat, (tdAt ts (tIdx ts name)).arity = (k : Int) := ⟨_, (Int.toNat_of_nonneg h010.1).symm⟩
    have HKA := Lib.hid hk
    rw [hk] at hlk h010 ⊢
    have hk10 : k ≤ 10 := by have := h010.2; omega
    obtain ⟨i27, hi27, hx0, hx1, hxb⟩ := info_parts Try.info27
    clear hk h010 htl
    go_wp2_with (at_make; refine wpList_make_full _ rfl _ _ 44 rfl w1.heap.size 27 i27 (.slice none 0 0) 1 Try.underlying44 hi27 hx0 hx1 .i64 .i64 (k : Int) (k : Int) k rfl rfl rfl rfl (by rw [hxb]; omega) (by unfold maxLen; omega) (by first | exact Nat.le_refl _ | (rw [HW1.out]; exact Nat.le_refl _)) ?_; intro w2 ho2 hg2)
    rw [made_slice] at ho2
    rw [HW1.out] at ho2 hg2
    have hgoal : (w.alloc (.cells #[.slice na nl nc, .map (some mb), .slice ua ul uc, .slice aa A.n bc, .slice t4 tl t4c, .map (some mt), .map (some ms)] 70)).heap.size = w1.heap.size := by rw [HW1.out]
    try rw [hgoal]
    try rw [← HS1.out]
    clear hgoal
    have HR2 := Lib.hid (rows_make (B' := w1.heap.size) ho2 (Nat.le_refl _))
    have HB2 := Lib.hid (show Below w1.heap.size w1 w2 from (Below.refl _ _).grown hg2 (Nat.le_refl _) (fun q e => by cases e))
    obtain ⟨R, hR⟩ : ∃ R, w1.heap.size = R := ⟨_, rfl⟩
    rw [hR] at HR2 ⊢
    have HRR := Lib.hid hR
    clear ho2 hg2 hR hlk g0 g1 g2 g3 g4 g5 g6
    have HRX := Lib.hid (show R = w.heap.size + 1 by rw [← HRR.out, HS1.out])
    go_loopw [30] (fun t wr => ∃ (i : Nat) (U : List (List ByteArray)) (vals : List Value), t = .int .i64 i ∧ i ≤ s.length ∧ RowsAt wr R R U vals ∧ U.length = k ∧ (∀ q (h : q < U.length), U[q] = needU l name (s.take i) q) ∧ (∀ c, c ∈ s.take i → (name, c) ∈ l.map pairOf) ∧ Below R w1 wr) (fun t _ => s.length - (intOf t).toNat)
    case atStart => exact ⟨0, _, _, rfl, Nat.zero_le _, HR2.out, by simp, fun q h => by simp [needU], fun c hc => by simp at hc, by rw [← HRR.out]; exact HB2.out⟩
    case round =>
      obtain ⟨i, U, vals, rfl, hi, hR, hU, hN, hall, hb⟩ := hrel
      have HRW := Lib.hid hR
      have HUL := Lib.hid hU
      have HNE := Lib.hid hN
      have HAL := Lib.hid hall
      have HBR := Lib.hid hb
      have HC0r := Lib.hid ((hb.block w.heap.size (by have := HRX.out; omega)).trans HC0.out)
      clear hR hU hN hall hb
      by_cases hlt : i < s.length
      · obtain ⟨xb, xo, hxa, hxs, hxl⟩ := HX.out.later (HRR.out ▸ HBR.out)
        have e := hxa (by intro e; rw [e] at hlt; simp at hlt)
        subst e
        have hcell := hxs.cell i hlt
        have hcsz := hxs.size i hlt
        have HTK := Lib.hid (List.take_append_getElem hlt)
        have HMEM := Lib.hid (List.getElem_mem hlt)
        obtain ⟨c, hc⟩ : ∃ c, s[i] = c := ⟨_, rfl⟩
        rw [hc] at hcell hcsz HTK HMEM
        clear hc hxa hxs
        have HPr := Lib.hid (HP.out.below (HRR.out ▸ HBR.out))
        obtain ⟨va, vn, vc, hlp, hsv⟩ := places_look HPr.out name c HZ.out hcsz
        have hph := HPr.out.has (name, c) HZ.out hcsz
        obtain ⟨H, hH⟩ : ∃ H, Maps.has Dp (placeLit (name, c)) = H := ⟨_, rfl⟩
        rw [hH] at hlp hph
        have HPH := Lib.hid hph
        have HSV := Lib.hid hsv
        obtain ⟨g0, g1, g2, g3, g4, g5, g6, _⟩ := box7 HC0r.out
        clear hH hph hsv
        cases H with
        | false =>
          have HNO := Lib.hid (show ¬ (name ∈ tnames ts ∧ ∀ c, c ∈ s → (name, c) ∈ l.map pairOf) from fun hh => by have := HPH.out.2 (hh.2 c HMEM.out); cases this)
          go_wp2_with fail
          go_ret2
          exact ⟨HB1.out.trans (HBR.out.mono (by have := HRX.out; omega)), .inl ⟨HNO.out, rfl⟩⟩
        | true =>
          have HIN := Lib.hid (HPH.out.1 rfl)
          obtain ⟨hb1, hb2, hb3⟩ := ariOf_spec HIN.out
          have hbl := args_len HAR.out HIN.out
          obtain ⟨v', hv', hsv'⟩ := HP.out.at_ _ hb1
          rw [show pairOf (ariOf l name c) = (name, c) by unfold pairOf; rw [hb2, hb3]] at hv'
          have hvv := sliceR_inj HSV.out hv'
          subst hvv
          obtain ⟨za, zb, zo, zc, ez, hza, hzs⟩ := hsv'
          cases ez
          rw [HKA.out] at hbl
          obtain ⟨b, hbe⟩ : ∃ b, ariOf l name c = b := ⟨_, rfl⟩
          rw [hbe] at hb1 hbl hza hzs hlp HSV
          have HBE' := Lib.hid hbe
          have HBL := Lib.hid (show b.sorts.length = k by omega)
          have HZA := Lib.hid hza
          have HZS := Lib.hid hzs
          have HBM := Lib.hid hb1
          clear hb1 hb2 hb3 hbl hza hzs hv' hbe HPH HSV
          go_wp2_with fail
          clear g0 g1 g2 g3 g4 g5 g6 hlp
          obtain ⟨wo, rfl⟩ : ∃ wo : World, wo = wr := ⟨_, rfl⟩
          go_loopw [47] (fun t wr => ∃ (j : Nat) (U : List (List ByteArray)) (vals : List Value), t = .int .i64 j ∧ j ≤ k ∧ RowsAt wr R R U vals ∧ U.length = k ∧ (∀ q (h : q < U.length), U[q] = needU l name (s.take i) q ++ (if q < j then sortOf b.sorts q else [])) ∧ Below R w1 wr) (fun t _ => k - (intOf t).toNat)
          case atStart => exact ⟨0, U, vals, rfl, Nat.zero_le _, HRW.out, HUL.out, fun q h => by rw [HNE.out q h]; simp, HBR.out⟩
          case round =>
            obtain ⟨j, U', vals', rfl, hj, hR', hU', hN', hb'⟩ := hrel
            have HRJ := Lib.hid hR'
            have HUJ := Lib.hid hU'
            have HNJ := Lib.hid hN'
            have HBJ := Lib.hid hb'
            clear hR' hU' hN' hb'
            by_cases hjk : j < k
            · have hju : j < U'.length := by rw [HUJ.out]; exact hjk
              have hjb : j < b.sorts.length := by rw [HBL.out]; exact hjk
              have hRD : RowsAt wr.drew R R U' vals' := HRJ.out.keep (KeepT.below 0 (Below.refl _ wr).drew) (by decide) (by decide)
              obtain ⟨v, hv, hov⟩ := hRD.row j hju
              obtain ⟨a5, c5, rfl⟩ := own_slice hov
              have e := HZA.out (by intro e; have := HBL.out; rw [e] at this; simp at this; omega)
              subst e
              have hbJ : Below w1.heap.size w1 wr.drew := by rw [HRR.out]; exact HBJ.out.drew
              obtain ⟨hly, xa, xc, ycell, hxS⟩ := (HZS.out.later hbJ) j hjb
              have HSB := Lib.hid (sortOf_eq hjb)
              obtain ⟨X, hX⟩ : ∃ X, b.sorts[j] = X := ⟨_, rfl⟩
              rw [hX] at ycell hxS HSB
              have hrs : R ≤ wr.drew.heap.size := by have := (Array.getElem?_eq_some_iff.1 hRD.box).1; omega
              obtain ⟨v', w', hr, ho', hg', hown'⟩ := run_append_sort_at (xc := xc) 27 hov hxS (by
                have hxl := (sErr_zero ((aris_mem HAR.out HBM.out).2.2.2 j hjb)).1
                rw [HSB.out] at hxl
                have hnl := need_len HAR.out HAL.out (i := j) (by rw [HKA.out]; omega)
                have htl : (s.take i).length ≤ 20 := by simp only [List.length_take]; omega
                have hul : U'[j].length = (needU l name (s.take i) j).length := by rw [HNJ.out j hju]; simp
                omega) hrs
              obtain ⟨a6, c6, rfl⟩ := own_slice ho'
              have hk9 : KeepT 9 wr.drew w' := KeepT.grown hov hg'
              have hboxR := hk9.2 R _ hRD.box (fun c f e => by cases e)
              have HPUT := Lib.hid (hRD.put hju hv hg' (new := U'[j] ++ X) (by simpa [List.length_append, List.map_append] using ho') (hown'.imp id (fun e g eg => by rw [e] at eg; cases eg; exact Nat.le_refl _)))
              have vcell := hRD.cell hv
              have vcell' : w'.cell? ⟨R, j, none⟩ = some (.slice a5 U'[j].length c5) := by
                rw [Lib.cell_of_heap hboxR]
                simpa using hv
              have vfr' : w'.frozen? ⟨R, j, none⟩ = false := Lib.frozen_of_heap hboxR j
              obtain ⟨L5, hL5⟩ : ∃ L5, U'[j].length = L5 := ⟨_, rfl⟩
              obtain ⟨LX, hLX⟩ : ∃ LX, X.length = LX := ⟨_, rfl⟩
              rw [hL5] at hr vcell vcell' HPUT
              rw [hLX] at hr ycell HPUT
              have HRUN := Lib.hid hr
              have HL5 := Lib.hid hL5
              have HLX := Lib.hid hLX
              have HB' := Lib.hid (show Below R w1 w' from (HBJ.out.drew).grown hg' (by have := hbJ.size; rw [HRR.out] at this; exact this) (fun q e => (hov.lt q e).1))
              clear hL5 hLX hv
              clear hX hr ho' hg' hown' hk9 hboxR hRD hov hbJ hxS
              go_wp2_with fail
              go_region_law (refine step_append_run (by rfl) _ _ _ (by rfl) _ _ (by rfl) (by rfl) _ _ (by exact HRUN.out) ?_)
              all_goals
                go_wp2_with fail
                refine ⟨⟨j + 1, _, _, by simp only [Int.natCast_add, Int.natCast_one], by omega, HPUT.out, by rw [List.length_set]; exact HUJ.out, fun q hq => ?_, HB'.out.setCell (p := ⟨R, j, none⟩) (Nat.le_refl _) _⟩, ?_⟩
                · have hq' : q < U'.length := by simpa using hq
                  by_cases e : q = j
                  · subst e
                    rw [List.getElem_set_self, HNJ.out q hq', if_neg (Nat.lt_irrefl q), if_pos (Nat.lt_succ_self q), HSB.out, List.append_nil]
                  · rw [List.getElem_set_ne (Ne.symm e), HNJ.out q hq']
                    by_cases e2 : q < j
                    · rw [if_pos e2, if_pos (by omega)]
                    · rw [if_neg e2, if_neg (by omega)]
                · show k - ((j : Int) + 1).toNat < k - ((j : Nat) : Int).toNat
                  omega
            · have hjk' : j = k := by omega
              subst hjk'
              go_wp2_with fail
              refine ⟨⟨i + 1, U', vals', by simp only [Int.natCast_add, Int.natCast_one], by omega, HRJ.out, HUJ.out, fun q hq => ?_, fun c' hc' => ?_, HBJ.out⟩, ?_⟩
              · rw [HNJ.out q hq, if_pos (by rw [← HUJ.out]; exact hq), ← HTK.out, needU_snoc, HBE'.out]
              · rw [← HTK.out] at hc'
                rcases List.mem_append.1 hc' with h | h
                · exact HAL.out c' h
                · rw [List.mem_singleton.1 h]; exact HIN.out
              · show s.length - ((i : Int) + 1).toNat < s.length - ((i : Nat) : Int).toNat
                omega
      · have hie : i = s.length := by omega
        subst hie
        have HALL := Lib.hid (show ∀ c, c ∈ s → (name, c) ∈ l.map pairOf from fun c hc => HAL.out c (by rw [List.take_length]; exact hc))
        have HNE' := Lib.hid (show ∀ q (h : q < U.length), U[q] = needU l name s q from fun q h => by have := HNE.out q h; rwa [List.take_length] at this)
        go_wp2_with fail
        obtain ⟨wo, rfl⟩ : ∃ wo : World, wo = wr := ⟨_, rfl⟩
        go_loopw [66] (fun t wr => ∃ (j : Nat) (U : List (List ByteArray)) (vals : List Value), t = .int .i64 j ∧ j ≤ k ∧ RowsAt wr R R U vals ∧ U.length = k ∧ (∀ q (h : q < U.length), (q < j → IsNormalOf ltS (belowB cs) (needU l name s q) U[q]) ∧ (¬ q < j → U[q] = needU l name s q)) ∧ Below R w1 wr) (fun t _ => k - (intOf t).toNat)
        case atStart => exact ⟨0, U, vals, rfl, Nat.zero_le _, HRW.out, HUL.out, fun q h => ⟨fun h => by omega, fun _ => HNE'.out q h⟩, HBR.out⟩
        case round =>
          obtain ⟨j, U', vals', rfl, hj, hR', hU', hN', hb'⟩ := hrel
          have HRJ := Lib.hid hR'
          have HUJ := Lib.hid hU'
          have HNJ := Lib.hid hN'
          have HBJ := Lib.hid hb'
          clear hR' hU' hN' hb'
          by_cases hjk : j < k
          · have hju : j < U'.length := by rw [HUJ.out]; exact hjk
            have hRD : RowsAt wr.drew R R U' vals' := HRJ.out.keep (KeepT.below 0 (Below.refl _ wr).drew) (by decide) (by decide)
            obtain ⟨v, hv, hov⟩ := hRD.row j hju
            obtain ⟨a5, c5, rfl⟩ := own_slice hov
            have hbJ : Below w1.heap.size w1 wr.drew := by rw [HRR.out]; exact HBJ.out.drew
            have hne := (HNJ.out j hju).2 (Nat.lt_irrefl j)
            have hnl := need_len HAR.out HALL.out (i := j) (by rw [HKA.out]; omega)
            have hsz : ∀ z, z ∈ U'[j] → z.size ≤ maxLen := by
              rw [hne]
              intro z hz
              obtain ⟨d, hd, hz⟩ := List.mem_flatMap.1 hz
              obtain ⟨q1, _, _⟩ := ariOf_spec (HALL.out d hd)
              have hlen := args_len HAR.out (HALL.out d hd)
              rw [HKA.out] at hlen
              obtain ⟨_, _, _, _, _, _, _, _, hss⟩ := HP.out.at_ _ q1
              have hjb : j < (ariOf l name d).sorts.length := by omega
              obtain ⟨_, _, _, _, hS⟩ := hss j hjb
              rw [sortOf_eq hjb] at hz
              exact hS.size z hz
            rw [← hne] at hnl
            obtain ⟨a5', c5', e5, hS5⟩ := sortAt_own hov hsz (by omega)
            cases e5
            obtain ⟨xb, xo, x1, x2, x3⟩ := hS5
            have HLE := Lib.hid (least_any A na ua aa t4 nl nc ul uc bc tl t4c mb nm ab 0 (some mt) (some ms) D xb xo c5 a5 U'[j] wr.drew (HA.out.below hbJ hmw haw) HAA.out (Nat.lt_of_lt_of_le hmw hbJ.size) (Nat.lt_of_lt_of_le haw hbJ.size) x1 x2 (by omega))
            have hbx : wr.drew.heap[w.heap.size]? = some (.cells #[.slice na nl nc, .map (some mb), .slice ua ul uc, .slice aa A.n bc, .slice t4 tl t4c, .map (some mt), .map (some ms)] 70 (0, 0)) := (hbJ.block w.heap.size (by rw [HRR.out]; have := HRX.out; omega)).trans HC0.out
            obtain ⟨g0, g1, g2, g3, g4, g5, g6, _⟩ := box7 hbx
            have vcell := hRD.cell hv
            have HRD := Lib.hid hRD
            have HV := Lib.hid hv
            have HOV := Lib.hid hov
            have HNN := Lib.hid hne
            have HBD := Lib.hid (show Below R w1 wr.drew from HBJ.out.drew)
            obtain ⟨L5, hL5⟩ : ∃ L5, U'[j].length = L5 := ⟨_, rfl⟩
            rw [hL5] at HLE vcell HV
            clear hbx hRD hv hov hne hnl hsz x1 x2 x3 hbJ hL5
            go_wp2_with fail
            go_region_law (go_simp; go_at_call 75; refine HLE.out.mono ?_; rintro e w6 ⟨v6, r6, rfl, hN6, ho6, hb6⟩; obtain ⟨a6, c6, rfl⟩ := own_slice ho6; have HN6 := Lib.hid hN6; have HO6 := Lib.hid ho6; have HB6 := Lib.hid hb6; have k0 := (HB6.out.cell (p := ⟨R, j, none⟩) (Array.getElem?_eq_some_iff.1 HRD.out.box).1).trans vcell; have kf : w6.frozen? ⟨R, j, none⟩ = false := Lib.frozen_of_heap ((HB6.out.block R (Array.getElem?_eq_some_iff.1 HRD.out.box).1).trans HRD.out.box) j; clear hN6 ho6 hb6)
            all_goals
              have hrs : R ≤ wr.drew.heap.size := by have := (Array.getElem?_eq_some_iff.1 HRD.out.box).1; omega
              have hg6 : wr.drew.grownBy w6 (Value.slice a5 L5 c5).ownBlock := ⟨HB6.out.os, HB6.out.tape, HB6.out.output, HB6.out.size, fun q hq _ => HB6.out.block q hq⟩
              have HPUT := Lib.hid (HRD.out.put hju HV.out hg6 (own_base HO6.out hrs) (.inr fun g e => (HO6.out.lt g e).1))
              have HB7 := Lib.hid ((HBD.out.trans (HB6.out.mono hrs)).setCell (p := ⟨R, j, none⟩) (Nat.le_refl R) (.slice a6 r6.length c6))
              clear hg6 hrs
              go_wp2_with fail
              refine ⟨⟨j + 1, _, _, by simp only [Int.natCast_add, Int.natCast_one], by omega, HPUT.out, by rw [List.length_set]; exact HUJ.out, fun q hq => ?_, HB7.out⟩, ?_⟩
              · have hq' : q < U'.length := by simpa using hq
                by_cases e : q = j
                · subst e
                  rw [List.getElem_set_self]
                  have h6 := HN6.out
                  rw [HBE.out, HNN.out] at h6
                  exact ⟨fun _ => h6, fun h => absurd (Nat.lt_succ_self q) h⟩
                · rw [List.getElem_set_ne (Ne.symm e)]
                  exact ⟨fun h => (HNJ.out q hq').1 (by omega), fun h => (HNJ.out q hq').2 (by omega)⟩
              · show k - ((j : Int) + 1).toNat < k - ((j : Nat) : Int).toNat
                omega
          · have HFIN := Lib.hid (fun q (hq : q < U'.length) => (HNJ.out q hq).1 (by rw [HUJ.out] at hq; omega))
            go_wp2_with fail
            go_ret2
            exact ⟨HB1.out.trans (HBJ.out.mono (by have := HRX.out; omega)), .inr ⟨HTY.out, HALL.out, R, U', vals', by rw [HUJ.out]; rfl, by rw [← HRX.out]; exact HRJ.out, by rw [HUJ.out], HFIN.out⟩⟩
end Go.Proofs.Ytlaibimdkamcfaa
end

