import Derived.Test.YtlaibimdkamcfaaH8
import Derived.Test.YtlaibimdkamcfaaJ4
import Derived.Test.YtlaibimdkamcfaaF9
/-
  The reference's Needed: the sorts that the arguments of a constructor must have.
-/
namespace Go.Proofs.Ytlaibimdkamcfaa
open Go.RowKit Go.Maps

/-- What the reference's Needed answers. -/
def NeededOut (cs : List Cls) (ts : List TD) (l : List Ari) (name : ByteArray) (s : List ByteArray) (e : Ending) (w' : World) : Prop :=
  (¬ (name ∈ tnames ts ∧ ∀ c, c ∈ s → (name, c) ∈ l.map pairOf) ∧ e = .returned (.tuple #[.slice none 0 0, .bool false])) ∨
  (name ∈ tnames ts ∧ (∀ c, c ∈ s → (name, c) ∈ l.map pairOf) ∧ ∃ (U : List (List ByteArray)) (v : Value), e = .returned (.tuple #[v, .bool true]) ∧ SortsV w' U v ∧ (U.length : Int) = (tdAt ts (tIdx ts name)).arity ∧
    ∀ i (h : i < U.length), IsNormalOf ltS (belowB cs) (needU l name s i) U[i])

theorem NeededOut.form {cs : List Cls} {ts : List TD} {l : List Ari} {name : ByteArray} {s : List ByteArray} {e : Ending} {w' : World} (h : NeededOut cs ts l name s e w') : ∃ (a : Option Addr) (n c : Nat) (b : Bool), e = .returned (.tuple #[.slice a n c, .bool b]) := by
  rcases h with ⟨_, h⟩ | ⟨_, _, U, v, h, ⟨sa, sb, so, sc, hv, _⟩, _⟩
  · exact ⟨_, _, _, _, h⟩
  · exact ⟨_, _, _, _, by rw [h, hv]⟩

theorem cloned_nils {W : World} {k : Nat} {vals : List Value} (h : ∀ x, x ∈ vals → ∃ B, W.ownsRow B 9 1 x 0 []) (hl : vals.length = k) : Cloned W (List.replicate k []) k vals := by
  intro j hj hjk
  obtain ⟨B, hB⟩ := h _ (List.getElem_mem (show j < vals.length by omega))
  exact ⟨vals[j]'(by omega), B, List.getElem?_eq_getElem _, by simpa using hB⟩

theorem cloned_set {W : World} {U : List (List ByteArray)} {vals : List Value} (h : Cloned W U U.length vals) (hl : vals.length = U.length) {n : Nat} {v : Value} {B : Nat} {new : List ByteArray} (hv : W.ownsRow B 9 1 v new.length (new.map Value.string)) : Cloned W (U.set n new) (U.set n new).length (vals.set n v) := by
  intro j hj hjk
  have hj' : j < U.length := by simpa using hj
  by_cases e : j = n
  · subst e
    refine ⟨v, B, List.getElem?_set_self (by omega), ?_⟩
    rw [List.getElem_set_self]; exact hv
  · obtain ⟨u, B', h1, h2⟩ := h j hj' hj'
    refine ⟨u, B', by rw [List.getElem?_set_ne (Ne.symm e)]; exact h1, ?_⟩
    rw [List.getElem_set_ne (Ne.symm e)]; exact h2

theorem normal_nil (B : ByteArray → ByteArray → Bool) : IsNormalOf ltS B [] [] := leastFrom_normal B []

theorem own_some {W : World} {B e k n c : Nat} {a : Option Addr} {xs : List Value} (h : W.ownsRow B e k (.slice a n c) n xs) (hn : 0 < n) : ∃ g, a = some ⟨g, 0, none⟩ ∧ B ≤ g ∧ g < W.heap.size := by
  rcases h.2 with ⟨hv, h0⟩ | ⟨g, cap, cur, hv, hb, hg, _⟩
  · omega
  · cases hv
    exact ⟨g, rfl, hb, (Array.getElem?_eq_some_iff.1 hg).1⟩

theorem own_box {W : World} {B e k n c g : Nat} {xs : List Value} (h : W.ownsRow B e k (.slice (some ⟨g, 0, none⟩) n c) n xs) : ∃ cur, W.heap[g]? = some (.cells cur e (0, 0)) := by
  rcases h.2 with ⟨hv, h0⟩ | ⟨g, cap, cur, hv, hb, hg, _⟩
  · cases hv
  · cases hv
    exact ⟨cur, hg⟩

theorem known_size {W : World} {b o : Nat} {cs : List Cls} (h : ClassesAt W b o cs) {c : ByteArray} (hc : knownB cs c = true) : c.size ≤ maxLen := by
  have := names_small h (idxOfC cs c) (idx_lt hc)
  rwa [clsAt_eq (idx_lt hc), idx_get hc] at this

set_option maxRecDepth 100000 in
set_option maxHeartbeats 8000000 in
theorem refNeeded_any {nm : ByteArray} {ca ta ra oa ya qa : Option Addr} {cc tc rc on oc yn yc qn qc cb co tb to rb ro : Nat} {cs : List Cls} {ts : List TD} {l : List Ari} {g : Nat} {W0 : World} (h : ThyF nm ca ta ra oa ya qa cc tc rc on oc yn yc qn qc cb co tb to rb ro cs ts l g W0)
    (hO : openErr cs = 0) (hT : typesErr ts = 0) (hA : arisErr cs ts l = 0) (name : ByteArray) (sa : Option Addr) (s : List ByteArray) (sc : Nat) (w : World) (hb : Below W0.heap.size W0 w)
    (hz : name.size ≤ maxLen) (hs : SortAt w sa s) (hk : ∀ c, c ∈ s → knownB cs c = true) (hl25 : s.length ≤ 25) :
    Calls Try.prog 56 #[.agg #[.string nm, .slice ca cs.length cc, .slice ta ts.length tc, .slice ra l.length rc, .slice oa on oc, .slice ya yn yc, .slice qa qn qc], .string name, .slice sa s.length sc] w fun e w' => Below w.heap.size w w' ∧ NeededOut cs ts l name s e w' := by
  have hb0 : Below w.heap.size w (w.alloc (.cells #[.string nm, .slice ca cs.length cc, .slice ta ts.length tc, .slice ra l.length rc, .slice oa on oc, .slice ya yn yc, .slice qa qn qc] 29)) := (Below.refl _ w).alloc (Nat.le_refl _) _
  have HTH := Lib.hid ((h.later hb).boxed hb0 (heap_alloc_new w _))
  have HB0 := Lib.hid hb0
  have HS1 := Lib.hid (show (w.alloc (.cells #[.string nm, .slice ca cs.length cc, .slice ta ts.length tc, .slice ra l.length rc, .slice oa on oc, .slice ya yn yc, .slice qa qn qc] 29)).heap.size = w.heap.size + 1 by simp)
  have HX := Lib.hid (hs.later hb0)
  have HTL := Lib.hid h.tyl
  have HCL := Lib.hid (open_le hO)
  have HO := Lib.hid hO
  have HTE := Lib.hid hT
  have HAR := Lib.hid hA
  have HK := Lib.hid hk
  have HZ := Lib.hid hz
  have har := h.arl
  clear hb0 hb h hs hO hT hA hk hz
  go_enter Try.func56, Try.ntmps56
  go_wp2_with fail
  generalize (w.alloc (.cells #[.string nm, .slice ca cs.length cc, .slice ta ts.length tc, .slice ra l.length rc, .slice oa on oc, .slice ya yn yc, .slice qa qn qc] 29)) = w1 at *
  obtain ⟨ga, hga⟩ : ∃ q, w.heap.size = q := ⟨_, rfl⟩
  rw [hga] at HTH HS1
  try rw [hga]
  have HGE := Lib.hid hga
  clear hga
  obtain ⟨g0, g1, g2, g3, g4, g5, g6⟩ := HTH.out.at_.cells
  go_wp2_with fail
  clear g0 g1 g2 g3 g4 g5 g6
  refine (refType_uni HTH.out w1 HZ (Lib.hid (Below.refl _ _))).mono ?_
  rintro e w2 ⟨rfl, hb2, _, _, _, _, _, _, _⟩
  have HBW2 : Hid (Below w.heap.size w w2) := Lib.hid (HB0.out.trans (hb2.out.mono HB0.out.size))
  by_cases hty : ¬ (name ∈ tnames ts)
  · have hk := refT_neg.2 hty
    have HNO := Lib.hid hty
    obtain ⟨K, hK⟩ : ∃ K, refT ts name = K := ⟨_, rfl⟩
    rw [hK] at hk ⊢
    clear hK hty hb2
    go_wp2_with fail
    go_ret2
    exact ⟨HBW2.out, .inl ⟨fun h => HNO.out h.1, rfl⟩⟩
  replace hty := Classical.not_not.1 hty
  have HTY := Lib.hid hty
  have hkl := tIdx_lt hty
  have e := HTH.out.tya (by intro e; subst e; simp at hkl)
  subst e
  rw [refT_pos hty]
  have har' := types_arity HTE.out hkl
  have HKAR := Lib.hid (show (tdAt ts (tIdx ts name)).arity = ts[tIdx ts name].arity by rw [tdAt_eq hkl])
  obtain ⟨kk, hkk⟩ : ∃ k, tIdx ts name = k := ⟨_, rfl⟩
  simp only [hkk] at har' HKAR hkl ⊢
  have HKK := Lib.hid hkk
  obtain ⟨k, hk⟩ : ∃ k : Nat, ts[kk].arity = (k : Int) := ⟨ts[kk].arity.toNat, by omega⟩
  rw [hk] at har' HKAR
  have HKE := Lib.hid hk
  have hk10 : k ≤ 10 := by omega
  have HT2 := Lib.hid (HTH.out.later hb2.out)
  have HX2 := Lib.hid (HX.out.later hb2.out)
  have HGA2 := Lib.hid (show ga < w2.heap.size by have := hb2.out.size; have := HS1.out; omega)
  clear hty hkk hk har' HTH HX hb2
  go_wp2_with fail
  obtain ⟨i9, hi9, hx0, hx1, hxb⟩ := info_parts Try.info9'
  obtain ⟨i27, hi27, hy0, hy1, hyb⟩ := info_parts Try.info27
  go_loopw [9, 10] (fun v t wr => ∃ (k0 : Nat) (vals : List Value), t = .int .i64 k0 ∧ k0 ≤ k ∧ wr.ownsRow w2.heap.size 27 1 v k0 vals ∧ (∀ x, x ∈ vals → ∃ B, wr.ownsRow B 9 1 x 0 []) ∧ Below w2.heap.size w2 wr) (fun _ t _ => k - (intOf t).toNat)
  case atStart => exact ⟨0, [], rfl, Nat.zero_le _, World.ownsRow_made w2 #[] 0 (Nat.le_refl _) (Nat.zero_le _) rfl, fun x hx => (by cases hx), (Below.refl _ _).alloc (Nat.le_refl _) _⟩
  case round =>
    obtain ⟨k0, vals, rfl, hk0, ho, hv, hb⟩ := hrel
    obtain ⟨a1, cp1, rfl⟩ := own_slice ho
    have HO1 := Lib.hid ho
    have HV := Lib.hid hv
    have HB := Lib.hid hb
    have HTR := Lib.hid (HT2.out.later hb)
    obtain ⟨g0, g1, g2, g3, g4, g5, g6⟩ := HTR.out.at_.cells
    obtain ⟨_, _, c1, _, _⟩ := HTR.out.tys kk hkl
    rw [HKE.out] at c1
    clear ho hv hb
    by_cases hlt : k0 < k
    · have he9 : (wr.alloc (.cells #[] 9)).ownsRow wr.heap.size 9 1 (.slice (some ⟨wr.heap.size, 0, none⟩) 0 0) 0 [] := World.ownsRow_made wr #[] 0 (Nat.le_refl _) (Nat.zero_le _) rfl
      have HE9 := Lib.hid he9
      have hc27 := cell_one_new (wr.alloc (.cells #[] 9)) (.slice (some ⟨wr.heap.size, 0, none⟩) 0 0) 27
      have hsz1 : (wr.alloc (.cells #[] 9)).heap.size = wr.heap.size + 1 := by simp
      rw [hsz1] at hc27
      have HC27 := Lib.hid hc27
      clear he9 hc27 hsz1
      go_wp2_with (at_builtin; refine wpList_append_own _ rfl _ _ 44 rfl w2.heap.size 27 i27 (.slice none 0 0) 1 24 Try.underlying44 hi27 hy0 hy1 hyb rfl (by decide) _ _ _ rfl ((HO1.out.alloc (.cells #[] 9)).alloc _) ⟨wr.heap.size + 1, 0, none⟩ 1 1 [.slice (some ⟨wr.heap.size, 0, none⟩) 0 0] rfl rfl HC27.out (by simp [Value.oneCell']) (by unfold maxLen; omega) (by omega) (by have := HB.out.size; simp; omega) ?_; intro v7 w7 hown7 hgrow7 _)
      have hba : Below wr.heap.size wr ((wr.alloc (.cells #[] 9)).alloc (.cells #[.slice (some ⟨wr.heap.size, 0, none⟩) 0 0] 27)) := ((Below.refl wr.heap.size wr).alloc (Nat.le_refl _) _).alloc (by simp) _
      have hkt := KeepT.grown ((HO1.out.alloc (.cells #[] 9)).alloc (.cells #[.slice (some ⟨wr.heap.size, 0, none⟩) 0 0] 27)) hgrow7
      have hb7 : Below w2.heap.size wr w7 := (hba.mono HB.out.size).grown hgrow7 (by have := HB.out.size; simp; omega) (fun q e => (HO1.out.lt q e).1)
      refine ⟨⟨k0 + 1, _, by simp only [Int.natCast_add, Int.natCast_one], by omega, hown7, fun x hx => ?_, HB.out.trans hb7⟩, ?_⟩
      · rcases List.mem_append.1 hx with hx | hx
        · obtain ⟨B, hB⟩ := HV.out x hx
          exact ⟨B, hkt.own (by decide) ((KeepT.below 0 hba).own (by decide) hB)⟩
        · rw [List.mem_singleton.1 hx]
          exact ⟨_, hkt.own (by decide) (HE9.out.alloc _)⟩
      · show k - ((k0 : Int) + 1).toNat < k - ((k0 : Nat) : Int).toNat
        omega
    · have hke : k0 = k := by omega
      subst hke
      have hvl : vals.length = k0 := by have := HO1.out.1; omega
      have HCL1 := Lib.hid (cloned_nils HV.out hvl)
      clear hvl HV
      go_wp2_with fail
      clear g0 g1 g2 g3 g4 g5 g6 HTR c1
      obtain ⟨wo, rfl⟩ : ∃ wo : World, wo = wr := ⟨_, rfl⟩
      go_loopw [11] (fun t wr => ∃ (i : Nat) (U : List (List ByteArray)) (vals : List Value), t = .int .i64 i ∧ i ≤ s.length ∧ wr.ownsRow w2.heap.size 27 1 (.slice a1 k0 cp1) k0 vals ∧ U.length = k0 ∧ Cloned wr U U.length vals ∧ (∀ q (h : q < U.length), IsNormalOf ltS (belowB cs) (needU l name (s.take i) q) U[q]) ∧ (∀ c, c ∈ s.take i → (name, c) ∈ l.map pairOf) ∧ Below w2.heap.size w2 wr) (fun t _ => s.length - (intOf t).toNat)
      case atStart => exact ⟨0, List.replicate k0 [], vals, rfl, Nat.zero_le _, HO1.out, by simp, fun j hj _ => HCL1.out j hj (by simpa using hj), fun q h => (by
        have e : needU l name (s.take 0) q = [] := by simp [needU]
        rw [e, List.getElem_replicate]; exact normal_nil _), fun c hc => (by simp at hc), HB.out⟩
      case round =>
        obtain ⟨i, U, vals, rfl, hi, ho, hU, hcl, hN, hall, hb⟩ := hrel
        have HOW := Lib.hid ho
        have HUL := Lib.hid hU
        have HCN := Lib.hid hcl
        have HNE := Lib.hid hN
        have HAL := Lib.hid hall
        have HBR := Lib.hid hb
        have HTR := Lib.hid (HT2.out.later hb)
        have HXR := Lib.hid (HX2.out.later hb)
        clear ho hU hcl hN hall hb
        by_cases hlt : i < s.length
        · obtain ⟨xb, xo, hxa, hxs, hxl⟩ := HXR.out
          have e := hxa (by intro e; rw [e] at hlt; simp at hlt)
          subst e
          have hcell := hxs.cell i hlt
          have HCSZ := Lib.hid (hxs.size i hlt)
          have HXB := Lib.hid (hxs.lt (by intro e; rw [e] at hlt; simp at hlt))
          have HTK := Lib.hid (List.take_append_getElem hlt)
          have HMEM := Lib.hid (List.getElem_mem hlt)
          obtain ⟨c, hc⟩ : ∃ c, s[i] = c := ⟨_, rfl⟩
          rw [hc] at hcell HCSZ HTK HMEM
          have HCELL := Lib.hid hcell
          have HFA := Lib.hid (fun W hb => refArity_uni HTR.out W HZ HCSZ hb)
          obtain ⟨J, hJ⟩ : ∃ J, refA l (name, c) = J := ⟨_, rfl⟩
          rw [hJ] at HFA
          have HJ := Lib.hid hJ
          have HRD := Lib.hid ((Below.refl wr.heap.size wr).drew)
          obtain ⟨g0, g1, g2, g3, g4, g5, g6⟩ := HTR.out.at_.cells
          have i0 : wr.drew.cell? ⟨ga, 0, none⟩ = _ := g0
          have i1 : wr.drew.cell? ⟨ga, 1, none⟩ = _ := g1
          have i2 : wr.drew.cell? ⟨ga, 2, none⟩ = _ := g2
          have i3 : wr.drew.cell? ⟨ga, 3, none⟩ = _ := g3
          have i4 : wr.drew.cell? ⟨ga, 4, none⟩ = _ := g4
          have i5 : wr.drew.cell? ⟨ga, 5, none⟩ = _ := g5
          have i6 : wr.drew.cell? ⟨ga, 6, none⟩ = _ := g6
          have i7 : wr.drew.cell? ⟨xb, xo + i, none⟩ = _ := hcell
          clear hc hcell hxa hxs hJ g0 g1 g2 g3 g4 g5 g6
          go_wp2_with fail
          go_region_held3 (fun W => W.cell? ⟨xb, xo + i, none⟩ = some (.string c) ∧ W.cell? ⟨ga, 0, none⟩ = some (.string nm) ∧ W.cell? ⟨ga, 1, none⟩ = some (.slice ca cs.length cc) ∧ W.cell? ⟨ga, 2, none⟩ = some (.slice (some ⟨tb, to, none⟩) ts.length tc) ∧ W.cell? ⟨ga, 3, none⟩ = some (.slice ra l.length rc) ∧ W.cell? ⟨ga, 4, none⟩ = some (.slice oa on oc) ∧ W.cell? ⟨ga, 5, none⟩ = some (.slice ya yn yc) ∧ W.cell? ⟨ga, 6, none⟩ = some (.slice qa qn qc))
            (refine ⟨?_, ?_, ?_, ?_, ?_, ?_, ?_, ?_⟩ <;> assumption)
            ((go_at_call 65; refine (HFA.out _ (by assumption)).mono ?_; rintro e w' ⟨rfl, hb', j0, j1, j2, j3, j4, j5, j6⟩; have j7 := (hb'.out.cell (p := ⟨xb, xo + i, none⟩) HXB.out).trans HCELL.out))
          have HB5 := Lib.hid (HBR.out.trans (hb'.out.mono HBR.out.size))
          have HO5 := Lib.hid (own_later HOW.out hb'.out)
          have HC5 := Lib.hid (HCN.out.keep (KeepT.below 0 hb'.out) (by decide))
          clear hb' i0 i1 i2 i3 i4 i5 i6 i7 j0 j1 j2 j3 j4 j5 j6 j7
          by_cases hJ0 : J < 0
          · have HNO := Lib.hid (show ¬ (name ∈ tnames ts ∧ ∀ c, c ∈ s → (name, c) ∈ l.map pairOf) from fun hh => refA_neg.1 (by rw [HJ.out]; exact hJ0) (hh.2 c HMEM.out))
            go_wp2_with fail
            go_ret2
            exact ⟨HBW2.out.trans (HB5.out.mono HBW2.out.size), .inl ⟨HNO.out, rfl⟩⟩
          · have hin : (name, c) ∈ l.map pairOf := Classical.byContradiction fun hn => hJ0 (by rw [← HJ.out]; exact refA_neg.2 hn)
            have HIN := Lib.hid hin
            have hjl := aIdx_lt hin
            have hjp := refA_pos hin
            rw [HJ.out] at hjp
            have HAO := Lib.hid (show ariOf l name c = l[aIdx l (name, c)] from ariAt_eq hjl)
            have hbl := args_len HAR.out hin
            rw [HKK.out, HKAR.out, HAO.out] at hbl
            have HSJ := Lib.hid (aris_mem HAR.out (List.getElem_mem hjl)).2.2.2
            obtain ⟨jj, hjj⟩ : ∃ q, aIdx l (name, c) = q := ⟨_, rfl⟩
            simp only [hjj] at hjl hjp HAO hbl HSJ
            subst hjp
            have e := HT2.out.ara (by intro e; subst e; simp at hjl)
            subst e
            obtain ⟨hrb, s2a, s2b, s2o, s2c, _, _, p2, p3, p4, _, _, p7⟩ := HT2.out.ars jj hjl
            obtain ⟨b, hbe⟩ : ∃ b, l[jj] = b := ⟨_, rfl⟩
            rw [hbe] at p2 p3 p4 p7 HAO hbl HSJ
            have HBL := Lib.hid (show b.sorts.length = k0 by omega)
            have HP2 := Lib.hid p2
            have HP3 := Lib.hid p3
            have HP4 := Lib.hid p4
            have HRB := Lib.hid hrb
            clear hjj hbe hin hbl p2 p3 p4 hrb hJ0
            go_wp2_with fail
            obtain ⟨wp, rfl⟩ : ∃ wp : World, wp = wr := ⟨_, rfl⟩
            go_loopw [13] (fun t wr => ∃ (n : Nat) (U : List (List ByteArray)) (vals : List Value), t = .int .i64 n ∧ n ≤ k0 ∧ wr.ownsRow w2.heap.size 27 1 (.slice a1 k0 cp1) k0 vals ∧ U.length = k0 ∧ Cloned wr U U.length vals ∧ (∀ q (h : q < U.length), (q < n → IsNormalOf ltS (belowB cs) (needU l name (s.take i) q ++ sortOf b.sorts q) U[q]) ∧ (¬ q < n → IsNormalOf ltS (belowB cs) (needU l name (s.take i) q) U[q])) ∧ Below w2.heap.size w2 wr) (fun t _ => k0 - (intOf t).toNat)
            case atStart => exact ⟨0, U, vals, rfl, Nat.zero_le _, HO5.out, HUL.out, HC5.out, fun q h => ⟨fun h => by omega, fun _ => HNE.out q h⟩, HB5.out⟩
            case round =>
              obtain ⟨n, U', vals', rfl, hn, ho, hU, hcl, hN, hb⟩ := hrel
              have HON := Lib.hid ho
              have HUN := Lib.hid hU
              have HCM := Lib.hid hcl
              have HNN := Lib.hid hN
              have HBN := Lib.hid hb
              clear ho hU hcl hN hb
              by_cases hnk : n < k0
              · have hnu : n < U'.length := by rw [HUN.out]; exact hnk
                have hnb : n < b.sorts.length := by rw [HBL.out]; exact hnk
                obtain ⟨R, rfl, hR1, hR2⟩ := own_some HON.out (show 0 < k0 by omega)
                obtain ⟨cur, hbox⟩ := own_box HON.out
                have HBOX := Lib.hid hbox
                have HR1 := Lib.hid hR1
                have HR2 := Lib.hid hR2
                obtain ⟨v5, B5, hv5, hov5⟩ := HCM.out n hnu hnu
                obtain ⟨a5, c5, rfl⟩ := own_slice hov5
                have vcell : wr.drew.cell? ⟨R, n, none⟩ = some (.slice a5 U'[n].length c5) := (HON.out.cellAt n (by omega)).trans hv5
                have hNn := (HNN.out n hnu).2 (Nat.lt_irrefl n)
                have hkn : ∀ z, z ∈ U'[n] → knownB cs z = true := fun z hz => need_known HAR.out HAL.out (i := n) (by rw [HKK.out, HKAR.out]; omega) z ((hNn.mem z).1 hz).1
                have hln := need_len HAR.out HAL.out (i := n) (by rw [HKK.out, HKAR.out]; omega)
                have htl : (s.take i).length ≤ 24 := by simp only [List.length_take]; omega
                have hul : U'[n].length ≤ 480 := by have := hNn.len; omega
                obtain ⟨hx20, hxk, _⟩ := sErr_zero (HSJ.out n hnb)
                have HSB := Lib.hid (sortOf_eq hnb)
                rw [HSB.out] at hx20 hxk
                have hlb0 := (HP4.out n hnb).1
                obtain ⟨hlb2, xa, xc, hcell2, hxs2⟩ := (HP4.out.later HBN.out) n hnb
                have e := HP3.out (by intro e; rw [e] at hnb; simp at hnb)
                subst e
                have p2 := (HBN.out.cell (p := ⟨rb, ro + jj * 3 + 2, none⟩) HRB.out).trans HP2.out
                obtain ⟨X, hX⟩ : ∃ X, b.sorts[n] = X := ⟨_, rfl⟩
                rw [hX] at hcell2 hxs2 hxk hx20 HSB
                obtain ⟨V, hV⟩ : ∃ V, U'[n] = V := ⟨_, rfl⟩
                rw [hV] at hov5 vcell hkn hul hNn
                have HVV := Lib.hid hV
                have HNV := Lib.hid hNn
                have HTN := Lib.hid (HT2.out.later HBN.out)
                have hsz : ∀ z, z ∈ V → z.size ≤ maxLen := fun z hz => known_size HTN.out.at_.thy.cls (hkn z hz)
                obtain ⟨a5', c5', e5, hS5⟩ := sortAt_own hov5 hsz (by omega)
                cases e5
                have hb4 : Below wr.heap.size wr (wr.drew.alloc (.cells #[] 9)) := ((Below.refl wr.heap.size wr).drew).alloc (Nat.le_refl _) _
                have ho4 : (wr.drew.alloc (.cells #[] 9)).ownsRow wr.heap.size 9 1 (.slice (some ⟨wr.heap.size, 0, none⟩) 0 0) 0 [] := World.ownsRow_made wr.drew #[] 0 (Nat.le_refl _) (Nat.zero_le _) rfl
                obtain ⟨v6, w6, hr6, ho6, hg6⟩ := run_append_sort (xc := c5) 27 ho4 (hS5.later hb4) (by omega) hb4.size
                have hb6 : Below wr.heap.size wr w6 := hb4.grown hg6 hb4.size (fun q e => (ho4.lt q e).1)
                obtain ⟨v7, w7, hr7, ho7, hg7⟩ := run_append_sort (xc := xc) 27 ho6 (hxs2.later hb6) (by omega) hb6.size
                have hb7 : Below wr.heap.size wr w7 := hb6.grown hg7 hb6.size (fun q e => (ho6.lt q e).1)
                rw [List.nil_append, ← List.map_append, Nat.zero_add, ← List.length_append] at ho7
                have hk : ∀ c, c ∈ V ++ X → knownB cs c = true := fun c hc => by
                  rcases List.mem_append.1 hc with h | h
                  · exact hkn c h
                  · exact List.all_eq_true.1 hxk c h
                have hz : ∀ c, c ∈ V ++ X → c.size ≤ maxLen := fun c hc => known_size HTN.out.at_.thy.cls (hk c hc)
                have hl500 : (V ++ X).length ≤ 500 := by rw [List.length_append]; omega
                have hkX : ∀ c, c ∈ X → knownB cs c = true := fun c hc => List.all_eq_true.1 hxk c hc
                have HSN := Lib.hid (fun z => need_snoc HO.out HNV.out (fun c hc => need_known HAR.out HAL.out (i := n) (by rw [HKK.out, HKAR.out]; omega) c hc) hkX z)
                obtain ⟨xy, hxy⟩ : ∃ l, V ++ X = l := ⟨_, rfl⟩
                simp only [hxy] at ho7 hk hz hl500 HSN
                obtain ⟨a7, c7, rfl, hs7⟩ := sortAt_own ho7 hz (by omega)
                have HXY := Lib.hid hxy
                have HT7 := HTN.out.later hb7
                have HLE := Lib.hid (refLeast_any (nm := nm) (ta := some ⟨tb, to, none⟩) (ra := some ⟨rb, ro, none⟩) (oa := oa) (ya := ya) (qa := qa) (cc := cc) (tn := ts.length) (tc := tc) (rn := l.length) (rc := rc) (on := on) (oc := oc) (yn := yn) (yc := yc) (qn := qn) (qc := qc) (xc := c7) w7 HT7.at_.cla HT7.at_.thy.cls HCL.out HO.out hs7 hl500 hk)
                have HLN := Lib.hid (leastFrom_normal (belowB cs) xy)
                obtain ⟨L, hL⟩ : ∃ L, leastFrom (belowB cs) xy [] xy = L := ⟨_, rfl⟩
                rw [hL] at HLE HLN
                have HR6 := Lib.hid hr6
                have HR7 := Lib.hid hr7
                have HB7 := Lib.hid hb7
                have HCX := Lib.hid hcell2
                have HPN := Lib.hid p2
                have HVC := Lib.hid vcell
                have HNE1 := Lib.hid (show R ≠ ga by have := HGA2.out; omega)
                have HNE2 := Lib.hid (show R ≠ rb by have := HRB.out; have := hR1; omega)
                have HNE3 := Lib.hid (show R ≠ s2b by omega)
                have HLG := Lib.hid (show ga < wr.heap.size by have := HGA2.out; have := HBN.out.size; omega)
                have HLR := Lib.hid (show rb < wr.heap.size by have := HBN.out.size; have := HRB.out; omega)
                have HLS := Lib.hid hlb2
                obtain ⟨g0, g1, g2, g3, g4, g5, g6⟩ := HTN.out.at_.cells
                have i0 : wr.drew.cell? ⟨ga, 0, none⟩ = _ := g0
                have i1 : wr.drew.cell? ⟨ga, 1, none⟩ = _ := g1
                have i2 : wr.drew.cell? ⟨ga, 2, none⟩ = _ := g2
                have i3 : wr.drew.cell? ⟨ga, 3, none⟩ = _ := g3
                have i4 : wr.drew.cell? ⟨ga, 4, none⟩ = _ := g4
                have i5 : wr.drew.cell? ⟨ga, 5, none⟩ = _ := g5
                have i6 : wr.drew.cell? ⟨ga, 6, none⟩ = _ := g6
                have i7 : wr.drew.cell? ⟨rb, ro + jj * 3 + 2, none⟩ = _ := p2
                have i8 : wr.drew.cell? ⟨s2b, s2o + n, none⟩ = _ := hcell2
                obtain ⟨j0, j1, j2, j3, j4, j5, j6⟩ := (HTN.out.later hb4).at_.cells
                have j7 := (hb4.cell (p := ⟨rb, ro + jj * 3 + 2, none⟩) HLR.out).trans p2
                have j8 := (hb4.cell (p := ⟨s2b, s2o + n, none⟩) HLS.out).trans hcell2
                have j9 : (wr.alloc (.cells #[] 9)).cell? ⟨R, n, none⟩ = _ := (hb4.cell (p := ⟨R, n, none⟩) hR2).trans vcell
                obtain ⟨k0', k1, k2, k3, k4, k5, k6⟩ := (HTN.out.later hb6).at_.cells
                have k7 := (hb6.cell (p := ⟨rb, ro + jj * 3 + 2, none⟩) HLR.out).trans p2
                have k8 := (hb6.cell (p := ⟨s2b, s2o + n, none⟩) HLS.out).trans hcell2
                obtain ⟨l0, l1, l2, l3, l4, l5, l6⟩ := (HTN.out.later hb7).at_.cells
                have l7 := (hb7.cell (p := ⟨rb, ro + jj * 3 + 2, none⟩) HLR.out).trans p2
                have l8 := (hb7.cell (p := ⟨s2b, s2o + n, none⟩) HLS.out).trans hcell2
                clear hX hV hov5 hkn hul hNn hsz hS5 hb4 ho4 hr6 ho6 hg6 hb6 hr7 ho7 hg7 hb7 hk hz hl500 hkX hs7 HT7 hL hxy hxs2 hxk hx20 hln htl hlb0 hlb2 hcell2 p2 hR1 hR2 hbox hv5 g0 g1 g2 g3 g4 g5 g6
                go_wp2_with fail
                refine wp_region_noPanic ?_
                refine wp_region_held_drew (S := (fun W => W.cell? ⟨s2b, s2o + n, none⟩ = some (.slice xa X.length xc) ∧ W.cell? ⟨rb, ro + jj * 3 + 2, none⟩ = some (.slice (some ⟨s2b, s2o, none⟩) b.sorts.length s2c) ∧ W.cell? ⟨ga, 0, none⟩ = some (.string nm) ∧ W.cell? ⟨ga, 1, none⟩ = some (.slice ca cs.length cc) ∧ W.cell? ⟨ga, 2, none⟩ = some (.slice (some ⟨tb, to, none⟩) ts.length tc) ∧ W.cell? ⟨ga, 3, none⟩ = some (.slice (some ⟨rb, ro, none⟩) l.length rc) ∧ W.cell? ⟨ga, 4, none⟩ = some (.slice oa on oc) ∧ W.cell? ⟨ga, 5, none⟩ = some (.slice ya yn yc) ∧ W.cell? ⟨ga, 6, none⟩ = some (.slice qa qn qc))) (by kernel_rfl) (by refine ⟨?_, ?_, ?_, ?_, ?_, ?_, ?_, ?_, ?_⟩ <;> assumption) (fun hHeld => ?_)
                refine wpAnyH_take (i := 0) (oi := { dst := some 55, op := Op.move (Operand.tmp 9), type := 44, pos := "ref.go:217", after := #[], guard := none }) (v := ?vn2x) rfl (by kernel_rfl) (by kernel_rfl) (by kernel_rfl) (fun _ _ _ h => h) (Or.inl ⟨by rfl, ?hyn2x⟩) (by assumption) ?restn2x
                case hyn2x => (intro w hSw; (try dsimp only at hSw); go_simp; (try with_reducible rfl))
                case' restn2x => skip
                try simp only [Act.put, List.setIfInBounds_toArray, List.set_cons_zero, List.set_cons_succ]
                refine wpAnyH_take (i := 1) (oi := { dst := some 56, op := Op.move (Operand.tmp 13), type := 3, pos := "ref.go:217", after := #[], guard := none }) (v := ?vn3x) rfl (by kernel_rfl) (by kernel_rfl) (by kernel_rfl) (fun _ _ _ h => h) (Or.inl ⟨by rfl, ?hyn3x⟩) (by assumption) ?restn3x
                case hyn3x => (intro w hSw; (try dsimp only at hSw); go_simp; (try with_reducible rfl))
                case' restn3x => skip
                try simp only [Act.put, List.setIfInBounds_toArray, List.set_cons_zero, List.set_cons_succ]
                refine wpAnyH_take (i := 4) (oi := { dst := some 59, op := Op.move (Operand.tmp 9), type := 44, pos := "ref.go:217", after := #[], guard := none }) (v := ?vn4x) rfl (by kernel_rfl) (by kernel_rfl) (by kernel_rfl) (fun _ _ _ h => h) (Or.inl ⟨by rfl, ?hyn4x⟩) (by assumption) ?restn4x
                case hyn4x => (intro w hSw; (try dsimp only at hSw); go_simp; (try with_reducible rfl))
                case' restn4x => skip
                try simp only [Act.put, List.setIfInBounds_toArray, List.set_cons_zero, List.set_cons_succ]
                refine wpAnyH_take (i := 5) (oi := { dst := some 60, op := Op.move (Operand.tmp 13), type := 3, pos := "ref.go:217", after := #[], guard := none }) (v := ?vn5x) rfl (by kernel_rfl) (by kernel_rfl) (by kernel_rfl) (fun _ _ _ h => h) (Or.inl ⟨by rfl, ?hyn5x⟩) (by assumption) ?restn5x
                case hyn5x => (intro w hSw; (try dsimp only at hSw); go_simp; (try with_reducible rfl))
                case' restn5x => skip
                try simp only [Act.put, List.setIfInBounds_toArray, List.set_cons_zero, List.set_cons_succ]
                refine wpAnyH_take (i := 6) (oi := { dst := some 61, op := Op.indexAddr 44 (Operand.tmp 59) (Operand.tmp 60), type := 0, pos := "ref.go:217", after := #[{ on := 4, ground := Ground.data }, { on := 5, ground := Ground.data }], guard := none }) (v := ?vn6x) rfl (by kernel_rfl) (by kernel_rfl) (by kernel_rfl) (fun _ _ _ h => h) (Or.inl ⟨by rfl, ?hyn6x⟩) (by assumption) ?restn6x
                case hyn6x => (intro w hSw; (try dsimp only at hSw); go_simp; (try with_reducible rfl))
                case' restn6x => skip
                try simp only [Act.put, List.setIfInBounds_toArray, List.set_cons_zero, List.set_cons_succ]
                refine wpAnyH_take (i := 9) (oi := { dst := some 64, op := Op.fieldAddr 29 (Operand.tmp 3) 3, type := 0, pos := "ref.go:217", after := #[], guard := none }) (v := ?vn7x) rfl (by kernel_rfl) (by kernel_rfl) (by kernel_rfl) (fun _ _ _ h => h) (Or.inl ⟨by rfl, ?hyn7x⟩) (by assumption) ?restn7x
                case hyn7x => (intro w hSw; (try dsimp only at hSw); go_simp; (try with_reducible rfl))
                case' restn7x => skip
                try simp only [Act.put, List.setIfInBounds_toArray, List.set_cons_zero, List.set_cons_succ]
                refine wpAnyH_take (i := 11) (oi := { dst := some 66, op := Op.move (Operand.tmp 12), type := 3, pos := "ref.go:217", after := #[], guard := none }) (v := ?vn8x) rfl (by kernel_rfl) (by kernel_rfl) (by kernel_rfl) (fun _ _ _ h => h) (Or.inl ⟨by rfl, ?hyn8x⟩) (by assumption) ?restn8x
                case hyn8x => (intro w hSw; (try dsimp only at hSw); go_simp; (try with_reducible rfl))
                case' restn8x => skip
                try simp only [Act.put, List.setIfInBounds_toArray, List.set_cons_zero, List.set_cons_succ]
                refine wpAnyH_take (i := 15) (oi := { dst := some 70, op := Op.move (Operand.tmp 13), type := 3, pos := "ref.go:217", after := #[], guard := none }) (v := ?vn9x) rfl (by kernel_rfl) (by kernel_rfl) (by kernel_rfl) (fun _ _ _ h => h) (Or.inl ⟨by rfl, ?hyn9x⟩) (by assumption) ?restn9x
                case hyn9x => (intro w hSw; (try dsimp only at hSw); go_simp; (try with_reducible rfl))
                case' restn9x => skip
                try simp only [Act.put, List.setIfInBounds_toArray, List.set_cons_zero, List.set_cons_succ]
                refine wpAnyH_take (i := 2) (oi := { dst := some 57, op := Op.load 29 (Operand.tmp 3), type := 29, pos := "ref.go:217", after := #[], guard := none }) (v := ?vn10x) rfl (by kernel_rfl) (by kernel_rfl) (by kernel_rfl) (fun _ _ _ h => h) (Or.inl ⟨by rfl, ?hyn10x⟩) (by assumption) ?restn10x
                case hyn10x => (intro w hSw; (try dsimp only at hSw); go_simp; (try with_reducible rfl))
                case' restn10x => skip
                try simp only [Act.put, List.setIfInBounds_toArray, List.set_cons_zero, List.set_cons_succ]
                refine wpAnyH_take (i := 10) (oi := { dst := some 65, op := Op.load 24 (Operand.tmp 64), type := 24, pos := "ref.go:217", after := #[{ on := 9, ground := Ground.data }], guard := none }) (v := ?vn11x) rfl (by kernel_rfl) (by kernel_rfl) (by kernel_rfl) (fun _ _ _ h => h) (Or.inl ⟨by rfl, ?hyn11x⟩) (by assumption) ?restn11x
                case hyn11x => (intro w hSw; (try dsimp only at hSw); go_simp; (try with_reducible rfl))
                case' restn11x => skip
                try simp only [Act.put, List.setIfInBounds_toArray, List.set_cons_zero, List.set_cons_succ]
                refine wpAnyH_take (i := 12) (oi := { dst := some 67, op := Op.indexAddr 24 (Operand.tmp 65) (Operand.tmp 66), type := 0, pos := "ref.go:217", after := #[{ on := 10, ground := Ground.data }, { on := 11, ground := Ground.data }], guard := none }) (v := ?vn12x) rfl (by kernel_rfl) (by kernel_rfl) (by kernel_rfl) (fun _ _ _ h => h) (Or.inl ⟨by rfl, ?hyn12x⟩) (by assumption) ?restn12x
                case hyn12x => (intro w hSw; (try dsimp only at hSw); go_simp; (try with_reducible rfl))
                case' restn12x => skip
                try simp only [Act.put, List.setIfInBounds_toArray, List.set_cons_zero, List.set_cons_succ]
                refine wpAnyH_take (i := 13) (oi := { dst := some 68, op := Op.fieldAddr 62 (Operand.tmp 67) 2, type := 0, pos := "ref.go:217", after := #[{ on := 12, ground := Ground.data }], guard := none }) (v := ?vn13x) rfl (by kernel_rfl) (by kernel_rfl) (by kernel_rfl) (fun _ _ _ h => h) (Or.inl ⟨by rfl, ?hyn13x⟩) (by assumption) ?restn13x
                case hyn13x => (intro w hSw; (try dsimp only at hSw); go_simp; (try with_reducible rfl))
                case' restn13x => skip
                try simp only [Act.put, List.setIfInBounds_toArray, List.set_cons_zero, List.set_cons_succ]
                refine wpAnyH_take (i := 14) (oi := { dst := some 69, op := Op.load 44 (Operand.tmp 68), type := 44, pos := "ref.go:217", after := #[{ on := 13, ground := Ground.data }], guard := none }) (v := ?vn14x) rfl (by kernel_rfl) (by kernel_rfl) (by kernel_rfl) (fun _ _ _ h => h) (Or.inl ⟨by rfl, ?hyn14x⟩) (by assumption) ?restn14x
                case hyn14x => (intro w hSw; (try dsimp only at hSw); go_simp; (try with_reducible rfl))
                case' restn14x => skip
                try simp only [Act.put, List.setIfInBounds_toArray, List.set_cons_zero, List.set_cons_succ]
                refine wpAnyH_take (i := 16) (oi := { dst := some 71, op := Op.indexAddr 44 (Operand.tmp 69) (Operand.tmp 70), type := 0, pos := "ref.go:217", after := #[{ on := 14, ground := Ground.data }, { on := 15, ground := Ground.data }], guard := none }) (v := ?vn15x) rfl (by kernel_rfl) (by kernel_rfl) (by kernel_rfl) (fun _ _ _ h => h) (Or.inl ⟨by rfl, ?hyn15x⟩) (by assumption) ?restn15x
                case hyn15x => (intro w hSw; (try dsimp only at hSw); go_simp; (try with_reducible rfl))
                case' restn15x => skip
                try simp only [Act.put, List.setIfInBounds_toArray, List.set_cons_zero, List.set_cons_succ]
                refine wpAnyH_take (i := 17) (oi := { dst := some 72, op := Op.load 27 (Operand.tmp 71), type := 27, pos := "ref.go:217", after := #[{ on := 16, ground := Ground.data }], guard := none }) (v := ?vn16x) rfl (by kernel_rfl) (by kernel_rfl) (by kernel_rfl) (fun _ _ _ h => h) (Or.inl ⟨by rfl, ?hyn16x⟩) (by assumption) ?restn16x
                case hyn16x => (intro w hSw; (try dsimp only at hSw); go_simp; (try with_reducible rfl))
                case' restn16x => skip
                try simp only [Act.put, List.setIfInBounds_toArray, List.set_cons_zero, List.set_cons_succ]
                refine wpAnyH_ready (rs := [3, 7]) (by kernel_rfl) (by simp) ?_
                refine AllReadyH.cons (o := { dst := some 58, op := Op.buildSlice 27 0 #[], type := 27, pos := "ref.go:217", after := #[], guard := none }) rfl (fun K hK => ?_) (AllReadyH.cons (o := { dst := some 62, op := Op.load 27 (Operand.tmp 61), type := 27, pos := "ref.go:217", after := #[{ on := 6, ground := Ground.data }], guard := none }) rfl (fun K hK => ?_) AllReadyH.nil)
                · go_simp
                  refine hK.out _ _ ?_ (fun hHeld => ?_)
                  · refine ⟨?_, ?_, ?_, ?_, ?_, ?_, ?_, ?_, ?_⟩ <;> assumption
                  clear hK K
                  try simp only [Act.put, List.setIfInBounds_toArray, List.set_cons_zero, List.set_cons_succ]
                  refine wpAnyH_ready (rs := [7]) (by kernel_rfl) (by simp) ?_
                  refine AllReadyH.cons (o := { dst := some 62, op := Op.load 27 (Operand.tmp 61), type := 27, pos := "ref.go:217", after := #[{ on := 6, ground := Ground.data }], guard := none }) rfl (fun K hK => ?_) AllReadyH.nil
                  go_simp
                  refine hK.out _ _ ?_ (fun hHeld => ?_)
                  · refine ⟨?_, ?_, ?_, ?_, ?_, ?_, ?_, ?_, ?_⟩ <;> assumption
                  clear hK K
                  try simp only [Act.put, List.setIfInBounds_toArray, List.set_cons_zero, List.set_cons_succ]
                  refine wpAnyH_ready (rs := [8]) (by kernel_rfl) (by simp) ?_
                  refine AllReadyH.cons (o := { dst := some 63, op := Op.call { callee := Callee.builtin Builtin.append, args := #[Operand.tmp 58, Operand.tmp 62], argTypes := #[27, 27] }, type := 27, pos := "ref.go:217", after := #[{ on := 3, ground := Ground.data }, { on := 7, ground := Ground.data }], guard := none }) rfl (fun K hK => ?_) AllReadyH.nil
                  rw [if_pos (by rfl)]
                  refine Lib.wp_append_run _ _ _ _ _ rfl _ _ rfl rfl _ _ HR6.out ?_
                  refine hK.out _ _ ?_ (fun hHeld => ?_)
                  · refine ⟨?_, ?_, ?_, ?_, ?_, ?_, ?_, ?_, ?_⟩ <;> assumption
                  clear hK K
                  try simp only [Act.put, List.setIfInBounds_toArray, List.set_cons_zero, List.set_cons_succ]
                  refine wpAnyH_ready (rs := [18]) (by kernel_rfl) (by simp) ?_
                  refine AllReadyH.cons (o := { dst := some 73, op := Op.call { callee := Callee.builtin Builtin.append, args := #[Operand.tmp 63, Operand.tmp 72], argTypes := #[27, 27] }, type := 27, pos := "ref.go:217", after := #[{ on := 8, ground := Ground.data }, { on := 17, ground := Ground.data }, { on := 8, ground := Ground.chain }], guard := none }) rfl (fun K hK => ?_) AllReadyH.nil
                  rw [if_pos (by rfl)]
                  refine Lib.wp_append_run _ _ _ _ _ rfl _ _ rfl rfl _ _ HR7.out ?_
                  refine hK.out _ _ ?_ (fun hHeld => ?_)
                  · refine ⟨?_, ?_, ?_, ?_, ?_, ?_, ?_, ?_, ?_⟩ <;> assumption
                  clear hK K
                  try simp only [Act.put, List.setIfInBounds_toArray, List.set_cons_zero, List.set_cons_succ]
                  refine wpAnyH_ready (rs := [19]) (by kernel_rfl) (by simp) ?_
                  refine AllReadyH.cons (o := { dst := some 74, op := Op.call { callee := Callee.value (Operand.func 52), args := #[Operand.tmp 57, Operand.tmp 73], argTypes := #[29, 27] }, type := 27, pos := "ref.go:217", after := #[{ on := 2, ground := Ground.data }, { on := 18, ground := Ground.data }, { on := 18, ground := Ground.chain }], guard := none }) rfl (fun K hK => ?_) AllReadyH.nil
                  go_simp
                  go_at_call 52
                  refine HLE.out.mono ?_
                  rintro e w8 ⟨v8, rfl, ho8, hb8⟩
                  obtain ⟨a8, c8, rfl⟩ := own_slice ho8
                  have HO8 := Lib.hid ho8
                  have HB8 := Lib.hid (HB7.out.trans (hb8.mono HB7.out.size))
                  obtain ⟨m0, m1, m2, m3, m4, m5, m6⟩ := (HTN.out.later HB8.out).at_.cells
                  have m7 := (HB8.out.cell (p := ⟨rb, ro + jj * 3 + 2, none⟩) HLR.out).trans HPN.out
                  have m8 := (HB8.out.cell (p := ⟨s2b, s2o + n, none⟩) HLS.out).trans HCX.out
                  have m9 := (HB8.out.cell (p := ⟨R, n, none⟩) HR2.out).trans HVC.out
                  have mf : w8.frozen? ⟨R, n, none⟩ = false := Lib.frozen_of_heap ((HB8.out.block R HR2.out).trans HBOX.out) n
                  have s0 := (World.cell?_setCell_far w8 ⟨R, n, none⟩ ⟨ga, 0, none⟩ (.slice a8 L.length c8) HNE1.out).trans m0
                  have s1 := (World.cell?_setCell_far w8 ⟨R, n, none⟩ ⟨ga, 1, none⟩ (.slice a8 L.length c8) HNE1.out).trans m1
                  have s2 := (World.cell?_setCell_far w8 ⟨R, n, none⟩ ⟨ga, 2, none⟩ (.slice a8 L.length c8) HNE1.out).trans m2
                  have s3 := (World.cell?_setCell_far w8 ⟨R, n, none⟩ ⟨ga, 3, none⟩ (.slice a8 L.length c8) HNE1.out).trans m3
                  have s4 := (World.cell?_setCell_far w8 ⟨R, n, none⟩ ⟨ga, 4, none⟩ (.slice a8 L.length c8) HNE1.out).trans m4
                  have s5 := (World.cell?_setCell_far w8 ⟨R, n, none⟩ ⟨ga, 5, none⟩ (.slice a8 L.length c8) HNE1.out).trans m5
                  have s6 := (World.cell?_setCell_far w8 ⟨R, n, none⟩ ⟨ga, 6, none⟩ (.slice a8 L.length c8) HNE1.out).trans m6
                  have s7 := (World.cell?_setCell_far w8 ⟨R, n, none⟩ ⟨rb, ro + jj * 3 + 2, none⟩ (.slice a8 L.length c8) HNE2.out).trans m7
                  have s8 := (World.cell?_setCell_far w8 ⟨R, n, none⟩ ⟨s2b, s2o + n, none⟩ (.slice a8 L.length c8) HNE3.out).trans m8
                  clear ho8 hb8
                  refine hK.out _ _ ?_ (fun hHeld => ?_)
                  · refine ⟨?_, ?_, ?_, ?_, ?_, ?_, ?_, ?_, ?_⟩ <;> assumption
                  clear hK K
                  try simp only [Act.put, List.setIfInBounds_toArray, List.set_cons_zero, List.set_cons_succ]
                  refine wpAnyH_take (i := 20) (oi := { dst := some 75, op := Op.indexAddr 44 (Operand.tmp 55) (Operand.tmp 56), type := 0, pos := "ref.go:217", after := #[{ on := 0, ground := Ground.data }, { on := 1, ground := Ground.data }, { on := 0, ground := Ground.phase }, { on := 1, ground := Ground.phase }, { on := 2, ground := Ground.phase }, { on := 3, ground := Ground.phase }, { on := 4, ground := Ground.phase }, { on := 5, ground := Ground.phase }, { on := 6, ground := Ground.phase }, { on := 7, ground := Ground.phase }, { on := 8, ground := Ground.phase }, { on := 9, ground := Ground.phase }, { on := 10, ground := Ground.phase }, { on := 11, ground := Ground.phase }, { on := 12, ground := Ground.phase }, { on := 13, ground := Ground.phase }, { on := 14, ground := Ground.phase }, { on := 15, ground := Ground.phase }, { on := 16, ground := Ground.phase }, { on := 17, ground := Ground.phase }, { on := 18, ground := Ground.phase }, { on := 19, ground := Ground.phase }], guard := none }) (v := ?vn17x) rfl (by kernel_rfl) (by kernel_rfl) (by kernel_rfl) (fun _ _ _ h => h) (Or.inl ⟨by rfl, ?hyn17x⟩) (by assumption) ?restn17x
                  case hyn17x => (intro w hSw; (try dsimp only at hSw); go_simp; (try with_reducible rfl))
                  case' restn17x => skip
                  try simp only [Act.put, List.setIfInBounds_toArray, List.set_cons_zero, List.set_cons_succ]
                  refine wpAnyH_ready (rs := [21]) (by kernel_rfl) (by simp) ?_
                  refine AllReadyH.cons (o := { dst := none, op := Op.store 27 (Operand.tmp 75) (Operand.tmp 74), type := 0, pos := "ref.go:217", after := #[{ on := 20, ground := Ground.data }, { on := 19, ground := Ground.data }, { on := 19, ground := Ground.chain }, { on := 0, ground := Ground.phase }, { on := 1, ground := Ground.phase }, { on := 2, ground := Ground.phase }, { on := 3, ground := Ground.phase }, { on := 4, ground := Ground.phase }, { on := 5, ground := Ground.phase }, { on := 6, ground := Ground.phase }, { on := 7, ground := Ground.phase }, { on := 8, ground := Ground.phase }, { on := 9, ground := Ground.phase }, { on := 10, ground := Ground.phase }, { on := 11, ground := Ground.phase }, { on := 12, ground := Ground.phase }, { on := 13, ground := Ground.phase }, { on := 14, ground := Ground.phase }, { on := 15, ground := Ground.phase }, { on := 16, ground := Ground.phase }, { on := 17, ground := Ground.phase }, { on := 18, ground := Ground.phase }, { on := 19, ground := Ground.phase }], guard := none }) rfl (fun K hK => ?_) AllReadyH.nil
                  go_simp
                  refine hK.out _ _ ?_ (fun hHeld => ?_)
                  · refine ⟨?_, ?_, ?_, ?_, ?_, ?_, ?_, ?_, ?_⟩ <;> assumption
                  clear hK K
                  try simp only [Act.put, List.setIfInBounds_toArray, List.set_cons_zero, List.set_cons_succ]
                  refine wpAnyH_done (by kernel_rfl) ?_ _
                  refine NoPanic.normal ?_
                  have hO8 := own_later HON.out HB8.out
                  have hbx8 := (HB8.out.block R HR2.out).trans HBOX.out
                  have hC8 := cloned_set (n := n) ((HCM.out.keep (KeepT.below 0 HB8.out) (by decide)).keep (KeepT.store hbx8 (.slice a8 L.length c8) (o := n)) (by decide)) (by have := HON.out.1; have := HUN.out; omega) (B := w7.heap.size) (v := .slice a8 L.length c8) (new := L) ((KeepT.store hbx8 (.slice a8 L.length c8) (o := n)).own (by decide) HO8.out)
                  have HC8 := Lib.hid hC8
                  have HO9 := Lib.hid (hO8.stored n (.slice a8 L.length c8)).1
                  have HB9 := Lib.hid ((HBN.out.trans (HB8.out.mono HBN.out.size)).setCell (p := ⟨R, n, none⟩) HR1.out (.slice a8 L.length c8))
                  clear hO8 hbx8 hC8 i0 i1 i2 i3 i4 i5 i6 i7 i8 j0 j1 j2 j3 j4 j5 j6 j7 j8 j9 k0' k1 k2 k3 k4 k5 k6 k7 k8 l0 l1 l2 l3 l4 l5 l6 l7 l8 m0 m1 m2 m3 m4 m5 m6 m7 m8 m9 mf s0 s1 s2 s3 s4 s5 s6 s7 s8 vcell
                  go_wp2_with fail
                  refine ⟨⟨n + 1, _, _, by simp only [Int.natCast_add, Int.natCast_one], by omega, HO9.out, by rw [List.length_set]; exact HUN.out, HC8.out, fun q hq => ?_, HB9.out⟩, ?_⟩
                  · have hq' : q < U'.length := by simpa using hq
                    by_cases e : q = n
                    · subst e
                      rw [List.getElem_set_self]
                      refine ⟨fun _ => ?_, fun h => absurd (Nat.lt_succ_self q) h⟩
                      rw [HSB.out]
                      refine ⟨HLN.out.asc, fun z => (HLN.out.mem z).trans (HSN.out z).symm, ?_⟩
                      have h1 := HLN.out.len
                      have h2 := HNV.out.len
                      have h3 : xy.length = V.length + X.length := by rw [← HXY.out, List.length_append]
                      rw [List.length_append]
                      omega
                    · rw [List.getElem_set_ne (Ne.symm e)]
                      exact ⟨fun h => (HNN.out q hq').1 (by omega), fun h => (HNN.out q hq').2 (by omega)⟩
                  · show k0 - ((n : Int) + 1).toNat < k0 - ((n : Nat) : Int).toNat
                    omega
                · go_simp
                  refine hK.out _ _ ?_ (fun hHeld => ?_)
                  · refine ⟨?_, ?_, ?_, ?_, ?_, ?_, ?_, ?_, ?_⟩ <;> assumption
                  clear hK K
                  try simp only [Act.put, List.setIfInBounds_toArray, List.set_cons_zero, List.set_cons_succ]
                  refine wpAnyH_ready (rs := [3]) (by kernel_rfl) (by simp) ?_
                  refine AllReadyH.cons (o := { dst := some 58, op := Op.buildSlice 27 0 #[], type := 27, pos := "ref.go:217", after := #[], guard := none }) rfl (fun K hK => ?_) AllReadyH.nil
                  go_simp
                  refine hK.out _ _ ?_ (fun hHeld => ?_)
                  · refine ⟨?_, ?_, ?_, ?_, ?_, ?_, ?_, ?_, ?_⟩ <;> assumption
                  clear hK K
                  try simp only [Act.put, List.setIfInBounds_toArray, List.set_cons_zero, List.set_cons_succ]
                  refine wpAnyH_ready (rs := [8]) (by kernel_rfl) (by simp) ?_
                  refine AllReadyH.cons (o := { dst := some 63, op := Op.call { callee := Callee.builtin Builtin.append, args := #[Operand.tmp 58, Operand.tmp 62], argTypes := #[27, 27] }, type := 27, pos := "ref.go:217", after := #[{ on := 3, ground := Ground.data }, { on := 7, ground := Ground.data }], guard := none }) rfl (fun K hK => ?_) AllReadyH.nil
                  rw [if_pos (by rfl)]
                  refine Lib.wp_append_run _ _ _ _ _ rfl _ _ rfl rfl _ _ HR6.out ?_
                  refine hK.out _ _ ?_ (fun hHeld => ?_)
                  · refine ⟨?_, ?_, ?_, ?_, ?_, ?_, ?_, ?_, ?_⟩ <;> assumption
                  clear hK K
                  try simp only [Act.put, List.setIfInBounds_toArray, List.set_cons_zero, List.set_cons_succ]
                  refine wpAnyH_ready (rs := [18]) (by kernel_rfl) (by simp) ?_
                  refine AllReadyH.cons (o := { dst := some 73, op := Op.call { callee := Callee.builtin Builtin.append, args := #[Operand.tmp 63, Operand.tmp 72], argTypes := #[27, 27] }, type := 27, pos := "ref.go:217", after := #[{ on := 8, ground := Ground.data }, { on := 17, ground := Ground.data }, { on := 8, ground := Ground.chain }], guard := none }) rfl (fun K hK => ?_) AllReadyH.nil
                  rw [if_pos (by rfl)]
                  refine Lib.wp_append_run _ _ _ _ _ rfl _ _ rfl rfl _ _ HR7.out ?_
                  refine hK.out _ _ ?_ (fun hHeld => ?_)
                  · refine ⟨?_, ?_, ?_, ?_, ?_, ?_, ?_, ?_, ?_⟩ <;> assumption
                  clear hK K
                  try simp only [Act.put, List.setIfInBounds_toArray, List.set_cons_zero, List.set_cons_succ]
                  refine wpAnyH_ready (rs := [19]) (by kernel_rfl) (by simp) ?_
                  refine AllReadyH.cons (o := { dst := some 74, op := Op.call { callee := Callee.value (Operand.func 52), args := #[Operand.tmp 57, Operand.tmp 73], argTypes := #[29, 27] }, type := 27, pos := "ref.go:217", after := #[{ on := 2, ground := Ground.data }, { on := 18, ground := Ground.data }, { on := 18, ground := Ground.chain }], guard := none }) rfl (fun K hK => ?_) AllReadyH.nil
                  go_simp
                  go_at_call 52
                  refine HLE.out.mono ?_
                  rintro e w8 ⟨v8, rfl, ho8, hb8⟩
                  obtain ⟨a8, c8, rfl⟩ := own_slice ho8
                  have HO8 := Lib.hid ho8
                  have HB8 := Lib.hid (HB7.out.trans (hb8.mono HB7.out.size))
                  obtain ⟨m0, m1, m2, m3, m4, m5, m6⟩ := (HTN.out.later HB8.out).at_.cells
                  have m7 := (HB8.out.cell (p := ⟨rb, ro + jj * 3 + 2, none⟩) HLR.out).trans HPN.out
                  have m8 := (HB8.out.cell (p := ⟨s2b, s2o + n, none⟩) HLS.out).trans HCX.out
                  have m9 := (HB8.out.cell (p := ⟨R, n, none⟩) HR2.out).trans HVC.out
                  have mf : w8.frozen? ⟨R, n, none⟩ = false := Lib.frozen_of_heap ((HB8.out.block R HR2.out).trans HBOX.out) n
                  have s0 := (World.cell?_setCell_far w8 ⟨R, n, none⟩ ⟨ga, 0, none⟩ (.slice a8 L.length c8) HNE1.out).trans m0
                  have s1 := (World.cell?_setCell_far w8 ⟨R, n, none⟩ ⟨ga, 1, none⟩ (.slice a8 L.length c8) HNE1.out).trans m1
                  have s2 := (World.cell?_setCell_far w8 ⟨R, n, none⟩ ⟨ga, 2, none⟩ (.slice a8 L.length c8) HNE1.out).trans m2
                  have s3 := (World.cell?_setCell_far w8 ⟨R, n, none⟩ ⟨ga, 3, none⟩ (.slice a8 L.length c8) HNE1.out).trans m3
                  have s4 := (World.cell?_setCell_far w8 ⟨R, n, none⟩ ⟨ga, 4, none⟩ (.slice a8 L.length c8) HNE1.out).trans m4
                  have s5 := (World.cell?_setCell_far w8 ⟨R, n, none⟩ ⟨ga, 5, none⟩ (.slice a8 L.length c8) HNE1.out).trans m5
                  have s6 := (World.cell?_setCell_far w8 ⟨R, n, none⟩ ⟨ga, 6, none⟩ (.slice a8 L.length c8) HNE1.out).trans m6
                  have s7 := (World.cell?_setCell_far w8 ⟨R, n, none⟩ ⟨rb, ro + jj * 3 + 2, none⟩ (.slice a8 L.length c8) HNE2.out).trans m7
                  have s8 := (World.cell?_setCell_far w8 ⟨R, n, none⟩ ⟨s2b, s2o + n, none⟩ (.slice a8 L.length c8) HNE3.out).trans m8
                  clear ho8 hb8
                  refine hK.out _ _ ?_ (fun hHeld => ?_)
                  · refine ⟨?_, ?_, ?_, ?_, ?_, ?_, ?_, ?_, ?_⟩ <;> assumption
                  clear hK K
                  try simp only [Act.put, List.setIfInBounds_toArray, List.set_cons_zero, List.set_cons_succ]
                  refine wpAnyH_take (i := 20) (oi := { dst := some 75, op := Op.indexAddr 44 (Operand.tmp 55) (Operand.tmp 56), type := 0, pos := "ref.go:217", after := #[{ on := 0, ground := Ground.data }, { on := 1, ground := Ground.data }, { on := 0, ground := Ground.phase }, { on := 1, ground := Ground.phase }, { on := 2, ground := Ground.phase }, { on := 3, ground := Ground.phase }, { on := 4, ground := Ground.phase }, { on := 5, ground := Ground.phase }, { on := 6, ground := Ground.phase }, { on := 7, ground := Ground.phase }, { on := 8, ground := Ground.phase }, { on := 9, ground := Ground.phase }, { on := 10, ground := Ground.phase }, { on := 11, ground := Ground.phase }, { on := 12, ground := Ground.phase }, { on := 13, ground := Ground.phase }, { on := 14, ground := Ground.phase }, { on := 15, ground := Ground.phase }, { on := 16, ground := Ground.phase }, { on := 17, ground := Ground.phase }, { on := 18, ground := Ground.phase }, { on := 19, ground := Ground.phase }], guard := none }) (v := ?vn18x) rfl (by kernel_rfl) (by kernel_rfl) (by kernel_rfl) (fun _ _ _ h => h) (Or.inl ⟨by rfl, ?hyn18x⟩) (by assumption) ?restn18x
                  case hyn18x => (intro w hSw; (try dsimp only at hSw); go_simp; (try with_reducible rfl))
                  case' restn18x => skip
                  try simp only [Act.put, List.setIfInBounds_toArray, List.set_cons_zero, List.set_cons_succ]
                  refine wpAnyH_ready (rs := [21]) (by kernel_rfl) (by simp) ?_
                  refine AllReadyH.cons (o := { dst := none, op := Op.store 27 (Operand.tmp 75) (Operand.tmp 74), type := 0, pos := "ref.go:217", after := #[{ on := 20, ground := Ground.data }, { on := 19, ground := Ground.data }, { on := 19, ground := Ground.chain }, { on := 0, ground := Ground.phase }, { on := 1, ground := Ground.phase }, { on := 2, ground := Ground.phase }, { on := 3, ground := Ground.phase }, { on := 4, ground := Ground.phase }, { on := 5, ground := Ground.phase }, { on := 6, ground := Ground.phase }, { on := 7, ground := Ground.phase }, { on := 8, ground := Ground.phase }, { on := 9, ground := Ground.phase }, { on := 10, ground := Ground.phase }, { on := 11, ground := Ground.phase }, { on := 12, ground := Ground.phase }, { on := 13, ground := Ground.phase }, { on := 14, ground := Ground.phase }, { on := 15, ground := Ground.phase }, { on := 16, ground := Ground.phase }, { on := 17, ground := Ground.phase }, { on := 18, ground := Ground.phase }, { on := 19, ground := Ground.phase }], guard := none }) rfl (fun K hK => ?_) AllReadyH.nil
                  go_simp
                  refine hK.out _ _ ?_ (fun hHeld => ?_)
                  · refine ⟨?_, ?_, ?_, ?_, ?_, ?_, ?_, ?_, ?_⟩ <;> assumption
                  clear hK K
                  try simp only [Act.put, List.setIfInBounds_toArray, List.set_cons_zero, List.set_cons_succ]
                  refine wpAnyH_done (by kernel_rfl) ?_ _
                  refine NoPanic.normal ?_
                  have hO8 := own_later HON.out HB8.out
                  have hbx8 := (HB8.out.block R HR2.out).trans HBOX.out
                  have hC8 := cloned_set (n := n) ((HCM.out.keep (KeepT.below 0 HB8.out) (by decide)).keep (KeepT.store hbx8 (.slice a8 L.length c8) (o := n)) (by decide)) (by have := HON.out.1; have := HUN.out; omega) (B := w7.heap.size) (v := .slice a8 L.length c8) (new := L) ((KeepT.store hbx8 (.slice a8 L.length c8) (o := n)).own (by decide) HO8.out)
                  have HC8 := Lib.hid hC8
                  have HO9 := Lib.hid (hO8.stored n (.slice a8 L.length c8)).1
                  have HB9 := Lib.hid ((HBN.out.trans (HB8.out.mono HBN.out.size)).setCell (p := ⟨R, n, none⟩) HR1.out (.slice a8 L.length c8))
                  clear hO8 hbx8 hC8 i0 i1 i2 i3 i4 i5 i6 i7 i8 j0 j1 j2 j3 j4 j5 j6 j7 j8 j9 k0' k1 k2 k3 k4 k5 k6 k7 k8 l0 l1 l2 l3 l4 l5 l6 l7 l8 m0 m1 m2 m3 m4 m5 m6 m7 m8 m9 mf s0 s1 s2 s3 s4 s5 s6 s7 s8 vcell
                  go_wp2_with fail
                  refine ⟨⟨n + 1, _, _, by simp only [Int.natCast_add, Int.natCast_one], by omega, HO9.out, by rw [List.length_set]; exact HUN.out, HC8.out, fun q hq => ?_, HB9.out⟩, ?_⟩
                  · have hq' : q < U'.length := by simpa using hq
                    by_cases e : q = n
                    · subst e
                      rw [List.getElem_set_self]
                      refine ⟨fun _ => ?_, fun h => absurd (Nat.lt_succ_self q) h⟩
                      rw [HSB.out]
                      refine ⟨HLN.out.asc, fun z => (HLN.out.mem z).trans (HSN.out z).symm, ?_⟩
                      have h1 := HLN.out.len
                      have h2 := HNV.out.len
                      have h3 : xy.length = V.length + X.length := by rw [← HXY.out, List.length_append]
                      rw [List.length_append]
                      omega
                    · rw [List.getElem_set_ne (Ne.symm e)]
                      exact ⟨fun h => (HNN.out q hq').1 (by omega), fun h => (HNN.out q hq').2 (by omega)⟩
                  · show k0 - ((n : Int) + 1).toNat < k0 - ((n : Nat) : Int).toNat
                    omega
              · go_wp2_with fail
                have hnk' : n = k0 := by omega
                refine ⟨⟨i + 1, U', vals', by simp only [Int.natCast_add, Int.natCast_one], by omega, HON.out, HUN.out, HCM.out, fun q hq => ?_, fun c' hc' => ?_, HBN.out⟩, ?_⟩
                · have := (HNN.out q hq).1 (by rw [HUN.out] at hq; omega)
                  rw [← HTK.out, needU_snoc, HAO.out]
                  exact this
                · rw [← HTK.out] at hc'
                  rcases List.mem_append.1 hc' with h | h
                  · exact HAL.out c' h
                  · rw [List.mem_singleton.1 h]; exact HIN.out
                · show s.length - ((i : Int) + 1).toNat < s.length - ((i : Nat) : Int).toNat
                  omega
        · have hie : i = s.length := by omega
          subst hie
          have HALL := Lib.hid (show ∀ c, c ∈ s → (name, c) ∈ l.map pairOf from fun c hc => HAL.out c (by rw [List.take_length]; exact hc))
          have HFIN := Lib.hid (show ∀ q (h : q < U.length), IsNormalOf ltS (belowB cs) (needU l name s q) U[q] from fun q h => by have := HNE.out q h; rwa [List.take_length] at this)
          have hkn : ∀ x, x ∈ U → ∀ z, z ∈ x → knownB cs z = true := fun x hx z hz => by
            obtain ⟨q, hq, rfl⟩ := List.getElem_of_mem hx
            exact need_known HAR.out HALL.out (i := q) (by rw [HKK.out, HKAR.out]; have := HUL.out; omega) z (((HFIN.out q hq).mem z).1 hz).1
          have HSV := Lib.hid (cloned_sorts (by rw [HUL.out]; exact HOW.out) HCN.out (fun x hx z hz => known_size HTR.out.at_.thy.cls (hkn x hx z hz)) (fun x hx => by
            obtain ⟨q, hq, rfl⟩ := List.getElem_of_mem hx
            have := need_len HAR.out HALL.out (i := q) (by rw [HKK.out, HKAR.out]; have := HUL.out; omega)
            have := (HFIN.out q hq).len
            omega))
          clear hkn
          go_wp2_with fail
          go_ret2
          exact ⟨HBW2.out.trans (HBR.out.mono HBW2.out.size), .inr ⟨HTY.out, HALL.out, U, _, rfl, HSV.out, by rw [HKK.out, HKAR.out, HUL.out], HFIN.out⟩⟩
end Go.Proofs.Ytlaibimdkamcfaa
