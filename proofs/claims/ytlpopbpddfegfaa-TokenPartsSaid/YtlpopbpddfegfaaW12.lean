/-
  TokenParts: the statement's walk, whole.
-/
import Derived.Test.YtlpopbpddfegfaaW11
namespace Go.Proofs.Ytlpopbpddfegfaa
open Go.RowKit Go.Shelf

set_option maxRecDepth 100000 in
set_option maxHeartbeats 16000000 in
theorem parts_ok (l : List ByteArray) (v : Value) (a b : ByteArray) (w : World) (hv : HasStrs w v l) (hk : kwCode [] l = 0) {xs ys : List Tk} (ha : tokR l a = (xs, none)) (hb : tokR l b = (ys, none)) :
    Calls Try.prog 4 #[v, .string a, .string b] w fun e w' => e = .returned (.bool true) ∧ Below w.heap.size w w' := by
  have HF := Lib.hid (show Calls Try.prog 10 #[.int .i64 400, v, .string a] w _ from few_any l v a 400 (by decide) w hv)
  have HV := Lib.hid hv
  have HK := Lib.hid hk
  have HA := Lib.hid ha
  have HBR := Lib.hid hb
  have HXL := Lib.hid (show xs.length ≤ a.size + 1 by have := scan_len (inK l) a (a.size + 1) 0; rwa [show scanF (inK l) a (a.size + 1) 0 = (xs, none) from ha] at this)
  have HYL := Lib.hid (show ys.length ≤ b.size + 1 by have := scan_len (inK l) b (b.size + 1) 0; rwa [show scanF (inK l) b (b.size + 1) 0 = (ys, none) from hb] at this)
  have HPL := Lib.hid (show ∀ x ∈ ys, x.2.2 ≤ b.size by have := scan_place (inK l) b (b.size + 1) 0 (Nat.zero_le _); rwa [show scanF (inK l) b (b.size + 1) 0 = (ys, none) from hb] at this)
  have hs : tokR l (a ++ ⟨#[10]⟩ ++ b) = (xs ++ ys.map (shT (a.size + 1)), none) := by
    unfold tokR
    rw [scan_glue (glue_of a b) _ ha, show scanR (inK l) b = (ys, none) from hb]
    rfl
  have HS := Lib.hid hs
  have HW := Lib.hid awake_any
  clear hv hk ha hb hs
  go_enter Try.func4, Try.ntmps4
  go_wp2_with fail
  (with_reducible refine HF.out.mono ?_)
  rintro e w' ⟨⟨x, rfl, hx⟩, rfl⟩
  have HX := Lib.hid hx
  clear hx
  cases x with
  | false =>
    go_wp2_with fail
    (with_reducible refine (HW.out _).mono ?_)
    rintro e w1 ⟨rfl, hb⟩
    have HB := Lib.hid hb
    clear hb
    go_wp2_with fail
    go_ret
    exact ⟨rfl, HB.out⟩
  | true =>
    cases hd : decide ((400 : Int) < b.size) with
    | true =>
      go_wp2_with fail
      (with_reducible refine (HW.out _).mono ?_)
      rintro e w1 ⟨rfl, hb⟩
      have HB := Lib.hid hb
      clear hb
      go_wp2_with fail
      go_ret
      exact ⟨rfl, HB.out⟩
    | false =>
      obtain ⟨n1, n2⟩ := HX.out rfl
      have n3 : b.size ≤ 400 := by simp at hd; omega
      have hxl := HXL.out
      have hyl := HYL.out
      have HS1 := Lib.hid (scan_good l v a w HV.out (by omega) (by omega) HK.out HA.out)
      go_wp2_with fail
      (with_reducible refine HS1.out.mono ?_)
      rintro e w1 ⟨⟨u1, rfl, hr1⟩, hb⟩
      have HB := Lib.hid hb
      have HR1 := Lib.hid hr1
      have HS2 := Lib.hid (scan_good l v b w1 (HV.out.later hb) (by omega) (by omega) HK.out HBR.out)
      clear hb hr1
      go_wp2_with fail
      (with_reducible refine HS2.out.mono ?_)
      rintro e w2 ⟨⟨u2, rfl, hr2⟩, hb2⟩
      have HB2 := Lib.hid (HB.out.trans (hb2.mono HB.out.size))
      have HR1b := Lib.hid (TkRow.later HR1.out hb2 (Nat.le_refl _))
      have HR2 := Lib.hid hr2
      have HZ12 := Lib.hid hb2.size
      have HS3 := Lib.hid (scan_good l v (a ++ ⟨#[10]⟩ ++ b) w2 (HV.out.later HB2.out) (by omega) (by rw [glue_size]; omega) HK.out HS.out)
      obtain ⟨a2, c2, rfl, hform⟩ : ∃ a2 c2, u2 = .slice a2 ys.length c2 ∧ ((a2 = none ∧ c2 = 0 ∧ ys = []) ∨ ∃ g, a2 = some ⟨g, 0, none⟩) := by
        rcases TkRow.form hr2 with ⟨rfl, rfl⟩ | ⟨g, cap, rfl, _, _⟩
        · exact ⟨none, 0, rfl, .inl ⟨rfl, rfl, rfl⟩⟩
        · exact ⟨_, _, rfl, .inr ⟨g, rfl⟩⟩
      have HFM := Lib.hid hform
      clear hb2 hr2 hform
      go_wp2_with fail
      (with_reducible refine HS3.out.mono ?_)
      rintro e w3 ⟨⟨u3, rfl, hr3⟩, hb3⟩
      have HB3 := Lib.hid (HB2.out.trans (hb3.mono HB2.out.size))
      have HQ := Lib.hid (show Rows3 w w1.heap.size w2.heap.size w3.heap.size u1 (.slice a2 ys.length c2) u3 xs ys (xs ++ ys.map (shT (a.size + 1))) (a.size + 1) 0 w3 from
        ⟨TkRow.later HR1b.out hb3 (Nat.le_refl _), TkRow.later HR2.out hb3 (Nat.le_refl _), hr3, fun k hk => (HR1.out.lt k hk).2, fun k hk => (HR2.out.lt k hk).2, HB3.out, HB.out.size⟩)
      clear hb3 hr3
      go_wp2_with fail
      go_loopw [70] (fun t wr => ∃ i : Nat, t = .int .i64 i ∧ i ≤ ys.length ∧ Rows3 w w1.heap.size w2.heap.size w3.heap.size u1 (.slice a2 ys.length c2) u3 xs ys (xs ++ ys.map (shT (a.size + 1))) (a.size + 1) i wr) (fun t _ => ys.length - (intOf t).toNat)
      case atStart => exact ⟨0, rfl, Nat.zero_le _, HQ.out⟩
      case round =>
        obtain ⟨i, rfl, hi, hq⟩ := hrel
        have HQ2 := Lib.hid hq
        clear hq
        by_cases hlt : i < ys.length
        · obtain ⟨g, rfl⟩ := HFM.out.resolve_left fun h => by rw [h.2.2] at hlt; simp at hlt
          have hc := (HQ2.out.r2.cellAt (i * 3 + 2) (by omega)).trans (mvd_cell _ _ i hlt)
          have hfz := HQ2.out.r2.frozenAt (i * 3 + 2)
          have hpl := HPL.out _ (List.getElem_mem hlt)
          have HNX := Lib.hid (HQ2.out.next hlt)
          obtain ⟨p, hp⟩ : ∃ p, ys[i].2.2 = p := ⟨_, rfl⟩
          rw [hp] at hc hpl HNX
          rw [show (((a.size + 1 + p : Nat)) : Int) = (p : Int) + ((a.size : Int) + 1) by omega] at HNX
          clear hp
          go_wp2_with fail
          go_round
          case rel => exact ⟨i + 1, by go_num, by omega, HNX.out⟩
          case measure => simp [intOf]; omega
        · obtain rfl : i = ys.length := by omega
          have HR2E := Lib.hid (show TkRow wr w1.heap.size (.slice a2 ys.length c2) (ys.map (shT (a.size + 1))) by have := HQ2.out.r2; rw [mvd_all] at this; unfold TkRow; rwa [List.length_map])
          have HCL := Lib.hid (clone_any xs u1 w.heap.size wr HQ2.out.r1 (by omega))
          have HR3E := Lib.hid HQ2.out.r3
          have HBE := Lib.hid HQ2.out.below
          have HZE := Lib.hid (show ∀ k, u3.ownBlock = some k → k < wr.heap.size from fun k hk => (HQ2.out.r3.lt k hk).2)
          clear HQ HQ2 HS1 HS2 HS3 HR1 HR1b HR2 HF HV HK HA HBR HS HPL HX HB HB2 HB3 HZ12
          go_wp2_with fail
          (with_reducible refine HCL.out.mono ?_)
          rintro e w5 ⟨v5, rfl, hr5, hb5⟩
          have HR5 := Lib.hid hr5
          have HR3F := Lib.hid (TkRow.later HR3E.out hb5 (Nat.le_refl _))
          have HR2F := Lib.hid (TkRow.later HR2E.out hb5 (Nat.le_refl _))
          have HB5 := Lib.hid (HBE.out.trans (hb5.mono HBE.out.size))
          have HZ5 := Lib.hid hb5.size
          have HZ6 := Lib.hid HBE.out.size
          obtain ⟨i0, hi0, hz0, hz1, hz2⟩ := info_parts infoTok
          clear hr5 hb5 HCL
          rcases HFM.out with ⟨rfl, rfl, rfl⟩ | ⟨g, rfl⟩
          · have HE := Lib.hid (equal_any xs u3 v5 w2.heap.size wr.heap.size w5 (by have := HR3F.out; rwa [List.map_nil, List.append_nil] at this) HR5.out (by omega))
            go_wp2_with (at_builtin; refine wpList_append_own_none rfl _ _ 27 rfl wr.heap.size 32 i0 3 Try.underlying27 hi0 v5 xs.length (tkCells xs) rfl HR5.out rfl ?_)
            go_wp2_with fail
            (with_reducible refine HE.out.mono ?_)
            rintro e w6 ⟨rfl, hb6⟩
            have HB6 := Lib.hid (HB5.out.trans (hb6.mono HB5.out.size))
            clear hb6
            go_wp2_with fail
            (with_reducible refine (HW.out _).mono ?_)
            rintro e w7 ⟨rfl, hb7⟩
            have HB7 := Lib.hid (HB6.out.trans (hb7.mono HB6.out.size))
            clear hb7
            go_wp2_with fail
            go_ret
            exact ⟨rfl, HB7.out⟩
          · have HYM := Lib.hid (show (tkCells (ys.map (shT (a.size + 1)))).length = ys.length * 3 by rw [tkCells_len, List.length_map])
            go_wp2_with (at_builtin; refine wpList_append_own _ rfl _ _ 27 rfl wr.heap.size 32 i0 (tokV 0 ⟨#[]⟩ 0) 3 32 Try.underlying27 hi0 hz0 hz1 hz2 rfl (by decide) v5 xs.length (tkCells xs) rfl HR5.out ⟨g, 0, none⟩ ys.length c2 (tkCells (ys.map (shT (a.size + 1)))) rfl HYM.out ?qc2 ?qc3 ?qc4 ?qc5 HZ5.out ?_)
            case qc2 =>
              intro j u hj
              have hjl := (List.getElem?_eq_some_iff.1 hj).1
              rw [HYM.out] at hjl
              rw [Addr.add_lit, Nat.zero_add]
              have hR := HR2F.out
              unfold TkRow at hR
              rw [List.length_map] at hR
              rw [hR.cellAt j hjl]
              exact hj
            case qc3 => exact tk_one _
            case qc4 => unfold maxLen; omega
            case qc5 => omega
            intro v6 w6 hown hgrow hnil
            have hr6 : TkRow w6 wr.heap.size v6 (xs ++ ys.map (shT (a.size + 1))) := by
              unfold TkRow
              rw [List.length_append, List.length_map, show tkCells (xs ++ ys.map (shT (a.size + 1))) = tkCells xs ++ tkCells (ys.map (shT (a.size + 1))) from List.flatMap_append]
              exact hown
            have hr3 : TkRow w6 w2.heap.size u3 (xs ++ ys.map (shT (a.size + 1))) := HR3F.out.kept hgrow (by
              cases h3 : u3.ownBlock with
              | none => exact .inl rfl
              | some k =>
                refine .inr fun e => ?_
                have k1 := HZE.out k h3
                have k2 := (HR5.out.lt k e.symm).1
                omega)
            have HB6 := Lib.hid (HB5.out.grown hgrow (by have := HZ5.out; have := HZ6.out; omega) (fun k hk => by have := (HR5.out.lt k hk).1; have := HZ6.out; omega))
            have HE := Lib.hid (equal_any _ u3 v6 w2.heap.size wr.heap.size w6 hr3 hr6 (by rw [List.length_append, List.length_map]; omega))
            clear hown hgrow hnil hr6 hr3
            go_wp2_with fail
            (with_reducible refine HE.out.mono ?_)
            rintro e w7 ⟨rfl, hb7⟩
            have HB7 := Lib.hid (HB6.out.trans (hb7.mono HB6.out.size))
            clear hb7
            go_wp2_with fail
            (with_reducible refine (HW.out _).mono ?_)
            rintro e w8 ⟨rfl, hb8⟩
            have HB8 := Lib.hid (HB7.out.trans (hb8.mono HB7.out.size))
            clear hb8
            go_wp2_with fail
            go_ret
            exact ⟨rfl, HB8.out⟩

/-- Whatever the keywords and the texts. -/
theorem tokenParts_walk (l : List ByteArray) (v : Value) (a b : ByteArray) (w : World) (hv : HasStrs w v l) :
    Calls Try.prog 4 #[v, .string a, .string b] w fun e w' => e = .returned (.bool true) ∧ Below w.heap.size w w' := by
  by_cases hk : kwCode [] l = 0
  · cases ha : tokR l a with
    | mk xs o =>
      cases o with
      | some x => exact parts_bad l v a b w hv fun _ _ => .inr ⟨xs, x.1, x.2, ha⟩
      | none =>
        cases hb : tokR l b with
        | mk ys o2 =>
          cases o2 with
          | none => exact parts_ok l v a b w hv hk ha hb
          | some x => exact parts_err l v a b w hv hk ha (p := x.1) (code := x.2) hb
  · exact parts_bad l v a b w hv fun _ _ => .inl hk
end Go.Proofs.Ytlpopbpddfegfaa
