/-
  The reference's put.
-/
import Derived.Test.YtlaibimdkamcfaaF1
namespace Go.Proofs.Ytlaibimdkamcfaa
open Go.RowKit Go.Maps

set_option maxRecDepth 100000 in
set_option maxHeartbeats 4000000 in
theorem refPut_any {xa : Option Addr} {l : List ByteArray} {xc : Nat} (s : ByteArray) (w : World) (hx : SortAt w xa l) (hl : l.length ≤ 1000) (hs : s.size ≤ maxLen) :
    Calls Try.prog 76 #[.slice xa l.length xc, .string s] w fun e w' => ∃ v, e = .returned v ∧ w'.ownsRow w.heap.size 9 1 v (putL s l).length ((putL s l).map Value.string) ∧ Below w.heap.size w w' := by
  have HX := Lib.hid hx
  have HSZ := Lib.hid hx.size
  have HS := Lib.hid hs
  clear hx hs
  obtain ⟨i9, hi9, hx0, hx1, hxb⟩ := info_parts Try.info9'
  go_enter Try.func76, Try.ntmps76
  go_wp2_with fail
  have ho0 : (w.alloc (.cells #[] 9)).ownsRow w.heap.size 9 1 (.slice (some ⟨w.heap.size, 0, none⟩) 0 0) 0 [] := World.ownsRow_made w #[] 0 (Nat.le_refl _) (Nat.zero_le _) rfl
  have hb0 : Below w.heap.size w (w.alloc (.cells #[] 9)) := (Below.refl _ w).alloc (Nat.le_refl _) _
  have HO0 := Lib.hid ho0
  have HB0 := Lib.hid hb0
  clear ho0 hb0
  generalize (Value.slice (some ⟨w.heap.size, 0, none⟩) 0 0) = v0 at *
  generalize (w.alloc (.cells #[] 9)) = w1 at *
  go_loopw [5, 6, 7] (fun ov dv t wr => ∃ (i : Nat) (o : List ByteArray) (dn : Bool), t = .int .i64 i ∧ dv = .bool dn ∧ i ≤ l.length ∧ ((dn = false → o.length ≤ i) ∧ o.length ≤ i + 1) ∧ (if dn then o ++ l.drop i = putL s l else o ++ putL s (l.drop i) = putL s l) ∧ wr.ownsRow w.heap.size 9 1 ov o.length (o.map Value.string) ∧ Below w.heap.size w wr) (fun _ _ t _ => l.length - (intOf t).toNat)
  case atStart => exact ⟨0, [], false, rfl, rfl, Nat.zero_le _, ⟨fun _ => Nat.zero_le _, Nat.zero_le _⟩, by simp, HO0.out, HB0.out⟩
  case round =>
    obtain ⟨i, o, dn, rfl, rfl, hi, ⟨hol0, hol⟩, hp, ho, hb⟩ := hrel
    have HP := Lib.hid hp
    have HO := Lib.hid ho
    have HB := Lib.hid hb
    obtain ⟨oa, oc, rfl⟩ := own_slice ho
    by_cases hlt : i < l.length
    · obtain ⟨b, off, hxa, hxs0, _⟩ := HX.out
      have hxs := hxs0.later hb
      have e := hxa (by intro e; subst e; simp at hlt)
      subst e
      have hcx := hxs.cell i hlt
      have HLB := Lib.hid (hxs0.lt (by intro e; subst e; simp at hlt))
      have HZ := Lib.hid (HSZ.out _ (List.getElem_mem hlt))
      have HDR := Lib.hid (List.drop_eq_getElem_cons hlt)
      obtain ⟨x, hx⟩ : ∃ x, l[i] = x := ⟨_, rfl⟩
      rw [hx] at hcx HZ HDR
      clear hp ho hb hxa hxs hxs0 hx
      cases dn with
      | true =>
        clear hol0
        have hfin : (o ++ [x]) ++ l.drop (i + 1) = putL s l := by
          have h := HP.out
          rw [if_pos rfl, HDR.out] at h
          rw [← h]; simp
        have HF := Lib.hid hfin
        clear hfin
        go_wp2_with (at_builtin; refine wpList_append_own _ rfl _ _ 27 rfl w.heap.size 9 i9 (.string ByteArray.empty) 1 16 Try.underlying27 hi9 hx0 hx1 hxb rfl (by decide) _ _ _ rfl (HO.out.alloc _) ⟨wr.heap.size, 0, none⟩ 1 1 [.string x] rfl rfl (cell_one_new _ _ _) (by simp [Value.oneCell']) (by unfold maxLen; omega) (by omega) (by have := HB.out.size; simp; omega) ?_; intro v' w7 hown7 hgrow7 _)
        have hb7 : Below w.heap.size wr w7 := ((Below.refl w.heap.size wr).alloc HB.out.size _).grown hgrow7 (by have := HB.out.size; simp; omega) (fun q e => (HO.out.lt q e).1)
        refine ⟨⟨i + 1, o ++ [x], true, by simp only [Int.natCast_add, Int.natCast_one], rfl, by omega, ⟨fun h => (by cases h), by simp; omega⟩, by rw [if_pos rfl]; exact HF.out, ?_, HB.out.trans hb7⟩, ?_⟩
        · simpa using hown7
        · show l.length - ((i : Int) + 1).toNat < l.length - ((i : Nat) : Int).toNat
          omega
      | false =>
        have hol1 := hol0 rfl
        clear hol0
        have hpp := HP.out
        rw [if_neg (by simp), HDR.out] at hpp
        have hbl := bytesLess_ltS x s
        cases hbb : Op.bytesLess x.toList s.toList with
        | true =>
          have HF := Lib.hid (putL_step (hbl.1 hbb) hpp)
          clear hpp hbl
          go_wp2_with (at_builtin; refine wpList_append_own _ rfl _ _ 27 rfl w.heap.size 9 i9 (.string ByteArray.empty) 1 16 Try.underlying27 hi9 hx0 hx1 hxb rfl (by decide) _ _ _ rfl (HO.out.alloc _) ⟨wr.heap.size, 0, none⟩ 1 1 [.string x] rfl rfl (cell_one_new _ _ _) (by simp [Value.oneCell']) (by unfold maxLen; omega) (by omega) (by have := HB.out.size; simp; omega) ?_; intro v' w7 hown7 hgrow7 _)
          have hb7 : Below w.heap.size wr w7 := ((Below.refl w.heap.size wr).alloc HB.out.size _).grown hgrow7 (by have := HB.out.size; simp; omega) (fun q e => (HO.out.lt q e).1)
          refine ⟨⟨i + 1, o ++ [x], false, by simp only [Int.natCast_add, Int.natCast_one], rfl, by omega, ⟨fun _ => by simp; omega, by simp; omega⟩, by rw [if_neg (by simp)]; exact HF.out, ?_, HB.out.trans hb7⟩, ?_⟩
          · simpa using hown7
          · show l.length - ((i : Int) + 1).toNat < l.length - ((i : Nat) : Int).toNat
            omega
        | false =>
          have hf := putL_found (fun h => by have := hbl.2 h; rw [hbb] at this; cases this) hpp
          have hq := toList_beq x s
          by_cases he : x = s
          · rw [if_pos he] at hf
            rw [decide_eq_true he] at hq
            have HF := Lib.hid hf
            clear hpp hbl he hf
            go_wp2_with (at_builtin; refine wpList_append_own _ rfl _ _ 27 rfl w.heap.size 9 i9 (.string ByteArray.empty) 1 16 Try.underlying27 hi9 hx0 hx1 hxb rfl (by decide) _ _ _ rfl (HO.out.alloc _) ⟨wr.heap.size, 0, none⟩ 1 1 [.string x] rfl rfl (cell_one_new _ _ _) (by simp [Value.oneCell']) (by unfold maxLen; omega) (by omega) (by have := HB.out.size; simp; omega) ?_; intro v' w7 hown7 hgrow7 _)
            have hb7 : Below w.heap.size wr w7 := ((Below.refl w.heap.size wr).alloc HB.out.size _).grown hgrow7 (by have := HB.out.size; simp; omega) (fun q e => (HO.out.lt q e).1)
            refine ⟨⟨i + 1, o ++ [x], true, by simp only [Int.natCast_add, Int.natCast_one], rfl, by omega, ⟨fun h => (by cases h), by simp; omega⟩, by rw [if_pos rfl]; exact HF.out, ?_, HB.out.trans hb7⟩, ?_⟩
            · simpa using hown7
            · show l.length - ((i : Int) + 1).toNat < l.length - ((i : Nat) : Int).toNat
              omega
          · rw [if_neg he] at hf
            rw [decide_eq_false he] at hq
            have HF := Lib.hid hf
            clear hpp hbl he hf
            go_wp2_with (first | (have _g : w7 = w7 := rfl; at_builtin; refine wpList_append_own _ rfl _ _ 27 rfl w.heap.size 9 i9 (.string ByteArray.empty) 1 16 Try.underlying27 hi9 hx0 hx1 hxb rfl (by decide) _ _ _ rfl (HO7.out.alloc _) ⟨w7.heap.size, 0, none⟩ 1 1 [.string x] rfl rfl (cell_one_new _ _ _) (by simp [Value.oneCell']) (by unfold maxLen; omega) (by omega) (by have := HB7.out.size; simp; omega) ?_; intro v' w8 hown8 hgrow8 _) | (at_builtin; refine wpList_append_own _ rfl _ _ 27 rfl w.heap.size 9 i9 (.string ByteArray.empty) 1 16 Try.underlying27 hi9 hx0 hx1 hxb rfl (by decide) _ _ _ rfl (HO.out.alloc _) ⟨wr.heap.size, 0, none⟩ 1 1 [.string s] rfl rfl (cell_one_new _ _ _) (by simp [Value.oneCell']) (by unfold maxLen; omega) (by omega) (by have := HB.out.size; simp; omega) ?_; intro v' w7 hown7 hgrow7 _; have hb7 : Below w.heap.size wr w7 := ((Below.refl w.heap.size wr).alloc HB.out.size _).grown hgrow7 (by have := HB.out.size; simp; omega) (fun q e => (HO.out.lt q e).1); have k7 := (hb7.cell (p := ⟨b, off + i, none⟩) HLB.out).trans hcx; have HB7 := Lib.hid (HB.out.trans hb7); have HO7 := Lib.hid hown7; obtain ⟨oa7, oc7, rfl⟩ := own_slice hown7; clear hown7 hgrow7 hb7))
            have hb8 : Below w.heap.size w7 w8 := ((Below.refl w.heap.size w7).alloc HB7.out.size _).grown hgrow8 (by have := HB7.out.size; simp; omega) (fun q e => (HO7.out.lt q e).1)
            refine ⟨⟨i + 1, o ++ [s] ++ [x], true, by simp only [Int.natCast_add, Int.natCast_one], rfl, by omega, ⟨fun h => (by cases h), by simp; omega⟩, by rw [if_pos rfl]; exact HF.out, ?_, HB7.out.trans hb8⟩, ?_⟩
            · simpa using hown8
            · show l.length - ((i : Int) + 1).toNat < l.length - ((i : Nat) : Int).toNat
              omega
    · have hd : l.drop i = [] := List.drop_eq_nil_of_le (by omega)
      rw [hd] at hp
      clear hb ho HP hd
      cases dn with
      | true =>
        rw [if_pos rfl, List.append_nil] at hp
        have HF := Lib.hid hp
        clear hp
        go_wp2_with fail
        go_ret
        refine ⟨_, rfl, ?_, HB.out⟩
        rw [← HF.out]; exact HO.out
      | false =>
        rw [if_neg (by simp)] at hp
        have HF := Lib.hid hp
        clear hp hol0
        go_wp2_with (at_builtin; refine wpList_append_own _ rfl _ _ 27 rfl w.heap.size 9 i9 (.string ByteArray.empty) 1 16 Try.underlying27 hi9 hx0 hx1 hxb rfl (by decide) _ _ _ rfl (HO.out.alloc _) ⟨wr.heap.size, 0, none⟩ 1 1 [.string s] rfl rfl (cell_one_new _ _ _) (by simp [Value.oneCell']) (by unfold maxLen; omega) (by omega) (by have := HB.out.size; simp; omega) ?_; intro v' w7 hown7 hgrow7 _)
        have hb7 : Below w.heap.size wr w7 := ((Below.refl w.heap.size wr).alloc HB.out.size _).grown hgrow7 (by have := HB.out.size; simp; omega) (fun q e => (HO.out.lt q e).1)
        go_ret
        refine ⟨_, rfl, ?_, HB.out.trans hb7⟩
        rw [← HF.out]
        simpa [putL] using hown7
end Go.Proofs.Ytlaibimdkamcfaa
