/-
  The reference's under.
-/
import Derived.Test.YtlaibimdkamcfaaF3
namespace Go.Proofs.Ytlaibimdkamcfaa
open Go.RowKit Go.Maps

theorem under_val {cs : List Cls} {a b : ByteArray} {bs : List Bool} (ha : knownB cs a = true) (hb : knownB cs b = true) (hl : bs.length = cs.length) (h : ∀ j, bs[j]? = some true ↔ Reach (supOf cs) (idxOfC cs a) j) : bs[idxOfC cs b]? = some (belowB cs a b) := by
  have hlt : idxOfC cs b < bs.length := by rw [hl]; exact idx_lt hb
  rw [List.getElem?_eq_getElem hlt]
  congr 1
  cases hv : belowB cs a b with
  | true =>
    have := (h (idxOfC cs b)).2 (below_known hv).2.2
    rw [List.getElem?_eq_getElem hlt] at this
    simpa using this
  | false =>
    cases hx : bs[idxOfC cs b] with
    | false => rfl
    | true =>
      have := (h (idxOfC cs b)).1 (by rw [List.getElem?_eq_getElem hlt, hx])
      rw [below_mk ha hb this] at hv
      cases hv

set_option maxRecDepth 100000 in
set_option maxHeartbeats 4000000 in
theorem refUnder_any {nm : ByteArray} {ca ta ra oa ya qa : Option Addr} {cc tn tc rn rc on oc yn yc qn qc cb co : Nat} {cs : List Cls} (a b : ByteArray) (w : World)
    (hca : cs ≠ [] → ca = some ⟨cb, co, none⟩) (hcs : ClassesAt w cb co cs) (hcl : cs.length ≤ 300) (hO : openErr cs = 0) (ha : knownB cs a = true) (hb : knownB cs b = true) (hsa : a.size ≤ maxLen) (hsb : b.size ≤ maxLen) :
    Calls Try.prog 74 #[.agg #[.string nm, .slice ca cs.length cc, .slice ta tn tc, .slice ra rn rc, .slice oa on oc, .slice ya yn yc, .slice qa qn qc], .string a, .string b] w fun e w' => e = .returned (.bool (belowB cs a b)) ∧ Below w.heap.size w w' := by
  have hclm : cs.length ≤ maxLen := by unfold maxLen; omega
  have hb0 : Below w.heap.size w (w.alloc (.cells #[.string nm, .slice ca cs.length cc, .slice ta tn tc, .slice ra rn rc, .slice oa on oc, .slice ya yn yc, .slice qa qn qc] 29)) := (Below.refl _ w).alloc (Nat.le_refl _) _
  have HTH := Lib.hid (ThyAt.mk (Thy.mk (heap_alloc_new w (.cells #[.string nm, .slice ca cs.length cc, .slice ta tn tc, .slice ra rn rc, .slice oa on oc, .slice ya yn yc, .slice qa qn qc] 29)) (hcs.later hb0)) hca hclm : ThyAt nm ca ta ra oa ya qa cc tn tc rn rc on oc yn yc qn qc cb co cs w.heap.size _)
  have HB0 := Lib.hid hb0
  have HSA := Lib.hid hsa
  have HSB := Lib.hid hsb
  have HKA := Lib.hid ha
  have HKB := Lib.hid hb
  have HO := Lib.hid hO
  have hia : refIdx cs a = ((idxOfC cs a : Nat) : Int) := by unfold refIdx; rw [if_pos ha]
  have hib : refIdx cs b = ((idxOfC cs b : Nat) : Int) := by unfold refIdx; rw [if_pos hb]
  have hla := idx_lt ha
  have hlb := idx_lt hb
  have HV := Lib.hid (fun (bs : List Bool) (hl : bs.length = cs.length) (h : ∀ j, bs[j]? = some true ↔ Reach (supOf cs) (idxOfC cs a) j) => under_val ha hb hl h)
  obtain ⟨ia, hia'⟩ : ∃ x, idxOfC cs a = x := ⟨_, rfl⟩
  obtain ⟨ib, hib'⟩ : ∃ x, idxOfC cs b = x := ⟨_, rfl⟩
  rw [hia'] at hia hla HV
  rw [hib'] at hib hlb HV
  obtain ⟨R, hR⟩ : ∃ R, belowB cs a b = R := ⟨_, rfl⟩
  rw [hR] at HV ⊢
  have HIA := Lib.hid hia
  have HIB := Lib.hid hib
  clear hb0 hca hcs hsa hsb ha hb hO hia hib hia' hib' hR hclm
  go_enter Try.func74, Try.ntmps74
  go_wp2_with fail
  generalize (w.alloc (.cells #[.string nm, .slice ca cs.length cc, .slice ta tn tc, .slice ra rn rc, .slice oa on oc, .slice ya yn yc, .slice qa qn qc] 29)) = w1 at *
  obtain ⟨ga, hga⟩ : ∃ q, w.heap.size = q := ⟨_, rfl⟩
  rw [hga] at HTH ⊢
  have HGA := Lib.hid hga
  clear hga
  obtain ⟨g0, g1, g2, g3, g4, g5, g6⟩ := HTH.out.cells
  have k0 : w1.drew.cell? ⟨ga, 0, none⟩ = _ := g0
  have k1 : w1.drew.cell? ⟨ga, 1, none⟩ = _ := g1
  have k2 : w1.drew.cell? ⟨ga, 2, none⟩ = _ := g2
  have k3 : w1.drew.cell? ⟨ga, 3, none⟩ = _ := g3
  have k4 : w1.drew.cell? ⟨ga, 4, none⟩ = _ := g4
  have k5 : w1.drew.cell? ⟨ga, 5, none⟩ = _ := g5
  have k6 : w1.drew.cell? ⟨ga, 6, none⟩ = _ := g6
  have HBR := Lib.hid ((Below.refl w1.heap.size w1).drew)
  have HFA := Lib.hid (fun W hb => refClass_uni HTH.out W HSA hb)
  rw [HIA.out] at HFA
  refine wp_region_noPanic ?_
  refine wp_region_held_drew (S := (fun W => W.cell? ⟨ga, 0, none⟩ = some (.string nm) ∧ W.cell? ⟨ga, 1, none⟩ = some (.slice ca cs.length cc) ∧ W.cell? ⟨ga, 2, none⟩ = some (.slice ta tn tc) ∧ W.cell? ⟨ga, 3, none⟩ = some (.slice ra rn rc) ∧ W.cell? ⟨ga, 4, none⟩ = some (.slice oa on oc) ∧ W.cell? ⟨ga, 5, none⟩ = some (.slice ya yn yc) ∧ W.cell? ⟨ga, 6, none⟩ = some (.slice qa qn qc))) (by kernel_rfl) (by refine ⟨?_, ?_, ?_, ?_, ?_, ?_, ?_⟩ <;> assumption) (fun hHeld => ?_)
  refine wpAnyH_take (i := 0) (oi := { dst := some 7, op := Op.load 29 (Operand.tmp 3), type := 29, pos := "ref.go:73", after := #[], guard := none }) (v := ?vr0) rfl (by kernel_rfl) (by kernel_rfl) (by kernel_rfl) (fun _ _ _ h => h) (Or.inl ⟨by rfl, ?hyr0⟩) (by assumption) ?restr0
  case hyr0 => (intro w hSw; (try dsimp only at hSw); go_simp; (try with_reducible rfl))
  case' restr0 => skip
  try simp only [Act.put, List.setIfInBounds_toArray, List.set_cons_zero, List.set_cons_succ]
  refine wpAnyH_take (i := 1) (oi := { dst := some 8, op := Op.load 29 (Operand.tmp 3), type := 29, pos := "ref.go:73", after := #[], guard := none }) (v := ?vr1) rfl (by kernel_rfl) (by kernel_rfl) (by kernel_rfl) (fun _ _ _ h => h) (Or.inl ⟨by rfl, ?hyr1⟩) (by assumption) ?restr1
  case hyr1 => (intro w hSw; (try dsimp only at hSw); go_simp; (try with_reducible rfl))
  case' restr1 => skip
  try simp only [Act.put, List.setIfInBounds_toArray, List.set_cons_zero, List.set_cons_succ]
  refine wpAnyH_take (i := 2) (oi := { dst := some 9, op := Op.move (Operand.tmp 1), type := 9, pos := "ref.go:73", after := #[], guard := none }) (v := ?vr2) rfl (by kernel_rfl) (by kernel_rfl) (by kernel_rfl) (fun _ _ _ h => h) (Or.inl ⟨by rfl, ?hyr2⟩) (by assumption) ?restr2
  case hyr2 => (intro w hSw; (try dsimp only at hSw); go_simp; (try with_reducible rfl))
  case' restr2 => skip
  try simp only [Act.put, List.setIfInBounds_toArray, List.set_cons_zero, List.set_cons_succ]
  refine wpAnyH_take (i := 5) (oi := { dst := some 12, op := Op.load 29 (Operand.tmp 3), type := 29, pos := "ref.go:73", after := #[], guard := none }) (v := ?vr5) rfl (by kernel_rfl) (by kernel_rfl) (by kernel_rfl) (fun _ _ _ h => h) (Or.inl ⟨by rfl, ?hyr5⟩) (by assumption) ?restr5
  case hyr5 => (intro w hSw; (try dsimp only at hSw); go_simp; (try with_reducible rfl))
  case' restr5 => skip
  try simp only [Act.put, List.setIfInBounds_toArray, List.set_cons_zero, List.set_cons_succ]
  refine wpAnyH_take (i := 6) (oi := { dst := some 13, op := Op.move (Operand.tmp 2), type := 9, pos := "ref.go:73", after := #[], guard := none }) (v := ?vr6) rfl (by kernel_rfl) (by kernel_rfl) (by kernel_rfl) (fun _ _ _ h => h) (Or.inl ⟨by rfl, ?hyr6⟩) (by assumption) ?restr6
  case hyr6 => (intro w hSw; (try dsimp only at hSw); go_simp; (try with_reducible rfl))
  case' restr6 => skip
  try simp only [Act.put, List.setIfInBounds_toArray, List.set_cons_zero, List.set_cons_succ]
  refine wpAnyH_ready (rs := [3]) (by kernel_rfl) (by simp) ?_
  refine AllReadyH.cons (o := { dst := some 10, op := Op.call { callee := Callee.value (Operand.func 43), args := #[Operand.tmp 8, Operand.tmp 9], argTypes := #[29, 9] }, type := 3, pos := "ref.go:73", after := #[{ on := 1, ground := Ground.data }, { on := 2, ground := Ground.data }], guard := none }) rfl (fun K hK => ?_) AllReadyH.nil
  go_simp
  (go_at_call 43; refine (HFA.out _ (by assumption)).mono ?_; rintro e w7 ⟨rfl, hb7, k0, k1, k2, k3, k4, k5, k6⟩)
  try go_wp2_with fail
  refine hK.out _ _ ?_ (fun hHeld => ?_)
  · refine ⟨?_, ?_, ?_, ?_, ?_, ?_, ?_⟩ <;> assumption
  clear hK K
  try simp only [Act.put, List.setIfInBounds_toArray, List.set_cons_zero, List.set_cons_succ]
  refine wpAnyH_ready (rs := [4]) (by kernel_rfl) (by simp) ?_
  refine AllReadyH.cons (o := { dst := some 11, op := Op.call { callee := Callee.value (Operand.func 44), args := #[Operand.tmp 7, Operand.tmp 10], argTypes := #[29, 3] }, type := 78, pos := "ref.go:73", after := #[{ on := 0, ground := Ground.data }, { on := 3, ground := Ground.data }, { on := 3, ground := Ground.chain }], guard := none }) rfl (fun K hK => ?_) AllReadyH.nil
  go_simp
  have HT7 := Lib.hid (HTH.out.later hb7.out)
  go_at_call 44
  refine (refAbove_any ia w7 HT7.out.cla HT7.out.thy.cls hcl hla HO.out).mono ?_
  rintro e w8 ⟨g, bs, rfl, hbl, hbs, ho8, hb8⟩
  have HT8 := Lib.hid (HT7.out.later hb8)
  have HB8 := Lib.hid (hb7.out.trans (hb8.mono hb7.out.size))
  have HO8 := Lib.hid ho8
  have hv := HV.out bs hbl hbs
  obtain ⟨k0, k1, k2, k3, k4, k5, k6⟩ := HT8.out.cells
  clear hbs ho8 hb8
  try go_wp2_with fail
  refine hK.out _ _ ?_ (fun hHeld => ?_)
  · refine ⟨?_, ?_, ?_, ?_, ?_, ?_, ?_⟩ <;> assumption
  clear hK K
  try simp only [Act.put, List.setIfInBounds_toArray, List.set_cons_zero, List.set_cons_succ]
  refine wpAnyH_ready (rs := [7]) (by kernel_rfl) (by simp) ?_
  refine AllReadyH.cons (o := { dst := some 14, op := Op.call { callee := Callee.value (Operand.func 43), args := #[Operand.tmp 12, Operand.tmp 13], argTypes := #[29, 9] }, type := 3, pos := "ref.go:73", after := #[{ on := 5, ground := Ground.data }, { on := 6, ground := Ground.data }, { on := 4, ground := Ground.chain }], guard := none }) rfl (fun K hK => ?_) AllReadyH.nil
  go_simp
  go_at_call 43
  refine (refClass_any b w8 HT8.out.cla HT8.out.thy.cls HT8.out.len HSB.out).mono ?_
  rw [HIB.out]
  rintro e w9 ⟨rfl, hb9⟩
  have HB9 := Lib.hid (HB8.out.trans (hb9.mono HB8.out.size))
  have HO9 := Lib.hid (own_later HO8.out hb9)
  have kx := HO9.out.cellAt ib (by omega)
  rw [List.getElem?_map, hv, Option.map_some] at kx
  obtain ⟨k0, k1, k2, k3, k4, k5, k6⟩ := (HT8.out.later hb9).cells
  clear hb9
  try go_wp2_with fail
  refine hK.out _ _ ?_ (fun hHeld => ?_)
  · refine ⟨?_, ?_, ?_, ?_, ?_, ?_, ?_⟩ <;> assumption
  clear hK K
  try simp only [Act.put, List.setIfInBounds_toArray, List.set_cons_zero, List.set_cons_succ]
  refine wpAnyH_take (i := 8) (oi := { dst := some 15, op := Op.indexAddr 78 (Operand.tmp 11) (Operand.tmp 14), type := 0, pos := "ref.go:73", after := #[{ on := 4, ground := Ground.data }, { on := 7, ground := Ground.data }], guard := none }) (v := ?vr8) rfl (by kernel_rfl) (by kernel_rfl) (by kernel_rfl) (fun _ _ _ h => h) (Or.inl ⟨by rfl, ?hyr8⟩) (by assumption) ?restr8
  case hyr8 => (intro w hSw; (try dsimp only at hSw); go_simp; (try with_reducible rfl))
  case' restr8 => skip
  try simp only [Act.put, List.setIfInBounds_toArray, List.set_cons_zero, List.set_cons_succ]
  refine wpAnyH_ready (rs := [9]) (by kernel_rfl) (by simp) ?_
  refine AllReadyH.cons (o := { dst := some 16, op := Op.load 4 (Operand.tmp 15), type := 4, pos := "ref.go:73", after := #[{ on := 8, ground := Ground.data }], guard := none }) rfl (fun K hK => ?_) AllReadyH.nil
  go_simp
  refine hK.out _ _ ?_ (fun hHeld => ?_)
  · refine ⟨?_, ?_, ?_, ?_, ?_, ?_, ?_⟩ <;> assumption
  clear hK K
  try simp only [Act.put, List.setIfInBounds_toArray, List.set_cons_zero, List.set_cons_succ]
  refine wpAnyH_take (i := 10) (oi := { dst := some 6, op := Op.assign (Operand.tmp 16), type := 4, pos := "ref.go:73", after := #[{ on := 9, ground := Ground.data }, { on := 7, ground := Ground.chain }, { on := 0, ground := Ground.phase }, { on := 1, ground := Ground.phase }, { on := 2, ground := Ground.phase }, { on := 3, ground := Ground.phase }, { on := 4, ground := Ground.phase }, { on := 5, ground := Ground.phase }, { on := 6, ground := Ground.phase }, { on := 7, ground := Ground.phase }, { on := 8, ground := Ground.phase }, { on := 9, ground := Ground.phase }], guard := none }) (v := ?vr10) rfl (by kernel_rfl) (by kernel_rfl) (by kernel_rfl) (fun _ _ _ h => h) (Or.inl ⟨by rfl, ?hyr10⟩) (by assumption) ?restr10
  case hyr10 => (intro w hSw; (try dsimp only at hSw); go_simp; (try with_reducible rfl))
  case' restr10 => skip
  try simp only [Act.put, List.setIfInBounds_toArray, List.set_cons_zero, List.set_cons_succ]
  refine wpAnyH_done (by kernel_rfl) ?_ _
  refine NoPanic.normal ?_
  go_wp2_with fail
  go_ret
  exact ⟨rfl, HB0.out.trans (HB9.out.mono HB0.out.size)⟩
end Go.Proofs.Ytlaibimdkamcfaa
