/-
  The reference's sorts: the error of sorts in a theory.
-/
import Derived.Test.YtlaibimdkamcfaaF7
namespace Go.Proofs.Ytlaibimdkamcfaa
open Go.RowKit Go.Maps

theorem refKnown_uni {nm : ByteArray} {ca ta ra oa ya qa : Option Addr} {cc tn tc rn rc on oc yn yc qn qc cb co : Nat} {cs : List Cls} {g : Nat} {W0 : World} (h : ThyAt nm ca ta ra oa ya qa cc tn tc rn rc on oc yn yc qn qc cb co cs g W0) (W : World) {xa : Option Addr} {x : List ByteArray} {xc : Nat} (hx : Hid (SortAt W0 xa x)) (hb : Hid (Below W0.heap.size W0 W)) :
    Calls Try.prog 46 #[.agg #[.string nm, .slice ca cs.length cc, .slice ta tn tc, .slice ra rn rc, .slice oa on oc, .slice ya yn yc, .slice qa qn qc], .slice xa x.length xc] W fun e W' =>
      e = .returned (.bool (x.all (knownB cs))) ∧ Hid (Below W0.heap.size W0 W') ∧ W'.cell? ⟨g, 0, none⟩ = some (.string nm) ∧ W'.cell? ⟨g, 1, none⟩ = some (.slice ca cs.length cc) ∧ W'.cell? ⟨g, 2, none⟩ = some (.slice ta tn tc) ∧ W'.cell? ⟨g, 3, none⟩ = some (.slice ra rn rc) ∧ W'.cell? ⟨g, 4, none⟩ = some (.slice oa on oc) ∧ W'.cell? ⟨g, 5, none⟩ = some (.slice ya yn yc) ∧ W'.cell? ⟨g, 6, none⟩ = some (.slice qa qn qc) := by
  have hT := h.later hb.out
  refine (refKnown_any (xc := xc) W hT.cla hT.thy.cls hT.len (hx.out.later hb.out)).mono ?_
  rintro e W' ⟨rfl, hb'⟩
  exact ⟨rfl, Lib.hid (hb.out.trans (hb'.mono hb.out.size)), (hT.later hb').cells⟩

/-- Sorts in a row of memory. -/
def SortsAt (W : World) (b o : Nat) (L : List (List ByteArray)) : Prop := ∀ i (h : i < L.length), b < W.heap.size ∧ ∃ a c, W.cell? ⟨b, o + i, none⟩ = some (.slice a L[i].length c) ∧ SortAt W a L[i]

theorem SortsAt.later {W W' : World} {b o : Nat} {L : List (List ByteArray)} (h : SortsAt W b o L) (hb : Below W.heap.size W W') : SortsAt W' b o L := by
  intro i hi
  obtain ⟨hlt, a, c, h1, h2⟩ := h i hi
  exact ⟨Nat.lt_of_lt_of_le hlt hb.size, a, c, (hb.cell (p := ⟨b, _, none⟩) hlt).trans h1, h2.later hb⟩

def sortOf (L : List (List ByteArray)) (i : Nat) : List ByteArray := L.getD i []
theorem sortOf_eq {L : List (List ByteArray)} {i : Nat} (h : i < L.length) : sortOf L i = L[i] := by simp [sortOf, h]

/-- The error of sorts. -/
noncomputable def sortsErr (cs : List Cls) (L : List (List ByteArray)) : Int := if openErr cs = 0 then firstErr L.length (fun i => sortErr (knownB cs) (sortOf L i)) else openErr cs

theorem sortsErr_open {cs : List Cls} {L : List (List ByteArray)} (h : openErr cs ≠ 0) : sortsErr cs L = openErr cs := by unfold sortsErr; rw [if_neg h]
theorem sortsErr_at {cs : List Cls} {L : List (List ByteArray)} {i : Nat} (hO : openErr cs = 0) (hi : i < L.length) (hz : ∀ j, j < i → sortErr (knownB cs) (sortOf L j) = 0) {E : Int} (he : sortErr (knownB cs) L[i] = E) (h0 : E ≠ 0) : sortsErr cs L = E := by
  unfold sortsErr
  rw [if_pos hO, firstErr_at hi hz (by rw [sortOf_eq hi, he]; exact h0), sortOf_eq hi, he]
theorem sortsErr_none {cs : List Cls} {L : List (List ByteArray)} (hO : openErr cs = 0) (hz : ∀ j, j < L.length → sortErr (knownB cs) (sortOf L j) = 0) : sortsErr cs L = 0 := by
  unfold sortsErr
  rw [if_pos hO, firstErr_zero.2 hz]

theorem sortErr_many {K : ByteArray → Bool} {s : List ByteArray} (h : 20 < s.length) : sortErr K s = 5 := by unfold sortErr; rw [if_pos h]
theorem sortErr_known {K : ByteArray → Bool} {s : List ByteArray} (h : ¬ 20 < s.length) : sortErr K s = if s.all K then 0 else 9 := by unfold sortErr; rw [if_neg h]

set_option maxRecDepth 100000 in
set_option maxHeartbeats 8000000 in
theorem refSorts_any {nm : ByteArray} {ca ta ra oa ya qa : Option Addr} {cc tn tc rn rc on oc yn yc qn qc cb co : Nat} {cs : List Cls} {lb lo lc : Nat} {L : List (List ByteArray)} (w : World)
    (hca : cs ≠ [] → ca = some ⟨cb, co, none⟩) (hcs : ClassesAt w cb co cs) (hcl : cs.length ≤ maxLen) (hL : SortsAt w lb lo L) (hl : L.length ≤ 9223372036854775807) :
    Calls Try.prog 51 #[.agg #[.string nm, .slice ca cs.length cc, .slice ta tn tc, .slice ra rn rc, .slice oa on oc, .slice ya yn yc, .slice qa qn qc], .slice (some ⟨lb, lo, none⟩) L.length lc] w fun e w' => e = .returned (.int .i64 (sortsErr cs L)) ∧ Below w.heap.size w w' := by
  have hb0 : Below w.heap.size w (w.alloc (.cells #[.string nm, .slice ca cs.length cc, .slice ta tn tc, .slice ra rn rc, .slice oa on oc, .slice ya yn yc, .slice qa qn qc] 29)) := (Below.refl _ w).alloc (Nat.le_refl _) _
  have HTH := Lib.hid (ThyAt.mk (Thy.mk (heap_alloc_new w (.cells #[.string nm, .slice ca cs.length cc, .slice ta tn tc, .slice ra rn rc, .slice oa on oc, .slice ya yn yc, .slice qa qn qc] 29)) (hcs.later hb0)) hca hcl : ThyAt nm ca ta ra oa ya qa cc tn tc rn rc on oc yn yc qn qc cb co cs w.heap.size _)
  have HB0 := Lib.hid hb0
  have HL := Lib.hid (hL.later hb0)
  clear hb0 hca hcs hcl hL
  obtain ⟨R, hR⟩ : ∃ R, sortsErr cs L = R := ⟨_, rfl⟩
  rw [hR]
  have HR := Lib.hid hR
  clear hR
  go_enter Try.func51, Try.ntmps51
  go_wp2_with fail
  generalize (w.alloc (.cells #[.string nm, .slice ca cs.length cc, .slice ta tn tc, .slice ra rn rc, .slice oa on oc, .slice ya yn yc, .slice qa qn qc] 29)) = w1 at *
  obtain ⟨ga, hga⟩ : ∃ q, w.heap.size = q := ⟨_, rfl⟩
  rw [hga] at HTH ⊢
  have HGA := Lib.hid hga
  clear hga
  obtain ⟨g0, g1, g2, g3, g4, g5, g6⟩ := HTH.out.cells
  go_wp2_with fail
  refine (refClasses_any w1 HTH.out.cla HTH.out.thy.cls HTH.out.len).mono ?_
  rintro e w2 ⟨rfl, hb2⟩
  have HT2 := Lib.hid (HTH.out.later hb2)
  have HL2 := Lib.hid (HL.out.later hb2)
  have HB2 := Lib.hid (HB0.out.trans (hb2.mono HB0.out.size))
  clear hb2 g0 g1 g2 g3 g4 g5 g6
  by_cases hO : openErr cs = 0
  · have HO := Lib.hid hO
    rw [hO]
    clear hO
    go_wp2_with fail
    go_loopw [6] (fun t wr => ∃ i : Nat, t = .int .i64 i ∧ i ≤ L.length ∧ (∀ j, j < i → sortErr (knownB cs) (sortOf L j) = 0) ∧ Below w2.heap.size w2 wr) (fun t _ => L.length - (intOf t).toNat)
    case atStart => exact ⟨0, rfl, Nat.zero_le _, fun j hj => by omega, Below.refl _ _⟩
    case round =>
      obtain ⟨i, rfl, hi, hp, hb⟩ := hrel
      have HP := Lib.hid hp
      have HB := Lib.hid hb
      have HBW := Lib.hid (HB2.out.trans (hb.mono HB2.out.size))
      have HTR := Lib.hid (HT2.out.later hb)
      have HLR := Lib.hid (HL2.out.later hb)
      clear hp hb
      by_cases hlt : i < L.length
      · obtain ⟨hlb, xa, xc, hcell, hxs⟩ := HLR.out i hlt
        have HAT := Lib.hid (fun E he h0 => sortsErr_at HO.out hlt HP.out (E := E) he h0)
        have HSO := Lib.hid (sortOf_eq hlt)
        obtain ⟨x, hx⟩ : ∃ x, L[i] = x := ⟨_, rfl⟩
        rw [hx] at hcell hxs HAT HSO
        have hlx : x.length ≤ 9223372036854775807 := hxs.choose_spec.choose_spec.2.2
        have HX := Lib.hid hxs
        have HLB := Lib.hid hlb
        have HC := Lib.hid hcell
        clear hx hxs hlb
        by_cases h20 : 20 < x.length
        · have HE := Lib.hid (HAT.out 5 (sortErr_many h20) (by decide))
          go_wp2_with fail
          go_ret
          refine ⟨?_, ?_⟩
          · rw [← HR.out, HE.out]; rfl
          · exact HBW.out
        · have HSE := Lib.hid (sortErr_known (K := knownB cs) h20)
          obtain ⟨g0, g1, g2, g3, g4, g5, g6⟩ := HTR.out.cells
          have HF := Lib.hid (fun W hb => refKnown_uni (xc := xc) HTR.out W HX hb)
          obtain ⟨B, hB⟩ : ∃ B, x.all (knownB cs) = B := ⟨_, rfl⟩
          rw [hB] at HF HSE
          have HBR := Lib.hid ((Below.refl wr.heap.size wr).drew)
          have k0 : wr.drew.cell? ⟨ga, 0, none⟩ = _ := g0
          have k1 : wr.drew.cell? ⟨ga, 1, none⟩ = _ := g1
          have k2 : wr.drew.cell? ⟨ga, 2, none⟩ = _ := g2
          have k3 : wr.drew.cell? ⟨ga, 3, none⟩ = _ := g3
          have k4 : wr.drew.cell? ⟨ga, 4, none⟩ = _ := g4
          have k5 : wr.drew.cell? ⟨ga, 5, none⟩ = _ := g5
          have k6 : wr.drew.cell? ⟨ga, 6, none⟩ = _ := g6
          have k7 : wr.drew.cell? ⟨lb, lo + i, none⟩ = _ := hcell
          clear hB
          go_wp2_with fail
          go_region_held3 (fun W => W.cell? ⟨lb, lo + i, none⟩ = some (.slice xa x.length xc) ∧ W.cell? ⟨ga, 0, none⟩ = some (.string nm) ∧ W.cell? ⟨ga, 1, none⟩ = some (.slice ca cs.length cc) ∧ W.cell? ⟨ga, 2, none⟩ = some (.slice ta tn tc) ∧ W.cell? ⟨ga, 3, none⟩ = some (.slice ra rn rc) ∧ W.cell? ⟨ga, 4, none⟩ = some (.slice oa on oc) ∧ W.cell? ⟨ga, 5, none⟩ = some (.slice ya yn yc) ∧ W.cell? ⟨ga, 6, none⟩ = some (.slice qa qn qc))
            (refine ⟨?_, ?_, ?_, ?_, ?_, ?_, ?_, ?_⟩ <;> assumption)
            ((go_at_call 46; refine (HF.out _ (by assumption)).mono ?_; rintro e w' ⟨rfl, hb', k0, k1, k2, k3, k4, k5, k6⟩; have k7 := (hb'.out.cell (p := ⟨lb, lo + i, none⟩) HLB.out).trans HC.out))
          cases B with
          | false =>
            have HE := Lib.hid (HAT.out 9 HSE.out (by decide))
            go_wp2_with fail
            go_ret
            refine ⟨?_, ?_⟩
            · rw [← HR.out, HE.out]; rfl
            · exact HBW.out.trans (hb'.out.mono HBW.out.size)
          | true =>
            go_wp2_with fail
            refine ⟨⟨i + 1, by simp only [Int.natCast_add, Int.natCast_one], by omega, fun j hj => ?_, HB.out.trans (hb'.out.mono HB.out.size)⟩, ?_⟩
            · by_cases e : j = i
              · subst e
                rw [HSO.out, HSE.out]; rfl
              · exact HP.out j (by omega)
            · show L.length - ((i : Int) + 1).toNat < L.length - ((i : Nat) : Int).toNat
              omega
      · have HE := Lib.hid (sortsErr_none HO.out fun j hj => HP.out j (by omega))
        go_wp2_with fail
        go_ret
        refine ⟨?_, ?_⟩
        · rw [← HR.out, HE.out]; rfl
        · exact HBW.out
  · have q1 : (openErr cs == 0) = false := by simpa using hO
    have q2 : (openErr cs != 0) = true := by simpa using hO
    have HE := Lib.hid (sortsErr_open (L := L) hO)
    obtain ⟨E, hE⟩ : ∃ E, openErr cs = E := ⟨_, rfl⟩
    rw [hE] at q1 q2 HE ⊢
    clear hO hE
    go_wp2_with fail
    go_ret
    refine ⟨?_, ?_⟩
    · rw [← HR.out, HE.out]; rfl
    · exact HB2.out
end Go.Proofs.Ytlaibimdkamcfaa
