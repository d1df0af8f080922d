/-
  sort.Meet of a theory.
-/
import Derived.Test.YtlaibimdkamcfaaE10
namespace Go.Proofs.Ytlaibimdkamcfaa
open Go.RowKit Go.Maps

set_option maxRecDepth 100000 in
set_option maxHeartbeats 2000000 in
theorem sortMeet_any (nm : ByteArray) (ca ta ra oa ya qa : Option Addr) (cc tn tc rn rc on oc yn yc qn qc cb co : Nat) (cs : List Cls) (xb xo xc yb yo yc' : Nat) (xa za : Option Addr) (x y : List ByteArray) (w : World)
    (hca : cs ≠ [] → ca = some ⟨cb, co, none⟩) (hcs : ClassesAt w cb co cs) (hcl : cs.length ≤ maxLen) (hxa : x ≠ [] → xa = some ⟨xb, xo, none⟩) (hx : StrsAt w xb xo x) (hlx : x.length ≤ 9223372036854775807)
    (hya : y ≠ [] → za = some ⟨yb, yo, none⟩) (hy : StrsAt w yb yo y) (hly : y.length ≤ 9223372036854775807) :
    Calls Try.prog 22 #[.agg #[.string nm, .slice ca cs.length cc, .slice ta tn tc, .slice ra rn rc, .slice oa on oc, .slice ya yn yc, .slice qa qn qc], .slice xa x.length xc, .slice za y.length yc'] w fun e w' =>
      ((openErr cs ≠ 0 ∧ e = .returned (.tuple #[.slice none 0 0, .int .i64 (openErr cs)])) ∨
       (openErr cs = 0 ∧ MeetOut (knownB cs) (belowB cs) x y w.heap.size e w')) ∧ Below w.heap.size w w' := by
  have HX := Lib.hid hx
  have HXA := Lib.hid hxa
  have HY := Lib.hid hy
  have HYA := Lib.hid hya
  have HCS := Lib.hid hcs
  have HCA := Lib.hid hca
  clear hx hxa hy hya hcs hca
  have hb0 : Below w.heap.size w (w.alloc (.cells #[.string nm, .slice ca cs.length cc, .slice ta tn tc, .slice ra rn rc, .slice oa on oc, .slice ya yn yc, .slice qa qn qc] 29)) := (Below.refl _ w).alloc (Nat.le_refl _) _
  have HB0 := Lib.hid hb0
  have HOP := Lib.hid (openClasses_opened cb co cc ca cs (w.alloc (.cells #[.string nm, .slice ca cs.length cc, .slice ta tn tc, .slice ra rn rc, .slice oa on oc, .slice ya yn yc, .slice qa qn qc] 29)) HCA.out (HCS.out.later hb0) hcl)
  clear hb0
  go_enter Try.func22, Try.ntmps22
  go_wp2_with fail
  generalize (w.alloc (.cells #[.string nm, .slice ca cs.length cc, .slice ta tn tc, .slice ra rn rc, .slice oa on oc, .slice ya yn yc, .slice qa qn qc] 29)) = w1 at *
  refine HOP.out.mono ?_
  rintro e w2 (⟨hE, rfl, hb2⟩ | ⟨v, rfl, hop⟩)
  · obtain ⟨E, hEE⟩ : ∃ E, openErr cs = E := ⟨_, rfl⟩
    rw [hEE]
    have hE1 : (openErr cs == 0) = false := by simpa using hE
    have hE2 : (openErr cs != 0) = true := by simpa using hE
    have HB2 := Lib.hid (HB0.out.trans (hb2.mono HB0.out.size))
    unfold zeroAlg
    rw [hEE] at hE1 hE2 hE
    have HNE := Lib.hid hE
    have HEE := Lib.hid hEE
    clear hE hb2 hEE
    have hb3 : Below w2.heap.size w2 (w2.alloc (.cells #[.slice none 0 0, .map none, .slice none 0 0, .slice none 0 0, .slice none 0 0, .map none, .map none] 70)) := (Below.refl _ _).alloc (Nat.le_refl _) _
    have HB3 := Lib.hid hb3
    clear hb3
    go_wp2_with fail
    go_ret2
    refine ⟨.inl ⟨fun h => HNE.out (HEE.out.symm.trans h), ?_⟩, HB2.out.trans (HB3.out.mono HB2.out.size)⟩
    rw [HEE.out]; rfl
  · obtain ⟨hO, ⟨A, na, ua, aa, nl, nc, ul, uc, bc, mb, nm', ab, D, rfl, hat, haa, hmb, hab, hk, hbl⟩, hb2⟩ := hop
    have hkk : A.known = knownB cs := funext hk
    have hbe : A.below = belowB cs := funext fun x => funext fun y => hbl x y
    have hb3 : Below w2.heap.size w2 (w2.alloc (.cells #[.slice na nl nc, .map (some mb), .slice ua ul uc, .slice aa A.n bc, .slice none 0 0, .map none, .map none] 70)) := (Below.refl _ _).alloc (Nat.le_refl _) _
    have HB03 := Lib.hid ((HB0.out.trans (hb2.mono HB0.out.size)).trans (hb3.mono (Nat.le_trans HB0.out.size hb2.size)))
    have HNO := Lib.hid (meet_any A na ua aa none nl nc ul uc bc 0 0 mb nm' ab 0 none none D xb xo xc yb yo yc' xa za x y _ (hat.below hb3 hmb hab) haa (Nat.lt_of_lt_of_le hmb hb3.size) (Nat.lt_of_lt_of_le hab hb3.size) HXA.out (HX.out.later HB03.out) hlx HYA.out (HY.out.later HB03.out) hly)
    rw [hkk, hbe] at HNO
    have HO := Lib.hid hO
    have HWS := Lib.hid HB03.out.size
    clear hbe hkk hb3 hb2 hO hat haa hmb hab hk hbl
    go_wp2_with fail
    generalize (w2.alloc (.cells #[.slice na nl nc, .map (some mb), .slice ua ul uc, .slice aa A.n bc, .slice none 0 0, .map none, .map none] 70)) = w3 at *
    refine HNO.out.mono ?_
    rintro e w4 ⟨hm, hb4⟩
    have HB4 := Lib.hid (HB03.out.trans (hb4.mono HWS.out))
    clear hb4
    rcases hm with ⟨hx1, rfl⟩ | ⟨hx1, hy1, rfl⟩ | ⟨hx1, hy1, p, q, r, hp, hq, hr, (⟨hlr, rfl⟩ | ⟨hlr, v, rfl, ho⟩)⟩
    · obtain ⟨E, hEE⟩ : ∃ E, sortErr (knownB cs) x = E := ⟨_, rfl⟩
      have HX1 := Lib.hid hx1
      have HEE := Lib.hid hEE
      rw [hEE]
      clear hx1 hEE
      go_wp2_with fail
      go_ret2
      refine ⟨.inr ⟨HO.out, .inl ⟨HX1.out, ?_⟩⟩, HB4.out⟩
      rw [HEE.out]; rfl
    · obtain ⟨E, hEE⟩ : ∃ E, sortErr (knownB cs) y = E := ⟨_, rfl⟩
      have HX1 := Lib.hid hx1
      have HY1 := Lib.hid hy1
      have HEE := Lib.hid hEE
      rw [hEE]
      clear hx1 hy1 hEE
      go_wp2_with fail
      go_ret2
      refine ⟨.inr ⟨HO.out, .inr (.inl ⟨HX1.out, HY1.out, ?_⟩)⟩, HB4.out⟩
      rw [HEE.out]; rfl
    · have H1 := Lib.hid hx1
      have H2 := Lib.hid hy1
      have H3 := Lib.hid hp
      have H4 := Lib.hid hq
      have H5 := Lib.hid hr
      have H6 := Lib.hid hlr
      clear hx1 hy1 hp hq hr hlr
      go_wp2_with fail
      go_ret2
      exact ⟨.inr ⟨HO.out, .inr (.inr ⟨H1.out, H2.out, p, q, r, H3.out, H4.out, H5.out, .inl ⟨H6.out, rfl⟩⟩)⟩, HB4.out⟩
    · have H1 := Lib.hid hx1
      have H2 := Lib.hid hy1
      have H3 := Lib.hid hp
      have H4 := Lib.hid hq
      have H5 := Lib.hid hr
      have H6 := Lib.hid hlr
      have H7 := Lib.hid ho
      obtain ⟨a6, c6, rfl⟩ := own_slice ho
      clear hx1 hy1 hp hq hr hlr ho
      go_wp2_with fail
      go_ret2
      exact ⟨.inr ⟨HO.out, .inr (.inr ⟨H1.out, H2.out, p, q, r, H3.out, H4.out, H5.out, .inr ⟨H6.out, _, rfl, own_mono H7.out HWS.out⟩⟩)⟩, HB4.out⟩
end Go.Proofs.Ytlaibimdkamcfaa
