/-
  sort.Less and sort.Below of any theory.
-/
import Derived.Test.YtlaibimdkamcfaaG8
namespace Go.Proofs.Ytlaibimdkamcfaa
open Go.RowKit Go.Maps

set_option maxRecDepth 100000 in
set_option maxHeartbeats 2000000 in
theorem sortLess_full (nm : ByteArray) (ca ta ra oa ya qa : Option Addr) (cc tn tc rn rc on oc yn yc qn qc cb co : Nat) (cs : List Cls) (xb xo xc yb yo zc : Nat) (xa za : Option Addr) (x y : List ByteArray) (w : World)
    (hca : cs ≠ [] → ca = some ⟨cb, co, none⟩) (hcs : ClassesAt w cb co cs) (hcl : cs.length ≤ maxLen) (hxa : x ≠ [] → xa = some ⟨xb, xo, none⟩) (hx : StrsAt w xb xo x) (hlx : x.length ≤ maxLen)
    (hya : y ≠ [] → za = some ⟨yb, yo, none⟩) (hy : StrsAt w yb yo y) (hly : y.length ≤ maxLen) :
    Calls Try.prog 16 #[.agg #[.string nm, .slice ca cs.length cc, .slice ta tn tc, .slice ra rn rc, .slice oa on oc, .slice ya yn yc, .slice qa qn qc], .slice xa x.length xc, .slice za y.length zc] w fun e w' =>
      e = .returned (.bool (lessT cs x y)) ∧ Below w.heap.size w w' := by
  have HX := Lib.hid hx
  have HXA := Lib.hid hxa
  have HY := Lib.hid hy
  have HYA := Lib.hid hya
  have HCS := Lib.hid hcs
  have HCA := Lib.hid hca
  clear hx hxa hcs hca hy hya
  have hb0 : Below w.heap.size w (w.alloc (.cells #[.string nm, .slice ca cs.length cc, .slice ta tn tc, .slice ra rn rc, .slice oa on oc, .slice ya yn yc, .slice qa qn qc] 29)) := (Below.refl _ w).alloc (Nat.le_refl _) _
  have HB0 := Lib.hid hb0
  have HOP := Lib.hid (openClasses_opened cb co cc ca cs (w.alloc (.cells #[.string nm, .slice ca cs.length cc, .slice ta tn tc, .slice ra rn rc, .slice oa on oc, .slice ya yn yc, .slice qa qn qc] 29)) HCA.out (HCS.out.later hb0) hcl)
  clear hb0
  obtain ⟨E, hEE⟩ : ∃ E, lessT cs x y = E := ⟨_, rfl⟩
  rw [hEE]
  have HEE := Lib.hid hEE
  clear hEE
  go_enter Try.func16, Try.ntmps16
  go_wp2_with fail
  generalize (w.alloc (.cells #[.string nm, .slice ca cs.length cc, .slice ta tn tc, .slice ra rn rc, .slice oa on oc, .slice ya yn yc, .slice qa qn qc] 29)) = w1 at *
  refine HOP.out.mono ?_
  rintro e w2 (⟨hE, rfl, hb2⟩ | ⟨v, rfl, hop⟩)
  · have hR : E = false := by rw [← HEE.out]; unfold lessT; rw [show (openErr cs == 0) = false by simpa using hE, Bool.false_and]
    subst hR
    obtain ⟨F, hF⟩ : ∃ F, openErr cs = F := ⟨_, rfl⟩
    have q1 : (F == 0) = false := by rw [← hF]; simpa using hE
    have q2 : (F != 0) = true := by rw [← hF]; simpa using hE
    have HB2 := Lib.hid (HB0.out.trans (hb2.mono HB0.out.size))
    rw [hF]
    unfold zeroAlg
    clear hE hb2 hF
    have hb3 : Below w2.heap.size w2 (w2.alloc (.cells #[.slice none 0 0, .map none, .slice none 0 0, .slice none 0 0, .slice none 0 0, .map none, .map none] 70)) := (Below.refl _ _).alloc (Nat.le_refl _) _
    have HB3 := Lib.hid hb3
    clear hb3
    go_wp2_with fail
    go_ret
    exact ⟨rfl, HB2.out.trans (HB3.out.mono HB2.out.size)⟩
  · obtain ⟨hO, ⟨A, na, ua, aa, nl, nc, ul, uc, bc, mb, nm', ab, D, rfl, hat, haa, hmb, hab, hk, hbl⟩, hb2⟩ := hop
    have hkk : A.known = knownB cs := funext hk
    have hbe : A.below = belowB cs := funext fun x => funext fun y => hbl x y
    have hb3 : Below w2.heap.size w2 (w2.alloc (.cells #[.slice na nl nc, .map (some mb), .slice ua ul uc, .slice aa A.n bc, .slice none 0 0, .map none, .map none] 70)) := (Below.refl _ _).alloc (Nat.le_refl _) _
    have HB03 := Lib.hid ((HB0.out.trans (hb2.mono HB0.out.size)).trans (hb3.mono (Nat.le_trans HB0.out.size hb2.size)))
    have HNO := Lib.hid (less_any A na ua aa none nl nc ul uc bc 0 0 mb nm' ab 0 none none D xb xo xc yb yo zc xa za x y _ (hat.below hb3 hmb hab) haa (Nat.lt_of_lt_of_le hmb hb3.size) (Nat.lt_of_lt_of_le hab hb3.size) HXA.out HYA.out (HX.out.later HB03.out) (HY.out.later HB03.out) hlx hly)
    have hls : (x.all A.known && y.all fun c => x.any fun d => A.below d c) = lessT cs x y := by rw [hkk, hbe]; unfold lessT; rw [hO]; rfl
    rw [hls, HEE.out] at HNO
    have HWS := Lib.hid HB03.out.size
    clear hls hbe hkk hb3 hb2 hO hat haa hmb hab hk hbl
    go_wp2_with fail
    generalize (w2.alloc (.cells #[.slice na nl nc, .map (some mb), .slice ua ul uc, .slice aa A.n bc, .slice none 0 0, .map none, .map none] 70)) = w3 at *
    refine HNO.out.mono ?_
    rintro e w4 ⟨rfl, hb4⟩
    have HB4 := Lib.hid hb4
    clear hb4
    go_wp2_with fail
    go_ret
    exact ⟨rfl, HB03.out.trans (HB4.out.mono HWS.out)⟩
set_option maxRecDepth 100000 in
set_option maxHeartbeats 2000000 in
theorem sortBelow_full (nm : ByteArray) (ca ta ra oa ya qa : Option Addr) (cc tn tc rn rc on oc yn yc qn qc cb co : Nat) (cs : List Cls) (x y : ByteArray) (w : World)
    (hca : cs ≠ [] → ca = some ⟨cb, co, none⟩) (hcs : ClassesAt w cb co cs) (hcl : cs.length ≤ maxLen) (hx : x.size ≤ maxLen) (hy : y.size ≤ maxLen) :
    Calls Try.prog 14 #[.agg #[.string nm, .slice ca cs.length cc, .slice ta tn tc, .slice ra rn rc, .slice oa on oc, .slice ya yn yc, .slice qa qn qc], .string x, .string y] w fun e w' =>
      e = .returned (.bool (belowT cs x y)) ∧ Below w.heap.size w w' := by
  have HX := Lib.hid hx
  have HY := Lib.hid hy
  have HCS := Lib.hid hcs
  have HCA := Lib.hid hca
  clear hx hcs hca hy
  have hb0 : Below w.heap.size w (w.alloc (.cells #[.string nm, .slice ca cs.length cc, .slice ta tn tc, .slice ra rn rc, .slice oa on oc, .slice ya yn yc, .slice qa qn qc] 29)) := (Below.refl _ w).alloc (Nat.le_refl _) _
  have HB0 := Lib.hid hb0
  have HOP := Lib.hid (openClasses_opened cb co cc ca cs (w.alloc (.cells #[.string nm, .slice ca cs.length cc, .slice ta tn tc, .slice ra rn rc, .slice oa on oc, .slice ya yn yc, .slice qa qn qc] 29)) HCA.out (HCS.out.later hb0) hcl)
  clear hb0
  obtain ⟨E, hEE⟩ : ∃ E, belowT cs x y = E := ⟨_, rfl⟩
  rw [hEE]
  have HEE := Lib.hid hEE
  clear hEE
  go_enter Try.func14, Try.ntmps14
  go_wp2_with fail
  generalize (w.alloc (.cells #[.string nm, .slice ca cs.length cc, .slice ta tn tc, .slice ra rn rc, .slice oa on oc, .slice ya yn yc, .slice qa qn qc] 29)) = w1 at *
  refine HOP.out.mono ?_
  rintro e w2 (⟨hE, rfl, hb2⟩ | ⟨v, rfl, hop⟩)
  · have hR : E = false := by rw [← HEE.out]; unfold belowT; rw [show (openErr cs == 0) = false by simpa using hE, Bool.false_and]
    subst hR
    obtain ⟨F, hF⟩ : ∃ F, openErr cs = F := ⟨_, rfl⟩
    have q1 : (F == 0) = false := by rw [← hF]; simpa using hE
    have q2 : (F != 0) = true := by rw [← hF]; simpa using hE
    have HB2 := Lib.hid (HB0.out.trans (hb2.mono HB0.out.size))
    rw [hF]
    unfold zeroAlg
    clear hE hb2 hF
    have hb3 : Below w2.heap.size w2 (w2.alloc (.cells #[.slice none 0 0, .map none, .slice none 0 0, .slice none 0 0, .slice none 0 0, .map none, .map none] 70)) := (Below.refl _ _).alloc (Nat.le_refl _) _
    have HB3 := Lib.hid hb3
    clear hb3
    go_wp2_with fail
    go_ret
    exact ⟨rfl, HB2.out.trans (HB3.out.mono HB2.out.size)⟩
  · obtain ⟨hO, ⟨A, na, ua, aa, nl, nc, ul, uc, bc, mb, nm', ab, D, rfl, hat, haa, hmb, hab, hk, hbl⟩, hb2⟩ := hop
    have hkk : A.known = knownB cs := funext hk
    have hbe : A.below = belowB cs := funext fun x => funext fun y => hbl x y
    have hb3 : Below w2.heap.size w2 (w2.alloc (.cells #[.slice na nl nc, .map (some mb), .slice ua ul uc, .slice aa A.n bc, .slice none 0 0, .map none, .map none] 70)) := (Below.refl _ _).alloc (Nat.le_refl _) _
    have HB03 := Lib.hid ((HB0.out.trans (hb2.mono HB0.out.size)).trans (hb3.mono (Nat.le_trans HB0.out.size hb2.size)))
    have HNO := Lib.hid (below_any A na ua aa none nl nc ul uc bc 0 0 mb nm' ab 0 none none D x y _ (hat.below hb3 hmb hab) haa (Nat.lt_of_lt_of_le hmb hb3.size) (Nat.lt_of_lt_of_le hab hb3.size) HX.out HY.out)
    have hls : A.below x y = belowT cs x y := by rw [hbe]; unfold belowT; rw [hO]; rfl
    rw [hls, HEE.out] at HNO
    have HWS := Lib.hid HB03.out.size
    clear hls hbe hkk hb3 hb2 hO hat haa hmb hab hk hbl
    go_wp2_with fail
    generalize (w2.alloc (.cells #[.slice na nl nc, .map (some mb), .slice ua ul uc, .slice aa A.n bc, .slice none 0 0, .map none, .map none] 70)) = w3 at *
    refine HNO.out.mono ?_
    rintro e w4 ⟨rfl, hb4⟩
    have HB4 := Lib.hid hb4
    clear hb4
    go_wp2_with fail
    go_ret
    exact ⟨rfl, HB03.out.trans (HB4.out.mono HWS.out)⟩
end Go.Proofs.Ytlaibimdkamcfaa
