/-
  sort.Normal and sort.Less of a theory.
-/
import Derived.Test.YtlaibimdkamcfaaE3
namespace Go.Proofs.Ytlaibimdkamcfaa
open Go.RowKit Go.Maps

/-- The error of Normal in a theory with these classes. -/
noncomputable def normErr (cs : List Cls) (s : List ByteArray) : Int := if openErr cs = 0 then sortErr (knownB cs) s else openErr cs

/-- A theory as a value. -/
def thyV (nm : ByteArray) (ca ta ra oa ya qa : Option Addr) (cn cc tn tc rn rc on oc yn yc qn qc : Nat) : Value :=
  .agg #[.string nm, .slice ca cn cc, .slice ta tn tc, .slice ra rn rc, .slice oa on oc, .slice ya yn yc, .slice qa qn qc]

set_option maxRecDepth 100000 in
set_option maxHeartbeats 2000000 in
theorem sortNormal_any (nm : ByteArray) (ca ta ra oa ya qa : Option Addr) (cc tn tc rn rc on oc yn yc qn qc cb co : Nat) (cs : List Cls) (xb xo xc : Nat) (xa : Option Addr) (s : List ByteArray) (w : World)
    (hca : cs ≠ [] → ca = some ⟨cb, co, none⟩) (hcs : ClassesAt w cb co cs) (hcl : cs.length ≤ maxLen) (hxa : s ≠ [] → xa = some ⟨xb, xo, none⟩) (hx : StrsAt w xb xo s) (hl : s.length ≤ 9223372036854775807) :
    Calls Try.prog 20 #[.agg #[.string nm, .slice ca cs.length cc, .slice ta tn tc, .slice ra rn rc, .slice oa on oc, .slice ya yn yc, .slice qa qn qc], .slice xa s.length xc] w fun e w' =>
      ((normErr cs s ≠ 0 ∧ e = .returned (.tuple #[.slice none 0 0, .int .i64 (normErr cs s)])) ∨
       (normErr cs s = 0 ∧ ∃ (v : Value) (r : List ByteArray), e = .returned (.tuple #[v, .int .i64 0]) ∧ IsNormalOf ltS (belowB cs) s r ∧ w'.ownsRow w.heap.size 9 1 v r.length (r.map Value.string))) ∧ Below w.heap.size w w' := by
  have HX := Lib.hid hx
  have HXA := Lib.hid hxa
  have HCS := Lib.hid hcs
  have HCA := Lib.hid hca
  clear hx hxa hcs hca
  have hb0 : Below w.heap.size w (w.alloc (.cells #[.string nm, .slice ca cs.length cc, .slice ta tn tc, .slice ra rn rc, .slice oa on oc, .slice ya yn yc, .slice qa qn qc] 29)) := (Below.refl _ w).alloc (Nat.le_refl _) _
  have HB0 := Lib.hid hb0
  have HOP := Lib.hid (openClasses_opened cb co cc ca cs (w.alloc (.cells #[.string nm, .slice ca cs.length cc, .slice ta tn tc, .slice ra rn rc, .slice oa on oc, .slice ya yn yc, .slice qa qn qc] 29)) HCA.out (HCS.out.later hb0) hcl)
  clear hb0
  obtain ⟨E, hEE⟩ : ∃ E, normErr cs s = E := ⟨_, rfl⟩
  rw [hEE]
  have HEE := Lib.hid hEE
  clear hEE
  go_enter Try.func20, Try.ntmps20
  go_wp2_with fail
  generalize (w.alloc (.cells #[.string nm, .slice ca cs.length cc, .slice ta tn tc, .slice ra rn rc, .slice oa on oc, .slice ya yn yc, .slice qa qn qc] 29)) = w1 at *
  refine HOP.out.mono ?_
  rintro e w2 (⟨hE, rfl, hb2⟩ | ⟨v, rfl, hop⟩)
  · have hn : normErr cs s = openErr cs := by unfold normErr; rw [if_neg hE]
    have hE1 : (openErr cs == 0) = false := by simpa using hE
    have hE2 : (openErr cs != 0) = true := by simpa using hE
    have hEO : openErr cs = E := by rw [← hn]; exact HEE.out
    have HB2 := Lib.hid (HB0.out.trans (hb2.mono HB0.out.size))
    unfold zeroAlg
    rw [hEO] at hE1 hE2 hE ⊢
    have HNE := Lib.hid hE
    clear hn hE hb2 hEO
    have hb3 : Below w2.heap.size w2 (w2.alloc (.cells #[.slice none 0 0, .map none, .slice none 0 0, .slice none 0 0, .slice none 0 0, .map none, .map none] 70)) := (Below.refl _ _).alloc (Nat.le_refl _) _
    have HB3 := Lib.hid hb3
    clear hb3
    go_wp2_with fail
    go_ret2
    exact ⟨.inl ⟨HNE.out, rfl⟩, HB2.out.trans (HB3.out.mono HB2.out.size)⟩
  · obtain ⟨hO, ⟨A, na, ua, aa, nl, nc, ul, uc, bc, mb, nm', ab, D, rfl, hat, haa, hmb, hab, hk, hbl⟩, hb2⟩ := hop
    have hn : normErr cs s = sortErr (knownB cs) s := by unfold normErr; rw [if_pos hO]
    have hkk : A.known = knownB cs := funext hk
    have hbe : A.below = belowB cs := funext fun x => funext fun y => hbl x y
    have hb3 : Below w2.heap.size w2 (w2.alloc (.cells #[.slice na nl nc, .map (some mb), .slice ua ul uc, .slice aa A.n bc, .slice none 0 0, .map none, .map none] 70)) := (Below.refl _ _).alloc (Nat.le_refl _) _
    have HB03 := Lib.hid ((HB0.out.trans (hb2.mono HB0.out.size)).trans (hb3.mono (Nat.le_trans HB0.out.size hb2.size)))
    have HNO := Lib.hid (normal_any A na ua aa none nl nc ul uc bc 0 0 mb nm' ab 0 none none D xb xo xc xa s _ (hat.below hb3 hmb hab) haa (Nat.lt_of_lt_of_le hmb hb3.size) (Nat.lt_of_lt_of_le hab hb3.size) HXA.out (HX.out.later HB03.out) hl)
    rw [hkk, ← hn, hbe] at HNO
    rw [HEE.out] at HNO
    have HWS := Lib.hid HB03.out.size
    clear hn hbe hkk hb3 hb2 hO hat haa hmb hab hk hbl
    go_wp2_with fail
    generalize (w2.alloc (.cells #[.slice na nl nc, .map (some mb), .slice ua ul uc, .slice aa A.n bc, .slice none 0 0, .map none, .map none] 70)) = w3 at *
    refine HNO.out.mono ?_
    rintro e w4 ⟨(⟨hE, rfl⟩ | ⟨hE, v, r, rfl, hn, ho⟩), hb4⟩
    · have HE := Lib.hid hE
      have HB4 := Lib.hid hb4
      clear hE hb4
      go_wp2_with fail
      go_ret2
      exact ⟨.inl ⟨HE.out, rfl⟩, HB03.out.trans (HB4.out.mono HWS.out)⟩
    · have HE := Lib.hid hE
      have HB4 := Lib.hid hb4
      have HN := Lib.hid hn
      have HO := Lib.hid ho
      obtain ⟨a6, c6, rfl⟩ := own_slice ho
      clear hE hb4 hn ho
      go_wp2_with fail
      go_ret2
      exact ⟨.inr ⟨HE.out, _, r, rfl, HN.out, own_mono HO.out HWS.out⟩, HB03.out.trans (HB4.out.mono HWS.out)⟩

set_option maxRecDepth 100000 in
set_option maxHeartbeats 2000000 in
theorem sortLess_any (nm : ByteArray) (ca ta ra oa ya qa : Option Addr) (cc tn tc rn rc on oc yn yc qn qc cb co : Nat) (cs : List Cls) (xb xo xc yb yo zc : Nat) (xa za : Option Addr) (x y : List ByteArray) (w : World)
    (hca : cs ≠ [] → ca = some ⟨cb, co, none⟩) (hcs : ClassesAt w cb co cs) (hcl : cs.length ≤ maxLen) (hxa : x ≠ [] → xa = some ⟨xb, xo, none⟩) (hx : StrsAt w xb xo x) (hlx : x.length ≤ maxLen)
    (hya : y ≠ [] → za = some ⟨yb, yo, none⟩) (hy : StrsAt w yb yo y) (hly : y.length ≤ maxLen) (hO : openErr cs = 0) :
    Calls Try.prog 16 #[.agg #[.string nm, .slice ca cs.length cc, .slice ta tn tc, .slice ra rn rc, .slice oa on oc, .slice ya yn yc, .slice qa qn qc], .slice xa x.length xc, .slice za y.length zc] w fun e w' =>
      e = .returned (.bool (lessB (knownB cs) (belowB cs) x y)) ∧ Below w.heap.size w w' := by
  have HX := Lib.hid hx
  have HXA := Lib.hid hxa
  have HY := Lib.hid hy
  have HYA := Lib.hid hya
  have HCS := Lib.hid hcs
  have HCA := Lib.hid hca
  have HO := Lib.hid hO
  clear hx hxa hcs hca hO hy hya
  have hb0 : Below w.heap.size w (w.alloc (.cells #[.string nm, .slice ca cs.length cc, .slice ta tn tc, .slice ra rn rc, .slice oa on oc, .slice ya yn yc, .slice qa qn qc] 29)) := (Below.refl _ w).alloc (Nat.le_refl _) _
  have HB0 := Lib.hid hb0
  have HOP := Lib.hid (openClasses_opened cb co cc ca cs (w.alloc (.cells #[.string nm, .slice ca cs.length cc, .slice ta tn tc, .slice ra rn rc, .slice oa on oc, .slice ya yn yc, .slice qa qn qc] 29)) HCA.out (HCS.out.later hb0) hcl)
  clear hb0
  obtain ⟨E, hEE⟩ : ∃ E, lessB (knownB cs) (belowB cs) x y = E := ⟨_, rfl⟩
  rw [hEE]
  have HEE := Lib.hid hEE
  clear hEE
  go_enter Try.func16, Try.ntmps16
  go_wp2_with fail
  generalize (w.alloc (.cells #[.string nm, .slice ca cs.length cc, .slice ta tn tc, .slice ra rn rc, .slice oa on oc, .slice ya yn yc, .slice qa qn qc] 29)) = w1 at *
  refine HOP.out.mono ?_
  rintro e w2 (⟨hE, rfl, hb2⟩ | ⟨v, rfl, hop⟩)
  · exact absurd HO.out hE
  · obtain ⟨_, ⟨A, na, ua, aa, nl, nc, ul, uc, bc, mb, nm', ab, D, rfl, hat, haa, hmb, hab, hk, hbl⟩, hb2⟩ := hop
    have hkk : A.known = knownB cs := funext hk
    have hbe : A.below = belowB cs := funext fun x => funext fun y => hbl x y
    have hb3 : Below w2.heap.size w2 (w2.alloc (.cells #[.slice na nl nc, .map (some mb), .slice ua ul uc, .slice aa A.n bc, .slice none 0 0, .map none, .map none] 70)) := (Below.refl _ _).alloc (Nat.le_refl _) _
    have HB03 := Lib.hid ((HB0.out.trans (hb2.mono HB0.out.size)).trans (hb3.mono (Nat.le_trans HB0.out.size hb2.size)))
    have HNO := Lib.hid (less_any A na ua aa none nl nc ul uc bc 0 0 mb nm' ab 0 none none D xb xo xc yb yo zc xa za x y _ (hat.below hb3 hmb hab) haa (Nat.lt_of_lt_of_le hmb hb3.size) (Nat.lt_of_lt_of_le hab hb3.size) HXA.out HYA.out (HX.out.later HB03.out) (HY.out.later HB03.out) hlx hly)
    have hls : (x.all A.known && y.all fun c => x.any fun d => A.below d c) = lessB (knownB cs) (belowB cs) x y := by rw [hkk, hbe]; rfl
    rw [hls, HEE.out] at HNO
    have HWS := Lib.hid HB03.out.size
    clear hls hbe hkk hb3 hb2 hat haa hmb hab hk hbl
    go_wp2_with fail
    generalize (w2.alloc (.cells #[.slice na nl nc, .map (some mb), .slice ua ul uc, .slice aa A.n bc, .slice none 0 0, .map none, .map none] 70)) = w3 at *
    refine HNO.out.mono ?_
    rintro e w4 ⟨rfl, hb4⟩
    have HB4 := Lib.hid hb4
    clear hb4
    go_wp2_with fail
    go_ret
    exact ⟨rfl, HB03.out.trans (HB4.out.mono HWS.out)⟩
end Go.Proofs.Ytlaibimdkamcfaa
