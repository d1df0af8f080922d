import Derived.Test.YtlaibimdkamcfaaG8
import Derived.BigQuiet
section
/-
  sort.Less and sort.Below of any theory.
-/
namespace Go.Proofs.Ytlaibimdkamcfaa
open Go.RowKit Go.Maps

set_option maxRecDepth 100000 in
set_option maxHeartbeats 2000000 in
theorem sortLess_full (nm : ByteArray) (ca ta ra oa ya qa : Option Addr) (cc tn tc rn rc on oc yn yc qn qc cb co : Nat) (cs : List Cls) (xb xo xc yb yo zc : Nat) (xa za : Option Addr) (x y : List ByteArray) (w : World)
    (hca : cs ≠ [] → ca = some ⟨cb, co, none⟩) (hcs : ClassesAt w cb co cs) (hcl : cs.length ≤ maxLen) (hxa : x ≠ [] → xa = some ⟨xb, xo, none⟩) (hx : StrsAt w xb xo x) (hlx : x.length ≤ maxLen)
    (hya : y ≠ [] → za = some ⟨yb, yo, none⟩) (hy : StrsAt w yb yo y) (hly : y.length ≤ maxLen) :
    Calls Try.prog 16 #[.agg #[.string nm, .slice ca cs.length cc, .slice ta tn tc, .slice ra rn rc, .slice oa on oc, .slice ya yn yc, .slice qa qn qc], .slice xa x.length xc, .slice za y.length zc] w fun e w' =>
      e = .returned (.bool (lessT cs x y)) ∧ Below w.heap.size w w' := by
  have HX := Lib.hid hx
  have HXA := Lib.hid hxa
  have HY := Lib.hid hy
  have HYA := Lib.hid hya
  have HCS := Lib.hid hcs
  have HCA := Lib.hid hca
  clear hx hxa hcs hca hy hya
  have hb0 : Below w.heap.size w (w.alloc (.cells #[.string nm, .slice ca cs.length cc, .slice ta tn tc, .slice ra rn rc, .slice oa on oc, .slice ya yn yc, .slice qa qn qc] 29)) := (Below.refl _ w).alloc (Nat.le_refl _) _
  have HB0 := Lib.hid hb0
  have HOP := Lib.hid (openClasses_opened cb co cc ca cs (w.alloc (.cells #[.string nm, .slice ca cs.length cc, .slice ta tn tc, .slice ra rn rc, .slice oa on oc, .slice ya yn yc, .slice qa qn qc] 29)) HCA.out (HCS.out.later hb0) hcl)
  clear hb0
  obtain ⟨E, hEE⟩ : ∃ E, lessT cs x y = E := ⟨_, rfl⟩
  rw [hEE]
  have HEE := Lib.hid hEE
  clear hEE
  go_enter Try.func16, Try.ntmps16
  go_wp2_with fail
  generalize (w.alloc (.cells #[.string nm, .slice ca cs.length cc, .slice ta tn tc, .slice ra rn rc, .slice oa on oc, .slice ya yn yc, .slice qa qn qc] 29)) = w1 at *
  refine HOP.out.mono ?_
  rintro e w2 (⟨hE, rfl, hb2⟩ | ⟨v, rfl, hop⟩)
  · have hR : E = false := by rw [← HEE.out]; unfold lessT; rw [show (openErr cs == 0) = false by simpa using hE, Bool.false_and]
    subst hR
    obtain ⟨F, hF⟩ : ∃ F, openErr cs = F := ⟨_, rfl⟩
    have q1 : (F == 0) = false := by rw [← hF]; simpa using hE
    have q2 : (F != 0) = true := by rw [← hF]; simpa using hE
    have HB2 := Lib.hid (HB0.out.trans (hb2.mono HB0.out.size))
    rw [hF]
    unfold zeroAlg
    clear hE hb2 hF
    have hb3 : Below w2.heap.size w2 (w2.alloc (.cells #[.slice none 0 0, .map none, .slice none 0 0, .slice none 0 0, .slice none 0 0, .map none, .map none] 70)) := (Below.refl _ _).alloc (Nat.le_refl _) _
    have HB3 := Lib.hid hb3
    clear hb3
    go_wp2_with fail
    go_ret
    exact ⟨rfl, HB2.out.trans (HB3.out.mono HB2.out.size)⟩
  · obtain ⟨hO, ⟨A, na, ua, aa, nl, nc, ul, uc, bc, mb, nm', ab, D, rfl, hat, haa, hmb, hab, hk, hbl⟩, hb2⟩ := hop
    have hkk : A.known = knownB cs := funext hk
    have hbe : A.below = belowB cs := funext fun x => funext fun y => hbl x y
    have hb3 : Below w2.heap.size w2 (w2.alloc (.cells #[.slice na nl nc, .map (some mb), .slice ua ul uc, .slice aa A.n bc, .slice none 0 0, .map none, .map none] 70)) := (Below.refl _ _).alloc (Nat.le_refl _) _
    have HB03 := Lib.hid ((HB0.out.trans (hb2.mono HB0.out.size)).trans (hb3.mono (Nat.le_trans HB0.out.size hb2.size)))
    have HNO := Lib.hid (less_any A na ua aa none nl nc ul uc bc 0 0 mb nm' ab 0 none none D xb xo xc yb yo zc xa za x y _ (hat.below hb3 hmb hab) haa (Nat.lt_of_lt_of_le hmb hb3.size) (Nat.lt_of_lt_of_le hab hb3.size) HXA.out HYA.out (HX.out.later HB03.out) (HY.out.later HB03.out) hlx hly)
    have hls : (x.all A.known && y.all fun c => x.any fun d => A.below d c) = lessT cs x y := by rw [hkk, hbe]; unfold lessT; rw [hO]; rfl
    rw [hls, HEE.out] at HNO
    have HWS := Lib.hid HB03.out.size
    clear hls hbe hkk hb3 hb2 hO hat haa hmb hab hk hbl
    go_wp2_with fail
    generalize (w2.alloc (.cells #[.slice na nl nc, .map (some mb), .slice ua ul uc, .slice aa A.n bc, .slice none 0 0, .map none, .map none] 70)) = w3 at *
    refine HNO.out.mono ?_
    rintro e w4 ⟨rfl, hb4⟩
    have HB4 := Lib.hid hb4
    clear hb4
    go_wp2_with fail
    go_ret
    exact ⟨rfl, HB03.out.trans (HB4.out.mono HWS.out)⟩
set_option maxRecDepth 100000 in
set_option maxHeartbeats 2000000 in
theorem sortBelow_full (nm : ByteArray) (ca ta ra oa ya qa : Option Addr) (cc tn tc rn rc on oc yn yc qn qc cb co : Nat) (cs : List Cls) (x y : ByteArray) (w : World)
    (hca : cs ≠ [] → ca = some ⟨cb, co, none⟩) (hcs : ClassesAt w cb co cs) (hcl : cs.length ≤ maxLen) (hx : x.size ≤ maxLen) (hy : y.size ≤ maxLen) :
    Calls Try.prog 14 #[.agg #[.string nm, .slice ca cs.length cc, .slice ta tn tc, .slice ra rn rc, .slice oa on oc, .slice ya yn yc, .slice qa qn qc], .string x, .string y] w fun e w' =>
      e = .returned (.bool (belowT cs x y)) ∧ Below w.heap.size w w' := by
  have HX := Lib.hid hx
  have HY := Lib.hid hy
  have HCS := Lib.hid hcs
  have HCA := Lib.hid hca
  clear hx hcs hca hy
  have hb0 : Below w.heap.size w (w.alloc (.cells #[.string nm, .slice ca cs.length cc, .slice ta tn tc, .slice ra rn rc, .slice oa on oc, .slice ya yn yc, .slice qa qn qc] 29)) := (Below.refl _ w).alloc (Nat.le_refl _) _
  have HB0 := Lib.hid hb0
  have HOP := Lib.hid (openClasses_opened cb co cc ca cs (w.alloc (.cells #[.string nm, .slice ca cs.length cc, .slice ta tn tc, .slice ra rn rc, .slice oa on oc, .slice ya yn yc, .slice qa qn qc] 29)) HCA.out (HCS.out.later hb0) hcl)
  clear hb0
  obtain ⟨E, hEE⟩ : ∃ E, belowT cs x y = E := ⟨_, rfl⟩
  rw [hEE]
  have HEE := Lib.hid hEE
  clear hEE
  go_enter Try.func14, Try.ntmps14
  go_wp2_with fail
  generalize (w.alloc (.cells #[.string nm, .slice ca cs.length cc, .slice ta tn tc, .slice ra rn rc, .slice oa on oc, .slice ya yn yc, .slice qa qn qc] 29)) = w1 at *
  refine HOP.out.mono ?_
  rintro e w2 (⟨hE, rfl, hb2⟩ | ⟨v, rfl, hop⟩)
  · have hR : E = false := by rw [← HEE.out]; unfold belowT; rw [show (openErr cs == 0) = false by simpa using hE, Bool.false_and]
    subst hR
    obtain ⟨F, hF⟩ : ∃ F, openErr cs = F := ⟨_, rfl⟩
    have q1 : (F == 0) = false := by rw [← hF]; simpa using hE
    have q2 : (F != 0) = true := by rw [← hF]; simpa using hE
    have HB2 := Lib.hid (HB0.out.trans (hb2.mono HB0.out.size))
    rw [hF]
    unfold zeroAlg
    clear hE hb2 hF
    have hb3 : Below w2.heap.size w2 (w2.alloc (.cells #[.slice none 0 0, .map none, .slice none 0 0, .slice none 0 0, .slice none 0 0, .map none, .map none] 70)) := (Below.refl _ _).alloc (Nat.le_refl _) _
    have HB3 := Lib.hid hb3
    clear hb3
    go_wp2_with fail
    go_ret
    exact ⟨rfl, HB2.out.trans (HB3.out.mono HB2.out.size)⟩
  · obtain ⟨hO, ⟨A, na, ua, aa, nl, nc, ul, uc, bc, mb, nm', ab, D, rfl, hat, haa, hmb, hab, hk, hbl⟩, hb2⟩ := hop
    have hkk : A.known = knownB cs := funext hk
    have hbe : A.below = belowB cs := funext fun x => funext fun y => hbl x y
    have hb3 : Below w2.heap.size w2 (w2.alloc (.cells #[.slice na nl nc, .map (some mb), .slice ua ul uc, .slice aa A.n bc, .slice none 0 0, .map none, .map none] 70)) := (Below.refl _ _).alloc (Nat.le_refl _) _
    have HB03 := Lib.hid ((HB0.out.trans (hb2.mono HB0.out.size)).trans (hb3.mono (Nat.le_trans HB0.out.size hb2.size)))
    have HNO := Lib.hid (below_any A na ua aa none nl nc ul uc bc 0 0 mb nm' ab 0 none none D x y _ (hat.below hb3 hmb hab) haa (Nat.lt_of_lt_of_le hmb hb3.size) (Nat.lt_of_lt_of_le hab hb3.size) HX.out HY.out)
    have hls : A.below x y = belowT cs x y := by rw [hbe]; unfold belowT; rw [hO]; rfl
    rw [hls, HEE.out] at HNO
    have HWS := Lib.hid HB03.out.size
    clear hls hbe hkk hb3 hb2 hO hat haa hmb hab hk hbl
    go_wp2_with fail
    generalize (w2.alloc (.cells #[.slice na nl nc, .map (some mb), .slice ua ul uc, .slice aa A.n bc, .slice none 0 0, .map none, .map none] 70)) = w3 at *
    refine HNO.out.mono ?_
    rintro e w4 ⟨rfl, hb4⟩
    have HB4 := Lib.hid hb4
    clear hb4
    go_wp2_with fail
    go_ret
    exact ⟨rfl, HB03.out.trans (HB4.out.mono HWS.out)⟩
end Go.Proofs.Ytlaibimdkamcfaa
end

section
/-
  Algebra.IsNormal.
-/
namespace Go.Proofs.Ytlaibimdkamcfaa
open Go.RowKit Go.Maps

set_option maxRecDepth 100000 in
set_option maxHeartbeats 2000000 in
theorem asks_normal (A : Alg) (na ua aa ta : Option Addr) (nl nc ul uc bc tl tc mb nm ab ao : Nat) (tm sm : Option Nat) (D : DataW Unit) (ga gc : Nat) (y : ByteArray) (w : World) (h : AlgAt A w mb nm ab ao D) (haa : 0 < A.n → aa = some ⟨ab, ao, none⟩) (hm : mb < w.heap.size) (ha : ab < w.heap.size) (hga : ga < w.heap.size) (hgc : gc < w.heap.size)
    (ca : w.heap[ga]? = some (.cells #[.slice na nl nc, .map (some mb), .slice ua ul uc, .slice aa A.n bc, .slice ta tl tc, .map tm, .map sm] 70 (0, 0)))
    (cc : w.cell? ⟨gc, 0, none⟩ = some (.string y)) (hy : y.size ≤ maxLen) :
    Asks w 99 #[.pointer (some ⟨gc, 0, none⟩), .pointer (some ⟨ga, 0, none⟩)] (fun d => !(d.toList == y.toList) && A.below d y) := by
  intro x W hx hb
  have HB := Lib.hid (below_any A na ua aa ta nl nc ul uc bc tl tc mb nm ab ao tm sm D x y W (h.below hb hm ha) haa (Nat.lt_of_lt_of_le hm hb.size) (Nat.lt_of_lt_of_le ha hb.size) hx hy)
  have c1 := (hb.block ga hga).trans ca
  have d0 : W.cell? ⟨ga, 0, none⟩ = some (.slice na nl nc) := by simp [World.cell?, c1]
  have d1 : W.cell? ⟨ga, 1, none⟩ = some (.map (some mb)) := by simp [World.cell?, c1]
  have d2 : W.cell? ⟨ga, 2, none⟩ = some (.slice ua ul uc) := by simp [World.cell?, c1]
  have d3 : W.cell? ⟨ga, 3, none⟩ = some (.slice aa A.n bc) := by simp [World.cell?, c1]
  have d4 : W.cell? ⟨ga, 4, none⟩ = some (.slice ta tl tc) := by simp [World.cell?, c1]
  have d5 : W.cell? ⟨ga, 5, none⟩ = some (.map tm) := by simp [World.cell?, c1]
  have d6 : W.cell? ⟨ga, 6, none⟩ = some (.map sm) := by simp [World.cell?, c1]
  have c2 := (hb.cell (p := ⟨gc, 0, none⟩) hgc).trans cc
  clear h ca cc c1
  show Calls Try.prog 99 #[.string x, .pointer (some ⟨gc, 0, none⟩), .pointer (some ⟨ga, 0, none⟩)] W _
  go_enter Try.func99, Try.ntmps99
  rcases hne : (!(x.toList == y.toList)) with _ | _
  · go_wp2_with fail
    go_ret
    exact ⟨rfl, Below.refl _ _⟩
  · go_wp2_with fail
    refine HB.out.mono ?_
    rintro e w' ⟨rfl, hb'⟩
    go_wp2_with fail
    go_ret
    exact ⟨rfl, hb'⟩

/-- What IsNormal asks of classes that exist. -/
def NormA (A : Alg) (x : List ByteArray) : Prop := x.Pairwise ltS ∧ ∀ c, c ∈ x → IsLeast A.below x c

theorem any_least {A : Alg} {x : List ByteArray} {c : ByteArray} (hc : c ∈ x) : (x.any fun d => !(d.toList == c.toList) && A.below d c) = false ↔ IsLeast A.below x c := by
  rw [List.any_eq_false]
  constructor
  · intro h
    refine ⟨hc, fun d hd hb => Classical.byContradiction fun hn => h d hd ?_⟩
    rw [hb, toList_beq, decide_eq_false hn]; rfl
  · rintro ⟨_, h⟩ d hd hn
    rw [Bool.and_eq_true, toList_beq] at hn
    have := h d hd hn.2
    rw [decide_eq_true this] at hn
    cases hn.1

theorem pairwise_snoc {x : List ByteArray} {i : Nat} (hi : i + 1 < x.length) (h : (x.take (i + 1)).Pairwise ltS) (hl : ltS x[i] x[i + 1]) : (x.take (i + 2)).Pairwise ltS := by
  rw [← List.take_append_getElem hi, List.pairwise_append]
  refine ⟨h, List.pairwise_singleton _ _, fun a ha b hb => ?_⟩
  rw [List.mem_singleton.1 hb]
  have h' := h
  rw [← List.take_append_getElem (show i < x.length by omega), List.pairwise_append] at h'
  rw [← List.take_append_getElem (show i < x.length by omega), List.mem_append, List.mem_singleton] at ha
  rcases ha with ha | rfl
  · exact ltS_trans _ _ _ (h'.2.2 a ha _ (List.mem_singleton.2 rfl)) hl
  · exact hl

theorem not_pairwise {x : List ByteArray} {i : Nat} (hi : i + 1 < x.length) (hl : ¬ ltS x[i] x[i + 1]) : ¬ x.Pairwise ltS := fun h => hl (List.pairwise_iff_getElem.1 h i (i + 1) (by omega) hi (by omega))

set_option maxRecDepth 100000 in
set_option maxHeartbeats 4000000 in
theorem isNormal_any (A : Alg) (na ua aa ta : Option Addr) (nl nc ul uc bc tl tc mb nm ab ao : Nat) (tm sm : Option Nat) (D : DataW Unit) (xc : Nat) (xa : Option Addr) (x : List ByteArray) (w : World) (h : AlgAt A w mb nm ab ao D) (haa : 0 < A.n → aa = some ⟨ab, ao, none⟩) (hm : mb < w.heap.size) (ha : ab < w.heap.size) (hx : SortAt w xa x) (hl : x.length ≤ 20) :
    Calls Try.prog 93 #[.agg #[.slice na nl nc, .map (some mb), .slice ua ul uc, .slice aa A.n bc, .slice ta tl tc, .map tm, .map sm], .slice xa x.length xc] w fun e w' => (∃ B, e = .returned (.bool B) ∧ (B = true ↔ NormA A x)) ∧ Below w.heap.size w w' := by
  have hb0 : Below w.heap.size w (w.alloc (.cells #[.slice na nl nc, .map (some mb), .slice ua ul uc, .slice aa A.n bc, .slice ta tl tc, .map tm, .map sm] 70)) := (Below.refl _ w).alloc (Nat.le_refl _) _
  have hc0 := heap_alloc_new w (.cells #[.slice na nl nc, .map (some mb), .slice ua ul uc, .slice aa A.n bc, .slice ta tl tc, .map tm, .map sm] 70)
  have hs0 : (w.alloc (.cells #[.slice na nl nc, .map (some mb), .slice ua ul uc, .slice aa A.n bc, .slice ta tl tc, .map tm, .map sm] 70)).heap.size = w.heap.size + 1 := by simp
  have HX := Lib.hid (hx.later hb0)
  have HSX := Lib.hid hx.size
  have HA := Lib.hid h
  have HAA := Lib.hid haa
  have HB0 := Lib.hid hb0
  have HC0 := Lib.hid hc0
  have HS0 := Lib.hid hs0
  clear h haa hb0 hc0 hs0 hx
  go_enter Try.func93, Try.ntmps93
  go_wp2_with fail
  generalize (w.alloc (.cells #[.slice na nl nc, .map (some mb), .slice ua ul uc, .slice aa A.n bc, .slice ta tl tc, .map tm, .map sm] 70)) = w1 at *
  obtain ⟨ga, hga⟩ : ∃ q, w.heap.size = q := ⟨_, rfl⟩
  rw [hga] at HC0 HS0
  have HGA := Lib.hid hga
  clear hga
  rw [HGA.out]
  go_loopw [9] (fun t wr => ∃ i : Nat, t = .int .i64 i ∧ i ≤ x.length ∧ (x.take i).Pairwise ltS ∧ (∀ c, c ∈ x.take i → IsLeast A.below x c) ∧ Below w1.heap.size w1 wr) (fun t _ => x.length - (intOf t).toNat)
  case atStart => exact ⟨0, rfl, Nat.zero_le _, by simp, by simp, Below.refl _ _⟩
  case round =>
    obtain ⟨i, rfl, hi, hp, hq, hb⟩ := hrel
    have HP := Lib.hid hp
    have HQ := Lib.hid hq
    have HB := Lib.hid hb
    have HBW := Lib.hid (HB0.out.trans (hb.mono HB0.out.size))
    clear hp hq hb
    by_cases hlt : i < x.length
    · obtain ⟨xb, xo, hxa, hxs, _⟩ := HX.out.later HB.out
      have e := hxa (by intro e; subst e; simp at hlt)
      subst e
      have hc := hxs.cell i hlt
      have HXS := Lib.hid hxs
      have HZ := Lib.hid (HSX.out _ (List.getElem_mem hlt))
      have HM := Lib.hid (List.getElem_mem hlt)
      have h3 : Below wr.heap.size wr (wr.alloc (.cells #[.string x[i]] 9)) := (Below.refl _ wr).alloc (Nat.le_refl _) _
      have hn3 := heap_alloc_new wr (.cells #[.string x[i]] 9)
      have hc3 : (wr.alloc (.cells #[.string x[i]] 9)).cell? ⟨wr.heap.size, 0, none⟩ = some (.string x[i]) := by rw [Lib.cell_of_heap hn3]; rfl
      have hs3 : (wr.alloc (.cells #[.string x[i]] 9)).heap.size = wr.heap.size + 1 := by simp
      obtain ⟨w5, hw5⟩ : ∃ q, wr.alloc (.cells #[.string x[i]] 9) = q := ⟨_, rfl⟩
      rw [hw5] at h3 hn3 hc3 hs3
      have HW5 := Lib.hid hw5
      have H15 := Lib.hid (HB.out.trans (h3.mono HB.out.size))
      have H05 := Lib.hid (HB0.out.trans (H15.out.mono HB0.out.size))
      have HXS5 := Lib.hid (hxs.later h3)
      have HC3 := Lib.hid hc3
      have HS3 := Lib.hid hs3
      have HK := Lib.hid (fun nq => containsFunc_any xb xo xc 99 (some ⟨xb, xo, none⟩) #[.pointer (some ⟨wr.heap.size, 0, none⟩), .pointer (some ⟨ga, 0, none⟩)] (fun d => !(d.toList == x[i].toList) && A.below d x[i]) x (w5.drewN nq) (fun _ => rfl) (hxs.later (below_draws nq h3)) (by unfold maxLen; omega)
        (asks_normal A na ua aa ta nl nc ul uc bc tl tc mb nm ab ao tm sm D ga wr.heap.size x[i] (w5.drewN nq) (HA.out.below (below_draws nq H05.out) hm ha) HAA.out (Nat.lt_of_lt_of_le hm H05.out.size) (Nat.lt_of_lt_of_le ha H05.out.size) (by show ga < w5.heap.size; have := HS0.out; have := H15.out.size; omega) (by show wr.heap.size < w5.heap.size; rw [hs3]; omega) ((below_draws nq H15.out).block ga (by rw [HS0.out]; omega) |>.trans HC0.out) hc3 HZ.out)
        (fun _ _ => rfl))
      have HANY := Lib.hid (any_least (A := A) HM.out)
      have hcx : wr.cell? ⟨xb, xo + i, none⟩ = some (.string x[i]) := hc
      clear h3 hn3 hc3 hs3 hw5 hxs hxa
      obtain ⟨B, hB⟩ : ∃ B, (x.any fun d => !(d.toList == x[i].toList) && A.below d x[i]) = B := ⟨_, rfl⟩
      rw [hB] at HANY
      simp only [hB] at HK
      clear hB
      cases i with
      | zero =>
        have hc0 : wr.cell? ⟨xb, xo, none⟩ = some (.string x[0]) := hc
        have HPN := Lib.hid (show (x.take (0 + 1)).Pairwise ltS by rw [← List.take_append_getElem hlt]; simp)
        go_wp2_with fail
        rw [HW5.out]
        go_quiet (fail)
        go_wp2_with fail
        refine (HK.out _).mono ?_
        rintro e w6 ⟨rfl, hb6⟩
        have HB6 := Lib.hid ((below_draws _ H15.out).trans (hb6.mono H15.out.size))
        have HB6W := Lib.hid ((below_draws _ H05.out).trans (hb6.mono H05.out.size))
        clear hb6
        cases B with
        | true =>
          have HNO := Lib.hid (show ¬ NormA A x from fun hn => by have := HANY.out.2 (hn.2 _ HM.out); cases this)
          go_wp2_with fail
          go_ret
          exact ⟨⟨false, rfl, ⟨fun h => (by cases h), fun h => absurd h HNO.out⟩⟩, HB6W.out⟩
        | false =>
          have HLE := Lib.hid (HANY.out.1 rfl)
          go_wp2_with fail
          refine ⟨⟨0 + 1, by rfl, by omega, ?_, fun c hc => ?_, HB6.out⟩, ?_⟩
          · exact HPN.out
          · rw [← List.take_append_getElem hlt, List.mem_append, List.mem_singleton] at hc
            rcases hc with hc | rfl
            · exact HQ.out c hc
            · exact HLE.out
          · show x.length - (((0 : Nat) : Int) + 1).toNat < x.length - ((0 : Nat) : Int).toNat
            omega
      | succ q =>
        have hq1 : q < x.length := by omega
        have hcq : wr.cell? ⟨xb, xo + q, none⟩ = some (.string x[q]) := HXS.out.cell q hq1
        have hcq5 : w5.cell? ⟨xb, xo + q, none⟩ = some (.string x[q]) := HXS5.out.cell q hq1
        have hc5 : w5.cell? ⟨wr.heap.size, 0, none⟩ = some (.string x[q + 1]) := HC3.out
        have hbl := bytesLess_ltS x[q] x[q + 1]
        cases hbb : Op.bytesLess x[q].toList x[q + 1].toList with
        | true =>
          have HPN := Lib.hid (pairwise_snoc hlt HP.out (hbl.1 hbb))
          clear hbl
          go_wp2_with fail
          rw [HW5.out]
          go_quiet (fail)
          go_wp2_with fail
          refine (HK.out _).mono ?_
          rintro e w6 ⟨rfl, hb6⟩
          have HB6 := Lib.hid ((below_draws _ H15.out).trans (hb6.mono H15.out.size))
          have HB6W := Lib.hid ((below_draws _ H05.out).trans (hb6.mono H05.out.size))
          clear hb6
          cases B with
          | true =>
            have HNO := Lib.hid (show ¬ NormA A x from fun hn => by have := HANY.out.2 (hn.2 _ HM.out); cases this)
            go_wp2_with fail
            go_ret
            exact ⟨⟨false, rfl, ⟨fun h => (by cases h), fun h => absurd h HNO.out⟩⟩, HB6W.out⟩
          | false =>
            have HLE := Lib.hid (HANY.out.1 rfl)
            go_wp2_with fail
            refine ⟨⟨(q + 1) + 1, by simp only [Int.natCast_add, Int.natCast_one], by omega, ?_, fun c hc => ?_, HB6.out⟩, ?_⟩
            · exact HPN.out
            · rw [← List.take_append_getElem hlt, List.mem_append, List.mem_singleton] at hc
              rcases hc with hc | rfl
              · exact HQ.out c hc
              · exact HLE.out
            · show x.length - ((((q + 1) : Nat) : Int) + 1).toNat < x.length - (((q + 1) : Nat) : Int).toNat
              omega
        | false =>
          have HNO := Lib.hid (show ¬ NormA A x from fun hn => not_pairwise hlt (fun h => by have := hbl.2 h; rw [hbb] at this; cases this) hn.1)
          clear hbl
          go_wp2_with fail
          rw [HW5.out]
          go_quiet (fail)
          go_wp2_with fail
          go_ret
          exact ⟨⟨false, rfl, ⟨fun h => (by cases h), fun h => absurd h HNO.out⟩⟩, below_draws _ H05.out⟩
    · have ht : x.take i = x := List.take_of_length_le (by omega)
      have h1 := HP.out
      have h2 := HQ.out
      rw [ht] at h1 h2
      have HN := Lib.hid (show NormA A x from ⟨h1, h2⟩)
      clear ht h1 h2
      go_wp2_with fail
      go_ret
      exact ⟨⟨true, rfl, ⟨fun _ => HN.out, fun _ => rfl⟩⟩, HBW.out⟩
end Go.Proofs.Ytlaibimdkamcfaa
end

