import Derived.Test.YtlaibimdkamcfaaK11
/-
  The reference's first.
-/
namespace Go.Proofs.Ytlaibimdkamcfaa
open Go.RowKit Go.Maps Go.WideMaps

def RFirstOK (nm : ByteArray) (ca ta ra oa ya qa : Option Addr) (cc tc rc on oc yn yc qn qc : Nat) (cs : List Cls) (ts : List TD) (l : List Ari) (W0 : World) (d : Nat) : Prop :=
  ∀ (sa : Option Addr) (s : List ByteArray) (sc : Nat) (w : World), Below W0.heap.size W0 w → SortAt w sa s → s.length ≤ 25 → (∀ c, c ∈ s → knownB cs c = true) →
    Calls Try.prog 59 #[.agg #[.string nm, .slice ca cs.length cc, .slice ta ts.length tc, .slice ra l.length rc, .slice oa on oc, .slice ya yn yc, .slice qa qn qc], .slice sa s.length sc, .int .i64 d] w fun e w' => Below w.heap.size w w' ∧
      ∃ (p : Int) (n : ByteArray) (q : Int) (xa ya : Option Addr) (xn xc yn yc : Nat) (ok : Bool), e = .returned (.tuple #[.agg #[.int .i64 p, .string n, .int .i64 q, .slice xa xn xc, .slice ya yn yc], .bool ok]) ∧
        ((ok = true ∧ Rep cs ts l (fun b => w.heap.size ≤ b) w' d s (.agg #[.int .i64 p, .string n, .int .i64 q, .slice xa xn xc, .slice ya yn yc])) ∨ (ok = false ∧ ¬ Gr cs ts l d s ∧ Value.agg #[.int .i64 p, .string n, .int .i64 q, .slice xa xn xc, .slice ya yn yc] = zeroT))

set_option maxRecDepth 100000 in
set_option maxHeartbeats 4000000 in
theorem rfirst_any {nm : ByteArray} {ca ta ra oa ya qa : Option Addr} {cc tc rc on oc yn yc qn qc cb co tb to rb ro : Nat} {cs : List Cls} {ts : List TD} {l : List Ari} {g : Nat} {W0 : World} (h : ThyF nm ca ta ra oa ya qa cc tc rc on oc yn yc qn qc cb co tb to rb ro cs ts l g W0) (hO : openErr cs = 0) (hT : typesErr ts = 0) (hA : arisErr cs ts l = 0) (hfew : cs.length ≤ 20) {d : Nat} (hd : d ≤ 5) (hF : RFirstOK nm ca ta ra oa ya qa cc tc rc on oc yn yc qn qc cs ts l W0 d) :
    RFirstOK nm ca ta ra oa ya qa cc tc rc on oc yn yc qn qc cs ts l W0 (d + 1) := by
  intro sa s sc w hb hs hl25 hk
  obtain ⟨D, hD⟩ : ∃ D : Int, ((d + 1 : Nat) : Int) = D := ⟨_, rfl⟩
  have hD0 : 0 < D := by rw [← hD]; omega
  have hwrap : IntKind.i64.wrap (D - 1) = (d : Int) := by rw [← hD]; simp [IntKind.wrap, IntKind.bits, IntKind.signed]; omega
  have hb1 : Below w.heap.size w ((w.alloc (.cells #[.string nm, .slice ca cs.length cc, .slice ta ts.length tc, .slice ra l.length rc, .slice oa on oc, .slice ya yn yc, .slice qa qn qc] 29)).alloc (.cells #[.int .i64 0, .string ⟨#[]⟩, .int .i64 0, .slice none 0 0, .slice none 0 0] 50)) := ((Below.refl _ w).alloc (Nat.le_refl _) _).alloc (by simp) _
  have n0 : ((w.alloc (.cells #[.string nm, .slice ca cs.length cc, .slice ta ts.length tc, .slice ra l.length rc, .slice oa on oc, .slice ya yn yc, .slice qa qn qc] 29)).alloc (.cells #[.int .i64 0, .string ⟨#[]⟩, .int .i64 0, .slice none 0 0, .slice none 0 0] 50)).heap[w.heap.size]? = some (.cells #[.string nm, .slice ca cs.length cc, .slice ta ts.length tc, .slice ra l.length rc, .slice oa on oc, .slice ya yn yc, .slice qa qn qc] 29 (0, 0)) := by rw [Below.heap_alloc _ _ _ (by simp)]; exact heap_alloc_new w _
  have n1 : ((w.alloc (.cells #[.string nm, .slice ca cs.length cc, .slice ta ts.length tc, .slice ra l.length rc, .slice oa on oc, .slice ya yn yc, .slice qa qn qc] 29)).alloc (.cells #[.int .i64 0, .string ⟨#[]⟩, .int .i64 0, .slice none 0 0, .slice none 0 0] 50)).heap[w.heap.size + 1]? = some (.cells #[.int .i64 0, .string ⟨#[]⟩, .int .i64 0, .slice none 0 0, .slice none 0 0] 50 (0, 0)) := Go.heap_alloc2_new w _ _
  have HS1 := Lib.hid (show ((w.alloc (.cells #[.string nm, .slice ca cs.length cc, .slice ta ts.length tc, .slice ra l.length rc, .slice oa on oc, .slice ya yn yc, .slice qa qn qc] 29)).alloc (.cells #[.int .i64 0, .string ⟨#[]⟩, .int .i64 0, .slice none 0 0, .slice none 0 0] 50)).heap.size = w.heap.size + 2 by simp)
  have HTH := Lib.hid ((h.later hb).boxed hb1 n0)
  have HB1 := Lib.hid hb1
  have HN1 := Lib.hid n1
  have HX := Lib.hid (hs.later hb1)
  have HBW := Lib.hid (hb.trans (hb1.mono hb.size))
  have HO := Lib.hid hO
  have HTE := Lib.hid hT
  have HAE := Lib.hid hA
  have HK := Lib.hid hk
  have htl := h.tyl
  rw [hD]
  have HDD := Lib.hid hD
  clear hb1 n0 n1 h hb hs hO hT hA hk hD
  go_enter Try.func59, Try.ntmps59
  go_wp2_with fail
  generalize ((w.alloc (.cells #[.string nm, .slice ca cs.length cc, .slice ta ts.length tc, .slice ra l.length rc, .slice oa on oc, .slice ya yn yc, .slice qa qn qc] 29)).alloc (.cells #[.int .i64 0, .string ⟨#[]⟩, .int .i64 0, .slice none 0 0, .slice none 0 0] 50)) = w1 at *
  obtain ⟨ga, hga⟩ : ∃ q, w.heap.size = q := ⟨_, rfl⟩
  rw [hga] at HTH HS1 HN1
  simp only [hga]
  have HGA := Lib.hid hga
  go_loopw [8] (fun t wr => ∃ k : Nat, t = .int .i64 k ∧ k ≤ ts.length ∧ (∀ j, j < k → ¬ OkAt cs ts l d (tdAt ts j).name s) ∧ Below w1.heap.size w1 wr) (fun t _ => ts.length - (intOf t).toNat)
  case atStart => exact ⟨0, rfl, Nat.zero_le _, fun j hj => by omega, Below.refl _ _⟩
  case round =>
    obtain ⟨k, rfl, hkl, hno, hb⟩ := hrel
    have HNO := Lib.hid hno
    have HB := Lib.hid hb
    have HTR := Lib.hid (HTH.out.later hb)
    have HXR := Lib.hid (HX.out.later hb)
    have HN1r := Lib.hid ((hb.block (ga + 1) (by rw [HS1.out]; omega)).trans HN1.out)
    have HSr := Lib.hid (show ga + 2 ≤ wr.heap.size by have := hb.size; rw [HS1.out] at this; exact this)
    obtain ⟨g0, g1, g2, g3, g4, g5, g6⟩ := HTR.out.at_.cells
    clear hno hb
    by_cases hlt : k < ts.length
    · have e := HTH.out.tya (by intro e; subst e; simp at hlt)
      subst e
      obtain ⟨hlb, t0, t1, tz, _⟩ := HTR.out.tys k hlt
      have HTD := Lib.hid (tdAt_eq hlt)
      obtain ⟨N, hN⟩ : ∃ N, ts[k].name = N := ⟨_, rfl⟩
      rw [hN] at t0 tz
      have HNN := Lib.hid (show (tdAt ts k).name = N by rw [HTD.out, hN])
      have HBW' := Lib.hid (HBW.out.trans (HB.out.mono HBW.out.size))
      have HND := Lib.hid (refNeeded_any (sc := sc) HTR.out HO.out HTE.out HAE.out N sa s wr.drew ((Below.refl wr.heap.size wr).drew) tz (HXR.out.later ((Below.refl wr.heap.size wr).drew)) HK.out hl25)
      have i0 : wr.drew.cell? ⟨ga, 0, none⟩ = _ := g0
      have i1 : wr.drew.cell? ⟨ga, 1, none⟩ = _ := g1
      have i2 : wr.drew.cell? ⟨ga, 2, none⟩ = _ := g2
      have i3 : wr.drew.cell? ⟨ga, 3, none⟩ = _ := g3
      have i4 : wr.drew.cell? ⟨ga, 4, none⟩ = _ := g4
      have i5 : wr.drew.cell? ⟨ga, 5, none⟩ = _ := g5
      have i6 : wr.drew.cell? ⟨ga, 6, none⟩ = _ := g6
      have i7 : wr.drew.cell? ⟨tb, to + k * 2, none⟩ = _ := t0
      have HT0 := Lib.hid t0
      have HLB := Lib.hid hlb
      clear hN hlb t1 tz
      go_wp2_with fail
      go_region_held3 (fun W => W.cell? ⟨tb, to + k * 2, none⟩ = some (.string N) ∧ W.cell? ⟨ga, 0, none⟩ = some (.string nm) ∧ W.cell? ⟨ga, 1, none⟩ = some (.slice ca cs.length cc) ∧ W.cell? ⟨ga, 2, none⟩ = some (.slice (some ⟨tb, to, none⟩) ts.length tc) ∧ W.cell? ⟨ga, 3, none⟩ = some (.slice ra l.length rc) ∧ W.cell? ⟨ga, 4, none⟩ = some (.slice oa on oc) ∧ W.cell? ⟨ga, 5, none⟩ = some (.slice ya yn yc) ∧ W.cell? ⟨ga, 6, none⟩ = some (.slice qa qn qc))
        (refine ⟨?_, ?_, ?_, ?_, ?_, ?_, ?_, ?_⟩ <;> assumption)
        ((go_at_call 56; refine HND.out.mono ?_; rintro e w4 ⟨hb4, hout⟩; obtain ⟨va, vn, vc, okn, rfl⟩ := hout.form; have hb4' : Below wr.heap.size wr w4 := ((Below.refl wr.heap.size wr).drew).trans hb4; obtain ⟨j0, j1, j2, j3, j4, j5, j6⟩ := (HTR.out.later hb4').at_.cells; have j7 := (hb4'.cell (p := ⟨tb, to + k * 2, none⟩) HLB.out).trans HT0.out))
      have HB4 := Lib.hid hb4'
      have HT4 := Lib.hid (HTR.out.later hb4')
      have HBT := Lib.hid (HB.out.trans (hb4'.mono HB.out.size))
      have HS4 := Lib.hid (show ga + 2 ≤ w4.heap.size by have := hb4'.size; have := HSr.out; omega)
      have b5 : Below w4.heap.size w4 (w4.alloc (.cells #[.int .i64 1, .string N, .int .i64 0, .slice none 0 0, .slice none 0 0] 50)) := (Below.refl _ _).alloc (Nat.le_refl _) _
      have HB5 := Lib.hid b5
      have HN3 := Lib.hid (heap_alloc_new w4 (.cells #[.int .i64 1, .string N, .int .i64 0, .slice none 0 0, .slice none 0 0] 50))
      have HN14 := Lib.hid ((hb4'.block (ga + 1) (by have := HSr.out; omega)).trans HN1r.out)
      clear hb4 hb4' b5 i0 i1 i2 i3 i4 i5 i6 i7 t0 g0 g1 g2 g3 g4 g5 g6
      rcases hout with ⟨hnoc, heq⟩ | ⟨hn1, hn2, U, v, heq, hSV, hUL, hUN⟩
      · cases heq
        have HNC := Lib.hid (show ¬ CanU ts l N s from hnoc)
        clear hnoc
        go_wp2_with fail
        generalize (w4.alloc (.cells #[.int .i64 1, .string N, .int .i64 0, .slice none 0 0, .slice none 0 0] 50)) = w5 at *
        go_loopw [10, 12] (fun o t wr => o = .bool false ∧ t = .int .i64 0 ∧ wr = w5) (fun _ _ _ => 0)
        case atStart => exact ⟨rfl, rfl, rfl⟩
        case round =>
          obtain ⟨rfl, rfl, rfl⟩ := hrel
          go_wp2_with fail
          refine ⟨⟨k + 1, by simp only [Int.natCast_add, Int.natCast_one], by omega, fun j hj => ?_, HBT.out.trans (HB5.out.mono HBT.out.size)⟩, ?_⟩
          · by_cases e : j = k
            · subst e; rw [HNN.out]; exact fun h => HNC.out h.1
            · exact HNO.out j (by omega)
          · show ts.length - ((k : Int) + 1).toNat < ts.length - ((k : Nat) : Int).toNat
            omega
      · obtain ⟨ua, ub, uo, uc, hv, hua, hus⟩ := hSV
        subst hv
        cases heq
        have HCAN := Lib.hid (show CanU ts l N s from ⟨hn1, hn2⟩)
        have HU := Lib.hid (argsU_eq hUL hUN)
        have hten := argsU_ten (cs := cs) HTE.out HCAN.out
        rw [← HU.out] at hten
        have HKN := Lib.hid (show ∀ u, u ∈ U → (∀ c, c ∈ u → knownB cs c = true) ∧ u.Pairwise ltS from fun u hu => argsU_known HAE.out HCAN.out (by rw [← HU.out]; exact hu))
        have HUA := Lib.hid hua
        have HUS := Lib.hid hus
        clear hn1 hn2 hUL hUN hua hus
        go_wp2_with fail
        generalize (w4.alloc (.cells #[.int .i64 1, .string N, .int .i64 0, .slice none 0 0, .slice none 0 0] 50)) = w5 at *
        obtain ⟨i50, hi50, hx0, hx1, hxb⟩ := info_parts Try.info50
        go_loopw [10, 12] (fun o t wr => ∃ (i : Nat) (okb : Bool) (aa : Option Addr) (ac : Nat) (xs : List Value), o = .bool okb ∧ t = .int .i64 i ∧ i ≤ U.length ∧ wr.heap[w4.heap.size]? = some (.cells #[.int .i64 1, .string N, .int .i64 0, .slice none 0 0, .slice aa i ac] 50 (0, 0)) ∧ wr.ownsRow (w4.heap.size + 1) 50 5 (.slice aa i ac) i xs ∧
            (okb = true → ∀ j (h : j < U.length), j < i → ∃ v0 v1 v2 v3 v4, xs[j * 5]? = some v0 ∧ xs[j * 5 + 1]? = some v1 ∧ xs[j * 5 + 2]? = some v2 ∧ xs[j * 5 + 3]? = some v3 ∧ xs[j * 5 + 4]? = some v4 ∧ Rep cs ts l (Apart (fun _ => False) ga (w4.heap.size + 1) (Value.slice aa i ac).ownBlock) wr d U[j] (.agg #[v0, v1, v2, v3, v4])) ∧
            (okb = false → ∃ u, u ∈ U ∧ ¬ Gr cs ts l d u) ∧ Below w4.heap.size w4 wr) (fun _ t _ => U.length - (intOf t).toNat)
        case atStart => exact ⟨0, true, none, 0, [], rfl, rfl, Nat.zero_le _, HN3.out, World.ownsRow_nil _ _ _ _, fun _ j _ h => by omega, fun h => (by cases h), HB5.out⟩
        case round =>
          obtain ⟨i, okb, aa, ac, xs, rfl, rfl, hi, hg3, how, hel, hng, hb'⟩ := hrel
          have HG3 := Lib.hid hg3
          have HOW := Lib.hid how
          have HEL := Lib.hid hel
          have HNG := Lib.hid hng
          have HBR := Lib.hid hb'
          have HTQ := Lib.hid (HT4.out.later (hb'))
          have HN1q := Lib.hid ((hb'.block (ga + 1) (by have := HS4.out; omega)).trans HN14.out)
          have HSQ := Lib.hid (show w4.heap.size + 1 ≤ wr.heap.size by have := (Array.getElem?_eq_some_iff.1 hg3).1; omega)
          clear hg3 how hel hng hb'
          cases okb with
          | false =>
            have HNK := Lib.hid (show ¬ OkAt cs ts l d (tdAt ts k).name s from fun h => by
              obtain ⟨u, hu, hn⟩ := HNG.out rfl
              rw [HNN.out] at h
              exact hn (h.2 u (by rw [← HU.out]; exact hu)))
            by_cases hik : i < U.length
            · go_wp2_with fail
              refine ⟨⟨k + 1, by simp only [Int.natCast_add, Int.natCast_one], by omega, fun j hj => ?_, HBT.out.trans (HBR.out.mono HBT.out.size)⟩, ?_⟩
              · by_cases e : j = k
                · subst e; exact HNK.out
                · exact HNO.out j (by omega)
              · show ts.length - ((k : Int) + 1).toNat < ts.length - ((k : Nat) : Int).toNat
                omega
            · go_wp2_with fail
              refine ⟨⟨k + 1, by simp only [Int.natCast_add, Int.natCast_one], by omega, fun j hj => ?_, HBT.out.trans (HBR.out.mono HBT.out.size)⟩, ?_⟩
              · by_cases e : j = k
                · subst e; exact HNK.out
                · exact HNO.out j (by omega)
              · show ts.length - ((k : Int) + 1).toNat < ts.length - ((k : Nat) : Int).toNat
                omega
          | true =>
            by_cases hik : i < U.length
            · obtain ⟨hlb, xa, xc, hcell, hxs⟩ := (HUS.out.later HBR.out) i hik
              have e := HUA.out (by intro e; rw [e] at hik; simp at hik)
              subst e
              have hkn := HKN.out U[i] (List.getElem_mem hik)
              have hul : U[i].length ≤ 20 := Nat.le_trans (known_len hkn.1 hkn.2) hfew
              obtain ⟨V, hV⟩ : ∃ V, U[i] = V := ⟨_, rfl⟩
              rw [hV] at hcell hxs hkn hul
              have HV := Lib.hid hV
              have HBWq := Lib.hid (HBW.out.trans ((HBT.out.trans (HBR.out.mono HBT.out.size)).mono HBW.out.size))
              have HXS := Lib.hid hxs
              have HF := Lib.hid (fun (W : World) (hb : Below wr.heap.size wr W) => hF xa V xc W (HBWq.out.trans (hb.mono HBWq.out.size)) (HXS.out.later hb) (by omega) hkn.1)
              have HLB := Lib.hid hlb
              have HCX := Lib.hid hcell
              obtain ⟨g0, g1, g2, g3, g4, g5, g6⟩ := HTQ.out.at_.cells
              have i0 : wr.drew.cell? ⟨ga, 0, none⟩ = _ := g0
              have i1 : wr.drew.cell? ⟨ga, 1, none⟩ = _ := g1
              have i2 : wr.drew.cell? ⟨ga, 2, none⟩ = _ := g2
              have i3 : wr.drew.cell? ⟨ga, 3, none⟩ = _ := g3
              have i4 : wr.drew.cell? ⟨ga, 4, none⟩ = _ := g4
              have i5 : wr.drew.cell? ⟨ga, 5, none⟩ = _ := g5
              have i6 : wr.drew.cell? ⟨ga, 6, none⟩ = _ := g6
              have i7 : wr.drew.cell? ⟨ub, uo + i, none⟩ = _ := hcell
              clear hV hxs hkn hul hlb hcell g0 g1 g2 g3 g4 g5 g6
              go_wp2_with fail
              have hbd : Below wr.heap.size wr wr.drew := (Below.refl _ _).drew
              have HBD := Lib.hid hbd
              have hbz : Below wr.heap.size wr (wr.alloc (.cells #[.int .i64 0, .string ⟨#[]⟩, .int .i64 0, .slice none 0 0, .slice none 0 0] 50)).drew := (((Below.refl _ wr).alloc (Nat.le_refl _) (.cells #[.int .i64 0, .string ⟨#[]⟩, .int .i64 0, .slice none 0 0, .slice none 0 0] 50))).drew
              obtain ⟨z0, z1, z2, z3, z4, z5, z6⟩ := (HTQ.out.later hbz).at_.cells
              have z7 := (hbz.cell (p := ⟨ub, uo + i, none⟩) HLB.out).trans HCX.out
              have HBZ := Lib.hid hbz
              have HNX := Lib.hid (show (wr.alloc (.cells #[.int .i64 0, .string ⟨#[]⟩, .int .i64 0, .slice none 0 0, .slice none 0 0] 50)).drew.heap[wr.heap.size]? = _ from heap_alloc_new wr (.cells #[.int .i64 0, .string ⟨#[]⟩, .int .i64 0, .slice none 0 0, .slice none 0 0] 50))
              clear hbd hbz
              refine wp_region_noPanic ?_
              refine wp_region_held_drew (S := (fun W => W.cell? ⟨ub, uo + i, none⟩ = some (.slice xa V.length xc) ∧ W.cell? ⟨ga, 0, none⟩ = some (.string nm) ∧ W.cell? ⟨ga, 1, none⟩ = some (.slice ca cs.length cc) ∧ W.cell? ⟨ga, 2, none⟩ = some (.slice (some ⟨tb, to, none⟩) ts.length tc) ∧ W.cell? ⟨ga, 3, none⟩ = some (.slice ra l.length rc) ∧ W.cell? ⟨ga, 4, none⟩ = some (.slice oa on oc) ∧ W.cell? ⟨ga, 5, none⟩ = some (.slice ya yn yc) ∧ W.cell? ⟨ga, 6, none⟩ = some (.slice qa qn qc))) (by kernel_rfl) (by refine ⟨?_, ?_, ?_, ?_, ?_, ?_, ?_, ?_⟩ <;> assumption) (fun hHeld => ?_)
              refine wpAnyH_take (i := 1) (oi := { dst := some 56, op := Op.move (Operand.tmp 9), type := 44, pos := "ref.go:252", after := #[], guard := none }) (v := ?vn2x) rfl (by kernel_rfl) (by kernel_rfl) (by kernel_rfl) (fun _ _ _ h => h) (Or.inl ⟨by rfl, ?hyn2x⟩) (by assumption) ?restn2x
              case hyn2x => (intro w hSw; (try dsimp only at hSw); go_simp; (try with_reducible rfl))
              case' restn2x => skip
              try simp only [Act.put, List.setIfInBounds_toArray, List.set_cons_zero, List.set_cons_succ]
              refine wpAnyH_take (i := 2) (oi := { dst := some 57, op := Op.move (Operand.tmp 12), type := 3, pos := "ref.go:252", after := #[], guard := none }) (v := ?vn3x) rfl (by kernel_rfl) (by kernel_rfl) (by kernel_rfl) (fun _ _ _ h => h) (Or.inl ⟨by rfl, ?hyn3x⟩) (by assumption) ?restn3x
              case hyn3x => (intro w hSw; (try dsimp only at hSw); go_simp; (try with_reducible rfl))
              case' restn3x => skip
              try simp only [Act.put, List.setIfInBounds_toArray, List.set_cons_zero, List.set_cons_succ]
              refine wpAnyH_take (i := 5) (oi := { dst := some 60, op := Op.move (Operand.tmp 2), type := 3, pos := "ref.go:252", after := #[], guard := none }) (v := ?vn4x) rfl (by kernel_rfl) (by kernel_rfl) (by kernel_rfl) (fun _ _ _ h => h) (Or.inl ⟨by rfl, ?hyn4x⟩) (by assumption) ?restn4x
              case hyn4x => (intro w hSw; (try dsimp only at hSw); go_simp; (try with_reducible rfl))
              case' restn4x => skip
              try simp only [Act.put, List.setIfInBounds_toArray, List.set_cons_zero, List.set_cons_succ]
              refine wpAnyH_take (i := 6) (oi := { dst := some 61, op := Op.binOp BinOp.sub 3 (Operand.tmp 60) (Operand.const (Value.int IntKind.i64 1)) 3, type := 3, pos := "ref.go:252", after := #[{ on := 5, ground := Ground.data }], guard := none }) (v := ?vn5x) rfl (by kernel_rfl) (by kernel_rfl) (by kernel_rfl) (fun _ _ _ h => h) (Or.inl ⟨by rfl, ?hyn5x⟩) (by assumption) ?restn5x
              case hyn5x => (intro w hSw; (try dsimp only at hSw); go_simp; (try with_reducible rfl))
              case' restn5x => skip
              try simp only [Act.put, List.setIfInBounds_toArray, List.set_cons_zero, List.set_cons_succ]
              refine wpAnyH_take (i := 3) (oi := { dst := some 58, op := Op.indexAddr 44 (Operand.tmp 56) (Operand.tmp 57), type := 0, pos := "ref.go:252", after := #[{ on := 1, ground := Ground.data }, { on := 2, ground := Ground.data }], guard := none }) (v := ?vn6x) rfl (by kernel_rfl) (by kernel_rfl) (by kernel_rfl) (fun _ _ _ h => h) (Or.inl ⟨by rfl, ?hyn6x⟩) (by assumption) ?restn6x
              case hyn6x => (intro w hSw; (try dsimp only at hSw); go_simp; (try with_reducible rfl))
              case' restn6x => skip
              try simp only [Act.put, List.setIfInBounds_toArray, List.set_cons_zero, List.set_cons_succ]
              refine wpAnyH_take (i := 0) (oi := { dst := some 55, op := Op.load 29 (Operand.tmp 3), type := 29, pos := "ref.go:252", after := #[], guard := none }) (v := ?vn7x) rfl (by kernel_rfl) (by kernel_rfl) (by kernel_rfl) (fun _ _ _ h => h) (Or.inl ⟨by rfl, ?hyn7x⟩) (by assumption) ?restn7x
              case hyn7x => (intro w hSw; (try dsimp only at hSw); go_simp; (try with_reducible rfl))
              case' restn7x => skip
              try simp only [Act.put, List.setIfInBounds_toArray, List.set_cons_zero, List.set_cons_succ]
              refine wpAnyH_take (i := 4) (oi := { dst := some 59, op := Op.load 27 (Operand.tmp 58), type := 27, pos := "ref.go:252", after := #[{ on := 3, ground := Ground.data }], guard := none }) (v := ?vn8x) rfl (by kernel_rfl) (by kernel_rfl) (by kernel_rfl) (fun _ _ _ h => h) (Or.inl ⟨by rfl, ?hyn8x⟩) (by assumption) ?restn8x
              case hyn8x => (intro w hSw; (try dsimp only at hSw); go_simp; (try with_reducible rfl))
              case' restn8x => skip
              try simp only [Act.put, List.setIfInBounds_toArray, List.set_cons_zero, List.set_cons_succ]
              refine wpAnyH_ready (rs := [7, 11]) (by kernel_rfl) (by simp) ?_
              refine AllReadyH.cons (o := { dst := some 62, op := Op.call { callee := Callee.value (Operand.func 59), args := #[Operand.tmp 55, Operand.tmp 59, Operand.tmp 61], argTypes := #[29, 27, 3] }, type := 95, pos := "ref.go:252", after := #[{ on := 0, ground := Ground.data }, { on := 4, ground := Ground.data }, { on := 6, ground := Ground.data }], guard := none }) rfl (fun K hK => ?_) (AllReadyH.cons (o := { dst := some 13, op := Op.alloc 50, type := 0, pos := "ref.go:252", after := #[], guard := none }) rfl (fun K hK => ?_) AllReadyH.nil)
              · go_simp
                go_at_call 59
                refine (HF.out _ HBD.out).mono ?_
                rintro e w6 ⟨hb6, p, n, q, xa', ya', xn', xc', yn', yc', ok, rfl, hres⟩
                have hb6' : Below wr.heap.size wr w6 := HBD.out.trans hb6
                obtain ⟨j0, j1, j2, j3, j4, j5, j6⟩ := (HTQ.out.later hb6').at_.cells
                have j7 := (hb6'.cell (p := ⟨ub, uo + i, none⟩) HLB.out).trans HCX.out
                have hbz : Below wr.heap.size wr (w6.alloc (.cells #[.int .i64 0, .string ⟨#[]⟩, .int .i64 0, .slice none 0 0, .slice none 0 0] 50)) := hb6'.alloc hb6'.size _
                obtain ⟨k0, k1, k2, k3, k4, k5, k6⟩ := (HTQ.out.later hbz).at_.cells
                have k7 := (hbz.cell (p := ⟨ub, uo + i, none⟩) HLB.out).trans HCX.out
                have hbt : Below wr.heap.size wr (w6.alloc (.cells #[.int .i64 p, .string n, .int .i64 q, .slice xa' xn' xc', .slice ya' yn' yc'] 50)) := hb6'.alloc hb6'.size _
                obtain ⟨l0, l1, l2, l3, l4, l5, l6⟩ := (HTQ.out.later hbt).at_.cells
                have l7 := (hbt.cell (p := ⟨ub, uo + i, none⟩) HLB.out).trans HCX.out
                have HB6 := Lib.hid hb6'
                have HRES := Lib.hid hres
                have HWD := Lib.hid hb6
                clear hb6 hb6' hbz hbt hres
                refine hK.out _ _ ?_ (fun hHeld => ?_)
                · refine ⟨?_, ?_, ?_, ?_, ?_, ?_, ?_, ?_⟩ <;> assumption
                clear hK K
                try simp only [Act.put, List.setIfInBounds_toArray, List.set_cons_zero, List.set_cons_succ]
                refine wpAnyH_take (i := 8) (oi := { dst := some 54, op := Op.move (Operand.tmp 62), type := 95, pos := "ref.go:252", after := #[{ on := 7, ground := Ground.data }], guard := none }) (v := ?vn9x) rfl (by kernel_rfl) (by kernel_rfl) (by kernel_rfl) (fun _ _ _ h => h) (Or.inl ⟨by rfl, ?hyn9x⟩) (by assumption) ?restn9x
                case hyn9x => (intro w hSw; (try dsimp only at hSw); go_simp; (try with_reducible rfl))
                case' restn9x => skip
                try simp only [Act.put, List.setIfInBounds_toArray, List.set_cons_zero, List.set_cons_succ]
                refine wpAnyH_take (i := 9) (oi := { dst := some 63, op := Op.extract (Operand.tmp 54) 0, type := 50, pos := "ref.go:252", after := #[{ on := 8, ground := Ground.data }], guard := none }) (v := ?vn10x) rfl (by kernel_rfl) (by kernel_rfl) (by kernel_rfl) (fun _ _ _ h => h) (Or.inl ⟨by rfl, ?hyn10x⟩) (by assumption) ?restn10x
                case hyn10x => (intro w hSw; (try dsimp only at hSw); go_simp; (try with_reducible rfl))
                case' restn10x => skip
                try simp only [Act.put, List.setIfInBounds_toArray, List.set_cons_zero, List.set_cons_succ]
                refine wpAnyH_take (i := 10) (oi := { dst := some 64, op := Op.extract (Operand.tmp 54) 1, type := 4, pos := "ref.go:252", after := #[{ on := 8, ground := Ground.data }, { on := 12, ground := Ground.gcOnly Departure.lateStores }], guard := none }) (v := ?vn11x) rfl (by kernel_rfl) (by kernel_rfl) (by kernel_rfl) (fun _ _ _ h => h) (Or.inl ⟨by rfl, ?hyn11x⟩) (by assumption) ?restn11x
                case hyn11x => (intro w hSw; (try dsimp only at hSw); go_simp; (try with_reducible rfl))
                case' restn11x => skip
                try simp only [Act.put, List.setIfInBounds_toArray, List.set_cons_zero, List.set_cons_succ]
                refine wpAnyH_ready (rs := [11]) (by kernel_rfl) (by simp) ?_
                refine AllReadyH.cons (o := { dst := some 13, op := Op.alloc 50, type := 0, pos := "ref.go:252", after := #[], guard := none }) rfl (fun K hK => ?_) AllReadyH.nil
                go_simp
                refine hK.out _ _ ?_ (fun hHeld => ?_)
                · exact ⟨k7, k0, k1, k2, k3, k4, k5, k6⟩
                clear hK K
                try simp only [Act.put, List.setIfInBounds_toArray, List.set_cons_zero, List.set_cons_succ]
                refine wpAnyH_ready (rs := [12]) (by kernel_rfl) (by simp) ?_
                refine AllReadyH.cons (o := { dst := none, op := Op.store 50 (Operand.tmp 13) (Operand.tmp 63), type := 0, pos := "ref.go:252", after := #[{ on := 11, ground := Ground.data }, { on := 9, ground := Ground.data }, { on := 7, ground := Ground.chain }, { on := 0, ground := Ground.phase }, { on := 1, ground := Ground.phase }, { on := 2, ground := Ground.phase }, { on := 3, ground := Ground.phase }, { on := 4, ground := Ground.phase }, { on := 5, ground := Ground.phase }, { on := 6, ground := Ground.phase }, { on := 7, ground := Ground.phase }, { on := 8, ground := Ground.phase }, { on := 9, ground := Ground.phase }, { on := 10, ground := Ground.textOnly Departure.lateStores }, { on := 11, ground := Ground.phase }], guard := none }) rfl (fun K hK => ?_) AllReadyH.nil
                go_simp
                refine hK.out _ _ ?_ (fun hHeld => ?_)
                · exact ⟨l7, l0, l1, l2, l3, l4, l5, l6⟩
                clear hK K
                try simp only [Act.put, List.setIfInBounds_toArray, List.set_cons_zero, List.set_cons_succ]
                refine wpAnyH_take (i := 13) (oi := { dst := some 14, op := Op.assign (Operand.tmp 64), type := 4, pos := "ref.go:252", after := #[{ on := 10, ground := Ground.data }, { on := 12, ground := Ground.chain }, { on := 0, ground := Ground.phase }, { on := 1, ground := Ground.phase }, { on := 2, ground := Ground.phase }, { on := 3, ground := Ground.phase }, { on := 4, ground := Ground.phase }, { on := 5, ground := Ground.phase }, { on := 6, ground := Ground.phase }, { on := 7, ground := Ground.phase }, { on := 8, ground := Ground.phase }, { on := 9, ground := Ground.phase }, { on := 10, ground := Ground.phase }, { on := 11, ground := Ground.phase }, { on := 12, ground := Ground.phase }], guard := none }) (v := ?vn12x) rfl (by kernel_rfl) (by kernel_rfl) (by kernel_rfl) (fun _ _ _ h => h) (Or.inl ⟨by rfl, ?hyn12x⟩) (by assumption) ?restn12x
                case hyn12x => (intro w hSw; (try dsimp only at hSw); go_simp; (try with_reducible rfl))
                case' restn12x => skip
                try simp only [Act.put, List.setIfInBounds_toArray, List.set_cons_zero, List.set_cons_succ]
                refine wpAnyH_done (by kernel_rfl) ?_ _
                refine NoPanic.normal ?_
                have hb67 : Below w6.heap.size w6 (w6.alloc (.cells #[.int .i64 p, .string n, .int .i64 q, .slice xa' xn' xc', .slice ya' yn' yc'] 50)) := (Below.refl _ _).alloc (Nat.le_refl _) _
                have HB7 := Lib.hid (HB6.out.trans (hb67.mono HB6.out.size))
                have HN7 := Lib.hid (heap_alloc_new w6 (.cells #[.int .i64 p, .string n, .int .i64 q, .slice xa' xn' xc', .slice ya' yn' yc'] 50))
                have HR7 := Lib.hid (show (ok = true ∧ Rep cs ts l (fun b => wr.heap.size ≤ b) (w6.alloc (.cells #[.int .i64 p, .string n, .int .i64 q, .slice xa' xn' xc', .slice ya' yn' yc'] 50)) d V (.agg #[.int .i64 p, .string n, .int .i64 q, .slice xa' xn' xc', .slice ya' yn' yc'])) ∨ (ok = false ∧ ¬ Gr cs ts l d V ∧ Value.agg #[.int .i64 p, .string n, .int .i64 q, .slice xa' xn' xc', .slice ya' yn' yc'] = zeroT) from HRES.out.imp (fun h => ⟨h.1, h.2.keep (SameIn.below hb67) fun b hb _ => hb⟩) id)
                have HW6 := Lib.hid HB6.out.size
                generalize (w6.alloc (.cells #[.int .i64 p, .string n, .int .i64 q, .slice xa' xn' xc', .slice ya' yn' yc'] 50)) = w7 at *
                have HGX := Lib.hid (show wr.heap.size ≤ w6.heap.size by exact HW6.out)
                clear hb67 l0 l1 l2 l3 l4 l5 l6 l7 k0 k1 k2 k3 k4 k5 k6 k7 j0 j1 j2 j3 j4 j5 j6 j7 z0 z1 z2 z3 z4 z5 z6 z7 i0 i1 i2 i3 i4 i5 i6 i7
                have hs7 := HB7.out.size
                have hg7 := (HB7.out.block w4.heap.size (by have := HSQ.out; omega)).trans HG3.out
                have HO7 := Lib.hid (own_later HOW.out HB7.out)
                obtain ⟨g0, g1, g2, g3, g4, _⟩ := cells5 hg7
                obtain ⟨x0, x1, x2, x3, x4, _⟩ := cells5 HN7.out
                have b8 : Below w7.heap.size w7 (w7.alloc (.cells #[.int .i64 p, .string n, .int .i64 q, .slice xa' xn' xc', .slice ya' yn' yc'] 50)) := (Below.refl _ _).alloc (Nat.le_refl _) _
                have hz8 : (w7.alloc (.cells #[.int .i64 p, .string n, .int .i64 q, .slice xa' xn' xc', .slice ya' yn' yc'] 50)).heap.size = w7.heap.size + 1 := by simp
                have HG8 := Lib.hid ((b8.block w4.heap.size (by have := HSQ.out; omega)).trans hg7)
                have HB8 := Lib.hid b8
                have HZ8 := Lib.hid hz8
                have HS7 := Lib.hid hs7
                have HC8 := Lib.hid (cell_five_new w7 (.int .i64 p) (.string n) (.int .i64 q) (.slice xa' xn' xc') (.slice ya' yn' yc') 50)
                clear hg7 b8 hz8 hs7
                go_wp2_with (at_builtin; refine wpList_append_own_at _ rfl _ _ 48 rfl (w4.heap.size + 1) 50 i50 zeroT 5 80 Try.underlying48 hi50 hx0 hx1 hxb rfl (by decide) (.slice aa i ac) i xs rfl (HO7.out.alloc _) ⟨w7.heap.size, 0, none⟩ 1 1 [.int .i64 p, .string n, .int .i64 q, .slice xa' xn' xc', .slice ya' yn' yc'] rfl rfl HC8.out (by simp [Value.oneCell']) (by unfold maxLen; omega) (by omega) (by have := HZ8.out; have := HS7.out; have := HSQ.out; simp; omega) ?_; intro v9 w9 hown9 hgrow9 _ hob9; obtain ⟨a9, c9, rfl⟩ := own_slice hown9; have hg9 := (hgrow9.block w4.heap.size (by have := HZ8.out; have := HS7.out; have := HSQ.out; omega) (fun e => by have := (HOW.out.lt _ e.symm).1; omega)).trans HG8.out; obtain ⟨k0, k1, k2, k3, k4, kf⟩ := cells5 hg9; have kf4 := kf 4; have HG9 := Lib.hid hg9; have HO9 := Lib.hid hown9; have HGR := Lib.hid hgrow9; have HOB := Lib.hid hob9; clear hg9 hown9 hgrow9 hob9 kf)
                have hgsz := HGR.out.size
                rw [HZ8.out] at hgsz
                have hown : ∀ q, (Value.slice aa i ac).ownBlock = some q → w4.heap.size + 1 ≤ q ∧ q < wr.heap.size := fun q e => HOW.out.lt q e
                have hne9 : ∀ q, (Value.slice a9 (i + 1) c9).ownBlock = some q → q ≠ w4.heap.size := fun q e => by have := (HO9.out.lt q e).1; omega
                have hsame9 : SameIn (Apart (fun _ => False) ga (w4.heap.size + 1) (Value.slice aa i ac).ownBlock) w7 (w9.setCell ⟨w4.heap.size, 4, none⟩ (.slice a9 (i + 1) c9)) := by
                  intro b hb hlb hnm
                  have e1 : (w7.alloc (.cells #[.int .i64 p, .string n, .int .i64 q, .slice xa' xn' xc', .slice ya' yn' yc'] 50)).heap[b]? = w7.heap[b]? := HB8.out.block b hlb
                  have e2 : w9.heap[b]? = (w7.alloc (.cells #[.int .i64 p, .string n, .int .i64 q, .slice xa' xn' xc', .slice ya' yn' yc'] 50)).heap[b]? := HGR.out.block b (by have := HZ8.out; omega) (fun e => by
                    rcases hb with ⟨h, _⟩ | ⟨_, h⟩
                    · exact h
                    · exact h e.symm)
                  rw [Below.heap_setCell _ _ _ _ (show b ≠ w4.heap.size from apart_ne hb (show ga ≤ w4.heap.size by have := HS4.out; omega) (by omega)), e2, e1]
                have hsub9 : ∀ b, (Apart (fun _ => False) ga (w4.heap.size + 1) (Value.slice aa i ac).ownBlock) b → b < w7.heap.size → (Apart (fun _ => False) ga (w4.heap.size + 1) (Value.slice a9 (i + 1) c9).ownBlock) b := fun b hb hlb => by
                  rcases hb with h | ⟨h1, h2⟩
                  · exact .inl h
                  · refine .inr ⟨h1, fun e => ?_⟩
                    rcases HOB.out with e' | e'
                    · exact h2 (by rw [← e', e])
                    · rw [e'] at e
                      have := Option.some.inj e
                      rw [HZ8.out] at this
                      omega
                have hxl : xs.length = i * 5 := HOW.out.1
                have hb9 : Below w4.heap.size wr (w9.setCell ⟨w4.heap.size, 4, none⟩ (.slice a9 (i + 1) c9)) := (((HB7.out.trans (HB8.out.mono HS7.out)).mono (show w4.heap.size ≤ wr.heap.size by have := HSQ.out; omega)).grown HGR.out (by have := HZ8.out; have := HS7.out; have := HSQ.out; omega) (fun q e => by have := (hown q e).1; omega)).setCell (p := ⟨w4.heap.size, 4, none⟩) (Nat.le_refl _) _
                refine ⟨⟨i + 1, ok, a9, c9, _, rfl, by simp only [Int.natCast_add, Int.natCast_one], by omega, Go.heap_setCell_same _ _ 4 _ 50 _ HG9.out, own_same HO9.out fun q e => Below.heap_setCell _ _ _ _ (hne9 q e), fun hok j hj hji => ?_, fun hok => ?_, HBR.out.trans hb9⟩, ?_⟩
                · by_cases e : j = i
                  · subst e
                    rcases HR7.out with ⟨_, hr⟩ | ⟨h0, _⟩
                    · refine ⟨_, _, _, _, _, ?_, ?_, ?_, ?_, ?_, by rw [HV.out]; exact (hr.mono (S' := (Apart (fun _ => False) ga (w4.heap.size + 1) (Value.slice aa j ac).ownBlock)) fun b h _ => .inr ⟨by have := HSQ.out; omega, fun e => by have := hown b e; omega⟩).keep hsame9 hsub9⟩ <;> (rw [List.getElem?_append_right (by omega), hxl]; simp [Nat.add_sub_cancel_left])
                    · rw [h0] at hok; cases hok
                  · obtain ⟨v0, v1, v2, v3, v4, q0, q1, q2, q3, q4, hr⟩ := HEL.out trivial j hj (by omega)
                    refine ⟨v0, v1, v2, v3, v4, ?_, ?_, ?_, ?_, ?_, (hr.keep (SameIn.below HB7.out) fun b hb _ => hb).keep hsame9 hsub9⟩ <;> (rw [List.getElem?_append_left (by omega)]; assumption)
                · rcases HR7.out with ⟨h0, _⟩ | ⟨_, hng, _⟩
                  · rw [h0] at hok; cases hok
                  · exact ⟨V, by rw [← HV.out]; exact List.getElem_mem hik, hng⟩
                · show U.length - ((i : Int) + 1).toNat < U.length - ((i : Nat) : Int).toNat
                  omega
              · go_simp
                refine hK.out _ _ ?_ (fun hHeld => ?_)
                · refine ⟨?_, ?_, ?_, ?_, ?_, ?_, ?_, ?_⟩ <;> assumption
                clear hK K
                try simp only [Act.put, List.setIfInBounds_toArray, List.set_cons_zero, List.set_cons_succ]
                refine wpAnyH_ready (rs := [7]) (by kernel_rfl) (by simp) ?_
                refine AllReadyH.cons (o := { dst := some 62, op := Op.call { callee := Callee.value (Operand.func 59), args := #[Operand.tmp 55, Operand.tmp 59, Operand.tmp 61], argTypes := #[29, 27, 3] }, type := 95, pos := "ref.go:252", after := #[{ on := 0, ground := Ground.data }, { on := 4, ground := Ground.data }, { on := 6, ground := Ground.data }], guard := none }) rfl (fun K hK => ?_) AllReadyH.nil
                go_simp
                go_at_call 59
                refine (HF.out _ HBZ.out).mono ?_
                rintro e w6 ⟨hb6, p, n, q, xa', ya', xn', xc', yn', yc', ok, rfl, hres⟩
                have hb6' : Below wr.heap.size wr w6 := HBZ.out.trans (hb6.mono HBZ.out.size)
                obtain ⟨j0, j1, j2, j3, j4, j5, j6⟩ := (HTQ.out.later hb6').at_.cells
                have j7 := (hb6'.cell (p := ⟨ub, uo + i, none⟩) HLB.out).trans HCX.out
                have hx6 := (hb6.block wr.heap.size (by simp)).trans HNX.out
                obtain ⟨x0, x1, x2, x3, x4, xf⟩ := cells5 hx6
                have xf0 := xf 0
                have xf1 := xf 1
                have xf2 := xf 2
                have xf3 := xf 3
                have xf4 := xf 4
                have hbs := store5_below (Below.refl wr.heap.size w6) wr.heap.size (Nat.le_refl _) (.int .i64 p) (.string n) (.int .i64 q) (.slice xa' xn' xc') (.slice ya' yn' yc')
                have hbs' := hb6'.trans hbs
                obtain ⟨l0, l1, l2, l3, l4, l5, l6⟩ := (HTQ.out.later hbs').at_.cells
                have l7 := (hbs'.cell (p := ⟨ub, uo + i, none⟩) HLB.out).trans HCX.out
                have HX6 := Lib.hid hx6
                have HB6 := Lib.hid hb6'
                have HRES := Lib.hid hres
                have HWD := Lib.hid hb6
                clear hb6 hb6' hbs hbs' hres hx6 xf
                refine hK.out _ _ ?_ (fun hHeld => ?_)
                · exact ⟨j7, j0, j1, j2, j3, j4, j5, j6⟩
                clear hK K
                try simp only [Act.put, List.setIfInBounds_toArray, List.set_cons_zero, List.set_cons_succ]
                refine wpAnyH_take (i := 8) (oi := { dst := some 54, op := Op.move (Operand.tmp 62), type := 95, pos := "ref.go:252", after := #[{ on := 7, ground := Ground.data }], guard := none }) (v := ?vn13x) rfl (by kernel_rfl) (by kernel_rfl) (by kernel_rfl) (fun _ _ _ h => h) (Or.inl ⟨by rfl, ?hyn13x⟩) (by assumption) ?restn13x
                case hyn13x => (intro w hSw; (try dsimp only at hSw); go_simp; (try with_reducible rfl))
                case' restn13x => skip
                try simp only [Act.put, List.setIfInBounds_toArray, List.set_cons_zero, List.set_cons_succ]
                refine wpAnyH_take (i := 9) (oi := { dst := some 63, op := Op.extract (Operand.tmp 54) 0, type := 50, pos := "ref.go:252", after := #[{ on := 8, ground := Ground.data }], guard := none }) (v := ?vn14x) rfl (by kernel_rfl) (by kernel_rfl) (by kernel_rfl) (fun _ _ _ h => h) (Or.inl ⟨by rfl, ?hyn14x⟩) (by assumption) ?restn14x
                case hyn14x => (intro w hSw; (try dsimp only at hSw); go_simp; (try with_reducible rfl))
                case' restn14x => skip
                try simp only [Act.put, List.setIfInBounds_toArray, List.set_cons_zero, List.set_cons_succ]
                refine wpAnyH_take (i := 10) (oi := { dst := some 64, op := Op.extract (Operand.tmp 54) 1, type := 4, pos := "ref.go:252", after := #[{ on := 8, ground := Ground.data }, { on := 12, ground := Ground.gcOnly Departure.lateStores }], guard := none }) (v := ?vn15x) rfl (by kernel_rfl) (by kernel_rfl) (by kernel_rfl) (fun _ _ _ h => h) (Or.inl ⟨by rfl, ?hyn15x⟩) (by assumption) ?restn15x
                case hyn15x => (intro w hSw; (try dsimp only at hSw); go_simp; (try with_reducible rfl))
                case' restn15x => skip
                try simp only [Act.put, List.setIfInBounds_toArray, List.set_cons_zero, List.set_cons_succ]
                refine wpAnyH_ready (rs := [12]) (by kernel_rfl) (by simp) ?_
                refine AllReadyH.cons (o := { dst := none, op := Op.store 50 (Operand.tmp 13) (Operand.tmp 63), type := 0, pos := "ref.go:252", after := #[{ on := 11, ground := Ground.data }, { on := 9, ground := Ground.data }, { on := 7, ground := Ground.chain }, { on := 0, ground := Ground.phase }, { on := 1, ground := Ground.phase }, { on := 2, ground := Ground.phase }, { on := 3, ground := Ground.phase }, { on := 4, ground := Ground.phase }, { on := 5, ground := Ground.phase }, { on := 6, ground := Ground.phase }, { on := 7, ground := Ground.phase }, { on := 8, ground := Ground.phase }, { on := 9, ground := Ground.phase }, { on := 10, ground := Ground.textOnly Departure.lateStores }, { on := 11, ground := Ground.phase }], guard := none }) rfl (fun K hK => ?_) AllReadyH.nil
                go_simp
                refine hK.out _ _ ?_ (fun hHeld => ?_)
                · exact ⟨l7, l0, l1, l2, l3, l4, l5, l6⟩
                clear hK K
                try simp only [Act.put, List.setIfInBounds_toArray, List.set_cons_zero, List.set_cons_succ]
                refine wpAnyH_take (i := 13) (oi := { dst := some 14, op := Op.assign (Operand.tmp 64), type := 4, pos := "ref.go:252", after := #[{ on := 10, ground := Ground.data }, { on := 12, ground := Ground.chain }, { on := 0, ground := Ground.phase }, { on := 1, ground := Ground.phase }, { on := 2, ground := Ground.phase }, { on := 3, ground := Ground.phase }, { on := 4, ground := Ground.phase }, { on := 5, ground := Ground.phase }, { on := 6, ground := Ground.phase }, { on := 7, ground := Ground.phase }, { on := 8, ground := Ground.phase }, { on := 9, ground := Ground.phase }, { on := 10, ground := Ground.phase }, { on := 11, ground := Ground.phase }, { on := 12, ground := Ground.phase }], guard := none }) (v := ?vn16x) rfl (by kernel_rfl) (by kernel_rfl) (by kernel_rfl) (fun _ _ _ h => h) (Or.inl ⟨by rfl, ?hyn16x⟩) (by assumption) ?restn16x
                case hyn16x => (intro w hSw; (try dsimp only at hSw); go_simp; (try with_reducible rfl))
                case' restn16x => skip
                try simp only [Act.put, List.setIfInBounds_toArray, List.set_cons_zero, List.set_cons_succ]
                refine wpAnyH_done (by kernel_rfl) ?_ _
                refine NoPanic.normal ?_
                have HB7 := Lib.hid (HB6.out.trans (store5_below (Below.refl wr.heap.size w6) wr.heap.size (Nat.le_refl _) (.int .i64 p) (.string n) (.int .i64 q) (.slice xa' xn' xc') (.slice ya' yn' yc')))
                have HN7 := Lib.hid (store5_block HX6.out (.int .i64 p) (.string n) (.int .i64 q) (.slice xa' xn' xc') (.slice ya' yn' yc'))
                have HR7 := Lib.hid (show (ok = true ∧ Rep cs ts l (fun b => wr.heap.size ≤ b) (store5 w6 wr.heap.size (.int .i64 p) (.string n) (.int .i64 q) (.slice xa' xn' xc') (.slice ya' yn' yc')) d V (.agg #[.int .i64 p, .string n, .int .i64 q, .slice xa' xn' xc', .slice ya' yn' yc'])) ∨ (ok = false ∧ ¬ Gr cs ts l d V ∧ Value.agg #[.int .i64 p, .string n, .int .i64 q, .slice xa' xn' xc', .slice ya' yn' yc'] = zeroT) from HRES.out.imp (fun h => ⟨h.1, h.2.keep (fun b hb _ _ => store5_other _ _ _ (by have h9 : wr.heap.size + 1 ≤ b := (by simpa using hb); omega) _ _ _ _ _) fun b hb _ => by have h9 : wr.heap.size + 1 ≤ b := (by simpa using hb); omega⟩) id)
                obtain ⟨w7, hw7⟩ : ∃ ww, (store5 w6 wr.heap.size (.int .i64 p) (.string n) (.int .i64 q) (.slice xa' xn' xc') (.slice ya' yn' yc')) = ww := ⟨_, rfl⟩
                rw [hw7] at HB7 HN7 HR7
                unfold store5 at hw7
                rw [hw7]
                have HGX := Lib.hid (show wr.heap.size ≤ wr.heap.size by omega)
                clear hw7 l0 l1 l2 l3 l4 l5 l6 l7 j0 j1 j2 j3 j4 j5 j6 j7 z0 z1 z2 z3 z4 z5 z6 z7 i0 i1 i2 i3 i4 i5 i6 i7 x0 x1 x2 x3 x4 xf0 xf1 xf2 xf3 xf4
                have hs7 := HB7.out.size
                have hg7 := (HB7.out.block w4.heap.size (by have := HSQ.out; omega)).trans HG3.out
                have HO7 := Lib.hid (own_later HOW.out HB7.out)
                obtain ⟨g0, g1, g2, g3, g4, _⟩ := cells5 hg7
                obtain ⟨x0, x1, x2, x3, x4, _⟩ := cells5 HN7.out
                have b8 : Below w7.heap.size w7 (w7.alloc (.cells #[.int .i64 p, .string n, .int .i64 q, .slice xa' xn' xc', .slice ya' yn' yc'] 50)) := (Below.refl _ _).alloc (Nat.le_refl _) _
                have hz8 : (w7.alloc (.cells #[.int .i64 p, .string n, .int .i64 q, .slice xa' xn' xc', .slice ya' yn' yc'] 50)).heap.size = w7.heap.size + 1 := by simp
                have HG8 := Lib.hid ((b8.block w4.heap.size (by have := HSQ.out; omega)).trans hg7)
                have HB8 := Lib.hid b8
                have HZ8 := Lib.hid hz8
                have HS7 := Lib.hid hs7
                have HC8 := Lib.hid (cell_five_new w7 (.int .i64 p) (.string n) (.int .i64 q) (.slice xa' xn' xc') (.slice ya' yn' yc') 50)
                clear hg7 b8 hz8 hs7
                go_wp2_with (at_builtin; refine wpList_append_own_at _ rfl _ _ 48 rfl (w4.heap.size + 1) 50 i50 zeroT 5 80 Try.underlying48 hi50 hx0 hx1 hxb rfl (by decide) (.slice aa i ac) i xs rfl (HO7.out.alloc _) ⟨w7.heap.size, 0, none⟩ 1 1 [.int .i64 p, .string n, .int .i64 q, .slice xa' xn' xc', .slice ya' yn' yc'] rfl rfl HC8.out (by simp [Value.oneCell']) (by unfold maxLen; omega) (by omega) (by have := HZ8.out; have := HS7.out; have := HSQ.out; simp; omega) ?_; intro v9 w9 hown9 hgrow9 _ hob9; obtain ⟨a9, c9, rfl⟩ := own_slice hown9; have hg9 := (hgrow9.block w4.heap.size (by have := HZ8.out; have := HS7.out; have := HSQ.out; omega) (fun e => by have := (HOW.out.lt _ e.symm).1; omega)).trans HG8.out; obtain ⟨k0, k1, k2, k3, k4, kf⟩ := cells5 hg9; have kf4 := kf 4; have HG9 := Lib.hid hg9; have HO9 := Lib.hid hown9; have HGR := Lib.hid hgrow9; have HOB := Lib.hid hob9; clear hg9 hown9 hgrow9 hob9 kf)
                have hgsz := HGR.out.size
                rw [HZ8.out] at hgsz
                have hown : ∀ q, (Value.slice aa i ac).ownBlock = some q → w4.heap.size + 1 ≤ q ∧ q < wr.heap.size := fun q e => HOW.out.lt q e
                have hne9 : ∀ q, (Value.slice a9 (i + 1) c9).ownBlock = some q → q ≠ w4.heap.size := fun q e => by have := (HO9.out.lt q e).1; omega
                have hsame9 : SameIn (Apart (fun _ => False) ga (w4.heap.size + 1) (Value.slice aa i ac).ownBlock) w7 (w9.setCell ⟨w4.heap.size, 4, none⟩ (.slice a9 (i + 1) c9)) := by
                  intro b hb hlb hnm
                  have e1 : (w7.alloc (.cells #[.int .i64 p, .string n, .int .i64 q, .slice xa' xn' xc', .slice ya' yn' yc'] 50)).heap[b]? = w7.heap[b]? := HB8.out.block b hlb
                  have e2 : w9.heap[b]? = (w7.alloc (.cells #[.int .i64 p, .string n, .int .i64 q, .slice xa' xn' xc', .slice ya' yn' yc'] 50)).heap[b]? := HGR.out.block b (by have := HZ8.out; omega) (fun e => by
                    rcases hb with ⟨h, _⟩ | ⟨_, h⟩
                    · exact h
                    · exact h e.symm)
                  rw [Below.heap_setCell _ _ _ _ (show b ≠ w4.heap.size from apart_ne hb (show ga ≤ w4.heap.size by have := HS4.out; omega) (by omega)), e2, e1]
                have hsub9 : ∀ b, (Apart (fun _ => False) ga (w4.heap.size + 1) (Value.slice aa i ac).ownBlock) b → b < w7.heap.size → (Apart (fun _ => False) ga (w4.heap.size + 1) (Value.slice a9 (i + 1) c9).ownBlock) b := fun b hb hlb => by
                  rcases hb with h | ⟨h1, h2⟩
                  · exact .inl h
                  · refine .inr ⟨h1, fun e => ?_⟩
                    rcases HOB.out with e' | e'
                    · exact h2 (by rw [← e', e])
                    · rw [e'] at e
                      have := Option.some.inj e
                      rw [HZ8.out] at this
                      omega
                have hxl : xs.length = i * 5 := HOW.out.1
                have hb9 : Below w4.heap.size wr (w9.setCell ⟨w4.heap.size, 4, none⟩ (.slice a9 (i + 1) c9)) := (((HB7.out.trans (HB8.out.mono HS7.out)).mono (show w4.heap.size ≤ wr.heap.size by have := HSQ.out; omega)).grown HGR.out (by have := HZ8.out; have := HS7.out; have := HSQ.out; omega) (fun q e => by have := (hown q e).1; omega)).setCell (p := ⟨w4.heap.size, 4, none⟩) (Nat.le_refl _) _
                refine ⟨⟨i + 1, ok, a9, c9, _, rfl, by simp only [Int.natCast_add, Int.natCast_one], by omega, Go.heap_setCell_same _ _ 4 _ 50 _ HG9.out, own_same HO9.out fun q e => Below.heap_setCell _ _ _ _ (hne9 q e), fun hok j hj hji => ?_, fun hok => ?_, HBR.out.trans hb9⟩, ?_⟩
                · by_cases e : j = i
                  · subst e
                    rcases HR7.out with ⟨_, hr⟩ | ⟨h0, _⟩
                    · refine ⟨_, _, _, _, _, ?_, ?_, ?_, ?_, ?_, by rw [HV.out]; exact (hr.mono (S' := (Apart (fun _ => False) ga (w4.heap.size + 1) (Value.slice aa j ac).ownBlock)) fun b h _ => .inr ⟨by have := HSQ.out; omega, fun e => by have := hown b e; omega⟩).keep hsame9 hsub9⟩ <;> (rw [List.getElem?_append_right (by omega), hxl]; simp [Nat.add_sub_cancel_left])
                    · rw [h0] at hok; cases hok
                  · obtain ⟨v0, v1, v2, v3, v4, q0, q1, q2, q3, q4, hr⟩ := HEL.out trivial j hj (by omega)
                    refine ⟨v0, v1, v2, v3, v4, ?_, ?_, ?_, ?_, ?_, (hr.keep (SameIn.below HB7.out) fun b hb _ => hb).keep hsame9 hsub9⟩ <;> (rw [List.getElem?_append_left (by omega)]; assumption)
                · rcases HR7.out with ⟨h0, _⟩ | ⟨_, hng, _⟩
                  · rw [h0] at hok; cases hok
                  · exact ⟨V, by rw [← HV.out]; exact List.getElem_mem hik, hng⟩
                · show U.length - ((i : Int) + 1).toNat < U.length - ((i : Nat) : Int).toNat
                  omega
            · obtain ⟨g0, g1, g2, g3, g4, _⟩ := cells5 HG3.out
              obtain ⟨e0, e1, e2, e3, e4, ef⟩ := cells5 HN1q.out
              have ef0 := ef 0
              have ef1 := ef 1
              have ef2 := ef 2
              have ef3 := ef 3
              have ef4 := ef 4
              have HEL2 := Lib.hid (HEL.out rfl)
              clear ef HEL
              have hie : U.length = i := by omega
              have HIE := Lib.hid hie
              clear hie
              go_wp2_with fail
              have hfin := store5_below (HB1.out.trans ((HBT.out.trans (HBR.out.mono HBT.out.size)).mono HB1.out.size)) (ga + 1) (by rw [← HGA.out]; omega) (.int .i64 1) (.string N) (.int .i64 0) (.slice none 0 0) (.slice aa i ac)
              have hsm : SameIn (Apart (fun _ => False) ga (w4.heap.size + 1) (Value.slice aa i ac).ownBlock) wr (store5 wr (ga + 1) (.int .i64 1) (.string N) (.int .i64 0) (.slice none 0 0) (.slice aa i ac)) := fun b hb _ _ => store5_other _ _ _ (apart_ne hb (by omega) (by have := HS4.out; omega)) _ _ _ _ _
              have hsb : ∀ b, Apart (fun _ => False) ga (w4.heap.size + 1) (Value.slice aa i ac).ownBlock b → b < wr.heap.size → w.heap.size ≤ b := fun b h _ => by
                rcases h with ⟨h, _⟩ | ⟨h, _⟩
                · exact h.elim
                · have := HS4.out; have := HGA.out; omega
              refine ret_ct rfl rfl rfl (store5_block HN1q.out _ _ _ _ _) ⟨hfin, _, _, _, _, _, _, _, _, _, true, rfl, .inl ⟨rfl, k, hlt, ⟨by rw [HNN.out]; exact HCAN.out, fun u hu => ?_⟩, HNO.out, ?_⟩⟩
              · rw [HNN.out, ← HU.out] at hu
                obtain ⟨j, hj, rfl⟩ := List.getElem_of_mem hu
                obtain ⟨v0, v1, v2, v3, v4, q0, q1, q2, q3, q4, hr⟩ := HEL2.out j hj (by rw [← HIE.out]; exact hj)
                exact hr.gr
              · rw [HNN.out, ← HU.out]
                refine ⟨aa, 0, ac, own_plain HOW.out, by rw [HIE.out], fun j hj => ?_⟩
                have hji : j < i := by rw [← HIE.out]; exact hj
                obtain ⟨v0, v1, v2, v3, v4, q0, q1, q2, q3, q4, hr⟩ := HEL2.out j hj hji
                obtain ⟨gg, rfl, hg1, hg2⟩ := own_some HOW.out (show 0 < i by omega)
                have hst : ∀ o, (store5 wr (ga + 1) (.int .i64 1) (.string N) (.int .i64 0) (.slice none 0 0) (.slice (some ⟨gg, 0, none⟩) i ac)).cell? ⟨gg, o, none⟩ = wr.cell? ⟨gg, o, none⟩ := fun o => cell_block (p := ⟨gg, o, none⟩) (store5_other _ _ _ (show gg ≠ ga + 1 by have := HS4.out; omega) _ _ _ _ _)
                have hce : ∀ o, o < i * 5 → wr.cell? ⟨gg, o, none⟩ = xs[o]? := fun o ho => HOW.out.cellAt o ho
                refine ⟨gg, 0, v0, v1, v2, v3, v4, show w.heap.size ≤ gg by have := HS4.out; have := HGA.out; omega, rfl, ?_, ?_, ?_, ?_, ?_, hr.keep hsm hsb⟩
                · exact (hst _).trans ((hce _ (by omega)).trans (by rw [Nat.zero_add]; exact q0))
                · exact (hst _).trans ((hce _ (by omega)).trans (by rw [Nat.zero_add]; exact q1))
                · exact (hst _).trans ((hce _ (by omega)).trans (by rw [Nat.zero_add]; exact q2))
                · exact (hst _).trans ((hce _ (by omega)).trans (by rw [Nat.zero_add]; exact q3))
                · exact (hst _).trans ((hce _ (by omega)).trans (by rw [Nat.zero_add]; exact q4))
    · obtain ⟨e0, e1, e2, e3, e4, ef⟩ := cells5 HN1r.out
      have ef0 := ef 0
      have ef1 := ef 1
      have ef2 := ef 2
      have ef3 := ef 3
      have ef4 := ef 4
      have HNG := Lib.hid (show ¬ Gr cs ts l (d + 1) s from fun ⟨j, hj, h⟩ => HNO.out j (by omega) h)
      clear ef
      go_wp2_with fail
      have hfin := store5_below (HB1.out.trans (HB.out.mono HB1.out.size)) (ga + 1) (by rw [← HGA.out]; omega) (.int .i64 0) (.string ⟨#[]⟩) (.int .i64 0) (.slice none 0 0) (.slice none 0 0)
      exact ret_ct rfl rfl rfl (store5_block HN1r.out _ _ _ _ _) ⟨hfin, _, _, _, _, _, _, _, _, _, false, rfl, .inr ⟨rfl, HNG.out, rfl⟩⟩
end Go.Proofs.Ytlaibimdkamcfaa
