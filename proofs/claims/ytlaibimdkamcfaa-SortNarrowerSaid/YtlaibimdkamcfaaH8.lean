import Derived.Test.YtlaibimdkamcfaaH7
/-
  Open and Check: the error of a theory's classes, type constructors and arities.
-/
namespace Go.Proofs.Ytlaibimdkamcfaa
open Go.RowKit Go.Maps Go.WideMaps

/-- What openClasses leaves, with all that is known of it. -/
theorem openClasses_full (cb co cc : Nat) (ca : Option Addr) (cs : List Cls) (w : World) (hca : cs ≠ [] → ca = some ⟨cb, co, none⟩) (hcs : ClassesAt w cb co cs) (hl : cs.length ≤ maxLen) :
    Calls Try.prog 41 #[.slice ca cs.length cc] w fun e w' =>
      (openErr cs ≠ 0 ∧ e = .returned (.tuple #[.agg #[.slice none 0 0, .map none, .slice none 0 0, .slice none 0 0, .slice none 0 0, .map none, .map none], .int .i64 (openErr cs)]) ∧ Below w.heap.size w w') ∨
      (openErr cs = 0 ∧ ∃ (A : Alg) (na ua aa : Option Addr) (nc uc bc mb ab G n : Nat) (D : DataW Unit) (us ws : List Value), e = .returned (.tuple #[.agg #[.slice na cs.length nc, .map (some mb), .slice ua cs.length uc, .slice aa cs.length bc, .slice none 0 0, .map none, .map none], .int .i64 0]) ∧
        OC cs w.heap.size G mb cs.length cs.length cs.length cs.length w' (.slice na cs.length nc) (.slice ua cs.length uc) (.slice aa cs.length bc) D us ws ∧ A.n = cs.length ∧ AlgAt A w' mb n ab 0 D ∧ (0 < A.n → aa = some ⟨ab, 0, none⟩) ∧ mb < w'.heap.size ∧ ab < w'.heap.size ∧
        A.known = knownB cs ∧ A.below = belowB cs ∧ Below w.heap.size w w') := by
  refine (openClasses_any cb co cc ca cs w hca hcs hl).mono fun e w' h => ?_
  rcases h with h | ⟨hO, vn, vu, va, G, mb, D, us, ws, he, hOC, hb⟩
  · exact .inl h
  · refine .inr ⟨hO, ?_⟩
    obtain ⟨na, nc, rfl⟩ := own_slice hOC.names
    obtain ⟨ua, uc, rfl⟩ := own_slice hOC.sups
    have hmb : mb < w'.heap.size := by obtain ⟨es, ck, h1, _⟩ := hOC.map; exact (Array.getElem?_eq_some_iff.1 h1).1
    have hk : ∀ s : ByteArray, Maps.has D (.string s.data.toList) = knownB cs s := fun s => by
      have := hOC.has s
      rw [List.take_length] at this
      rw [Bool.eq_iff_iff, this]
      unfold knownB
      simp
    have hat : ∀ s : ByteArray, knownB cs s = true → D.atKey (.string s.data.toList) (.lit (.int .i64 0)) = .lit (.int .i64 (idxOfC cs s : Nat)) := fun s hs => by
      have := hOC.at_ s
      rw [List.take_length] at this
      exact this (by unfold knownB at hs; simpa using hs)
    have hbel : (algOf cs ws hO).below = belowB cs := funext fun x => funext fun y => below_algOf hOC hO x y
    rcases hOC.abv.2 with ⟨rfl, h0⟩ | ⟨g, cap, cur, rfl, hgB, hg, rest⟩
    · have e0 : Value.slice none 0 0 = Value.slice none cs.length 0 := by rw [h0]
      rw [e0] at hOC
      exact ⟨algOf cs ws hO, na, ua, none, nc, uc, 0, mb, mb, G, _, D, us, ws, by rw [he, h0], hOC, rfl, ⟨hOC.map, hk, hat, fun i hi => by have : i < cs.length := hi; omega⟩, fun h => by have : 0 < cs.length := h; omega, hmb, hmb, rfl, hbel, hb⟩
    · refine ⟨algOf cs ws hO, na, ua, some ⟨g, 0, none⟩, nc, uc, cap, mb, g, G, _, D, us, ws, he, hOC, rfl, ⟨hOC.map, hk, hat, fun i hi k hk => ?_⟩, fun _ => rfl, hmb, (Array.getElem?_eq_some_iff.1 hg).1, rfl, hbel, hb⟩
      have hi' : i < cs.length := hi
      obtain ⟨f, h1, h2, _⟩ := hOC.bits i hi' k hk
      rw [Nat.zero_add]
      have := own_get5 hOC.abv (k := i * 5 + k) (by omega) h2
      rw [this]
      show _ = some (Value.int .u64 (wordV ws (i * 5 + k) : Nat))
      rw [wordV_eq h2 h1]

theorem names_small {W : World} {b o : Nat} {cs : List Cls} (h : ClassesAt W b o cs) (k : Nat) (hk : k < cs.length) : (clsAt cs k).name.size ≤ maxLen := by
  obtain ⟨_, _, _, _, _, _, _, _, _, h5, _⟩ := h k hk
  rw [clsAt_eq hk]
  exact h5

theorem open_ret {T : Ending → World → Prop} {tmps : Array Value} {W : World} {g : Nat} {a0 a1 a2 a3 a4 a5 a6 v3 : Value} (h2 : tmps.getD 2 undef = .pointer (some ⟨g, 0, none⟩)) (h3 : tmps.getD 3 undef = v3)
    (hg : W.heap[g]? = some (.cells #[a0, a1, a2, a3, a4, a5, a6] 70 (0, 0))) (hT : T (.returned (.tuple #[.agg #[a0, a1, a2, a3, a4, a5, a6], v3])) W) : bodyPost Try.prog Try.f36 T Exit.ret { tmps := tmps, defers := [] } W :=
  bodyPost_ret (results_ct rfl tmps W ⟨g, 0, none⟩ _ h2 (run_loadVar_row W g 70 70 _ _ _ hg Try.underlying70 rfl (by kernel_rfl))) rfl (by rw [h3]; exact hT)

set_option maxRecDepth 100000 in
set_option maxHeartbeats 8000000 in
theorem open_any {nm : ByteArray} {ca ta ra oa ya qa : Option Addr} {cc tc rc on oc yn yc qn qc cb co tb to rb ro : Nat} {cs : List Cls} {ts : List TD} {l : List Ari} {g : Nat} {W0 : World} (h : ThyF nm ca ta ra oa ya qa cc tc rc on oc yn yc qn qc cb co tb to rb ro cs ts l g W0) (w : World) (hb : Below W0.heap.size W0 w) :
    Calls Try.prog 36 #[.agg #[.string nm, .slice ca cs.length cc, .slice ta ts.length tc, .slice ra l.length rc, .slice oa on oc, .slice ya yn yc, .slice qa qn qc]] w fun e w' => (∃ x0 n0 c0 m1 x2 n2 c2 x3 n3 c3 x4 n4 c4 m5 m6, e = .returned (.tuple #[.agg #[.slice x0 n0 c0, .map m1, .slice x2 n2 c2, .slice x3 n3 c3, .slice x4 n4 c4, .map m5, .map m6], .int .i64 (checkErr cs ts l)])) ∧ Below w.heap.size w w' := by
  have h := h.later hb
  clear hb
  have b0 : Below w.heap.size w (w.alloc (.cells #[.string nm, .slice ca cs.length cc, .slice ta ts.length tc, .slice ra l.length rc, .slice oa on oc, .slice ya yn yc, .slice qa qn qc] 29)) := (Below.refl _ w).alloc (Nat.le_refl _) _
  have b1 : Below w.heap.size w ((w.alloc (.cells #[.string nm, .slice ca cs.length cc, .slice ta ts.length tc, .slice ra l.length rc, .slice oa on oc, .slice ya yn yc, .slice qa qn qc] 29)).alloc (.cells #[.slice none 0 0, .map none, .slice none 0 0, .slice none 0 0, .slice none 0 0, .map none, .map none] 70)) := b0.alloc (by simp) _
  have n0 : ((w.alloc (.cells #[.string nm, .slice ca cs.length cc, .slice ta ts.length tc, .slice ra l.length rc, .slice oa on oc, .slice ya yn yc, .slice qa qn qc] 29)).alloc (.cells #[.slice none 0 0, .map none, .slice none 0 0, .slice none 0 0, .slice none 0 0, .map none, .map none] 70)).heap[w.heap.size]? = some (.cells #[.string nm, .slice ca cs.length cc, .slice ta ts.length tc, .slice ra l.length rc, .slice oa on oc, .slice ya yn yc, .slice qa qn qc] 29 (0, 0)) := by rw [Below.heap_alloc _ _ _ (by simp)]; exact heap_alloc_new w _
  have n1 : ((w.alloc (.cells #[.string nm, .slice ca cs.length cc, .slice ta ts.length tc, .slice ra l.length rc, .slice oa on oc, .slice ya yn yc, .slice qa qn qc] 29)).alloc (.cells #[.slice none 0 0, .map none, .slice none 0 0, .slice none 0 0, .slice none 0 0, .map none, .map none] 70)).heap[w.heap.size + 1]? = some (.cells #[.slice none 0 0, .map none, .slice none 0 0, .slice none 0 0, .slice none 0 0, .map none, .map none] 70 (0, 0)) := Go.heap_alloc2_new w _ _
  have HTH := Lib.hid (h.boxed b1 n0)
  have HN := Lib.hid n1
  have HB1 := Lib.hid b1
  have HW1 := Lib.hid (show ((w.alloc (.cells #[.string nm, .slice ca cs.length cc, .slice ta ts.length tc, .slice ra l.length rc, .slice oa on oc, .slice ya yn yc, .slice qa qn qc] 29)).alloc (.cells #[.slice none 0 0, .map none, .slice none 0 0, .slice none 0 0, .slice none 0 0, .map none, .map none] 70)).heap.size = w.heap.size + 2 by simp)
  clear b0 b1 n0 n1 h
  obtain ⟨R, hR⟩ : ∃ R, checkErr cs ts l = R := ⟨_, rfl⟩
  rw [hR]
  have HR := Lib.hid hR
  clear hR
  go_enter Try.func36, Try.ntmps36
  obtain ⟨w1, hw1⟩ : ∃ q, (w.alloc (.cells #[.string nm, .slice ca cs.length cc, .slice ta ts.length tc, .slice ra l.length rc, .slice oa on oc, .slice ya yn yc, .slice qa qn qc] 29)).alloc (.cells #[.slice none 0 0, .map none, .slice none 0 0, .slice none 0 0, .slice none 0 0, .map none, .map none] 70) = q := ⟨_, rfl⟩
  rw [hw1] at HTH HN HB1 HW1
  have HE1 := Lib.hid hw1
  obtain ⟨g0, g1, g2, g3, g4, g5, g6⟩ := HTH.out.at_.cells
  rw [← hw1] at g1
  clear hw1
  go_wp2_with fail
  rw [HE1.out]
  clear g0 g1 g2 g3 g4 g5 g6
  refine (openClasses_full cb co cc ca cs w1 HTH.out.at_.cla HTH.out.at_.thy.cls HTH.out.at_.len).mono ?_
  rintro e w2 (⟨hE, rfl, hb2⟩ | ⟨hO, A, na, ua, aa, nc, uc, bc, mb, ab, G, n, D, us, ws, rfl, hOC, hn, hat, haa, hmb, hab, hkn, hbe, hb2⟩)
  · have hR : openErr cs = R := by rw [← HR.out, checkErr_open hE]
    rw [hR] at hE ⊢
    have q1 : (R == 0) = false := by simpa using hE
    have q2 : (R != 0) = true := by simpa using hE
    have b3 : Below w2.heap.size w2 (w2.alloc (.cells #[.slice none 0 0, .map none, .slice none 0 0, .slice none 0 0, .slice none 0 0, .map none, .map none] 70)) := (Below.refl _ _).alloc (Nat.le_refl _) _
    have HN3 := Lib.hid ((b3.block _ (Nat.lt_of_lt_of_le (Array.getElem?_eq_some_iff.1 HN.out).1 hb2.size)).trans ((hb2.block _ (Array.getElem?_eq_some_iff.1 HN.out).1).trans HN.out))
    have HB3 := Lib.hid ((HB1.out.trans (hb2.mono HB1.out.size)).trans (b3.mono (Nat.le_trans HB1.out.size hb2.size)))
    clear b3 hb2 hE hR
    obtain ⟨k0, k1, k2, k3, k4, k5, k6, kf⟩ := box7 HN3.out
    have kf0 := kf 0
    have kf1 := kf 1
    have kf2 := kf 2
    have kf3 := kf 3
    have kf4 := kf 4
    have kf5 := kf 5
    have kf6 := kf 6
    clear kf
    go_wp2_with fail
    show bodyPost _ _ _ _ _ (store7 (w2.alloc (.cells #[.slice none 0 0, .map none, .slice none 0 0, .slice none 0 0, .slice none 0 0, .map none, .map none] 70)) (w.heap.size + 1) (.slice none 0 0) (.map none) (.slice none 0 0) (.slice none 0 0) (.slice none 0 0) (.map none) (.map none))
    exact open_ret rfl rfl (store7_block HN3.out _ _ _ _ _ _ _) ⟨⟨_, _, _, _, _, _, _, _, _, _, _, _, _, _, _, rfl⟩, store7_below HB3.out _ (by omega) _ _ _ _ _ _ _⟩
  · have b3 : Below w2.heap.size w2 (w2.alloc (.cells #[.slice na cs.length nc, .map (some mb), .slice ua cs.length uc, .slice aa cs.length bc, .slice none 0 0, .map none, .map none] 70)) := (Below.refl _ _).alloc (Nat.le_refl _) _
    have n3 := heap_alloc_new w2 (.cells #[.slice na cs.length nc, .map (some mb), .slice ua cs.length uc, .slice aa cs.length bc, .slice none 0 0, .map none, .map none] 70)
    have HG3 := Lib.hid n3
    have HNr3 := Lib.hid ((b3.block _ (Nat.lt_of_lt_of_le (Array.getElem?_eq_some_iff.1 HN.out).1 hb2.size)).trans ((hb2.block _ (Array.getElem?_eq_some_iff.1 HN.out).1).trans HN.out))
    have HB13 := Lib.hid (hb2.trans (b3.mono hb2.size))
    have HB3 := Lib.hid (HB1.out.trans (HB13.out.mono HB1.out.size))
    have HZ3 := Lib.hid (show (w2.alloc (.cells #[.slice na cs.length nc, .map (some mb), .slice ua cs.length uc, .slice aa cs.length bc, .slice none 0 0, .map none, .map none] 70)).heap.size = w2.heap.size + 1 by simp)
    have HO := Lib.hid hO
    have HOC := Lib.hid hOC
    have HNN := Lib.hid hn
    have HA := Lib.hid (hat.below b3 hmb hab)
    have HAA := Lib.hid haa
    have HKN := Lib.hid hkn
    have HBE := Lib.hid hbe
    have HT3 := Lib.hid (HTH.out.later HB13.out)
    have HB2 := Lib.hid hb2
    have HB23 := Lib.hid b3
    have hlr := (Array.getElem?_eq_some_iff.1 HN.out).1
    have HNS := Lib.hid (names_small HTH.out.at_.thy.cls)
    clear hO hOC hn hat haa hkn hbe n3 b3 hb2
    obtain ⟨g0, g1, g2, g3, g4, g5, g6⟩ := HT3.out.at_.cells
    go_wp2_with fail
    generalize (w2.alloc (.cells #[.slice na cs.length nc, .map (some mb), .slice ua cs.length uc, .slice aa cs.length bc, .slice none 0 0, .map none, .map none] 70)) = w3 at *
    obtain ⟨ga, hga⟩ : ∃ q, w2.heap.size = q := ⟨_, rfl⟩
    rw [hga] at HG3 HZ3 hmb hab ⊢
    have HGA := Lib.hid hga
    have hlr2 : w.heap.size + 1 < ga := by rw [← hga]; exact Nat.lt_of_lt_of_le hlr HB2.out.size
    clear hga
    have hz3 : ga + 1 ≤ w3.heap.size ∧ w3.heap.size ≤ ga + 1 := by rw [HZ3.out]; exact ⟨Nat.le_refl _, Nat.le_refl _⟩
    obtain ⟨tb', t1, t2, t3⟩ : ∃ tb', (ts ≠ [] → ta = some ⟨tb', to, none⟩) ∧ TypesAt w3 tb' to ts ∧ tb' ≠ ga := by
      by_cases e : ts = []
      · exact ⟨ga + 1, fun h => absurd e h, by subst e; intro i hi; simp at hi, by omega⟩
      · refine ⟨tb, HT3.out.tya, HT3.out.tys, fun e' => ?_⟩
        have h1 := (HTH.out.tys 0 (List.length_pos_iff.2 e)).1
        have h2 := HB2.out.size
        have h3 := HGA.out
        omega
    refine (addTypes_any w3 HG3.out t1 t2 HT3.out.tyl t3).mono ?_
    rintro e w4 ⟨hx4, (⟨hE, rfl⟩ | ⟨hE, rfl, v4, mt, nt, Dt, ho4, hb4, htk, hmt⟩)⟩
    · have hR : typesErr ts = R := by rw [← HR.out, checkErr_types HO.out hE]
      rw [hR] at hE ⊢
      have q1 : (R == 0) = false := by simpa using hE
      have q2 : (R != 0) = true := by simpa using hE
      have HNr4 := Lib.hid ((hx4.block _ (by omega) (by omega)).trans HNr3.out)
      have HB4 := Lib.hid (below_butX HB3.out hx4 (by omega) HB3.out.size)
      obtain ⟨k0, k1, k2, k3, k4, k5, k6, kf⟩ := box7 HNr4.out
      have kf0 := kf 0
      have kf1 := kf 1
      have kf2 := kf 2
      have kf3 := kf 3
      have kf4 := kf 4
      have kf5 := kf 5
      have kf6 := kf 6
      clear kf hx4 hE hR g0 g1 g2 g3 g4 g5 g6 t1 t2 t3
      go_wp2_with fail
      show bodyPost _ _ _ _ _ (store7 w4 (w.heap.size + 1) (.slice none 0 0) (.map none) (.slice none 0 0) (.slice none 0 0) (.slice none 0 0) (.map none) (.map none))
      exact open_ret rfl rfl (store7_block HNr4.out _ _ _ _ _ _ _) ⟨⟨_, _, _, _, _, _, _, _, _, _, _, _, _, _, _, rfl⟩, store7_below HB4.out _ (by omega) _ _ _ _ _ _ _⟩
    · obtain ⟨t4, t4c, rfl⟩ := own_slice ho4
      have HNr4 := Lib.hid ((hx4.block _ (by omega) (by omega)).trans HNr3.out)
      have HB4 := Lib.hid (below_butX HB3.out hx4 (by omega) HB3.out.size)
      have HX4 := Lib.hid hx4
      have HBX4 := Lib.hid hb4
      have HTK4 := Lib.hid htk
      have HTE := Lib.hid hE
      have hmg : mb ≠ ga := by omega
      have hag : ab ≠ ga := by omega
      have HA4 := Lib.hid (HA.out.butX hx4 (by omega) (by omega) hmg hag)
      have HTHg : Hid (w4.heap[w.heap.size]? = some (.cells #[.string nm, .slice ca cs.length cc, .slice ta ts.length tc, .slice ra l.length rc, .slice oa on oc, .slice ya yn yc, .slice qa qn qc] 29 (0, 0))) := Lib.hid ((hx4.block _ (by omega) (by omega)).trans HT3.out.at_.thy.box)
      have hs4 := hx4.size
      have hf3 : w4.cell? ⟨w.heap.size, 3, none⟩ = some (.slice ra l.length rc) := by rw [Lib.cell_of_heap HTHg.out]; rfl
      clear hx4 hb4 htk hE g0 g1 g2 g3 g4 g5 g6 t1 t2 t3 ho4
      go_wp2_with fail
      refine (addArities_any A na ua aa t4 ra cs.length nc cs.length uc bc ts.length t4c mb n ab 0 mt nt ga rb ro rc D Dt cs ts l w1 w4 (below_butX HB13.out HX4.out (by have := HB2.out.size; have := HGA.out; omega) HB13.out.size) (by have := HB2.out.size; have := HGA.out; omega) (by rw [HNN.out]; exact HBX4.out) HA4.out HAA.out (by omega) (by omega) hmg hag HKN.out HBE.out HTK4.out (by omega) HTE.out HTH.out.ara HTH.out.ars HTH.out.arl).mono ?_
      rw [HNN.out]
      rintro e w5 ⟨hx5, (⟨hE, rfl⟩ | ⟨hE, rfl, ms, np, Dp, hb5, hp5, hms⟩)⟩
      · have hR : arisErr cs ts l = R := by rw [← HR.out, checkErr_aris HO.out HTE.out hE]
        rw [hR] at hE ⊢
        have q1 : (R == 0) = false := by simpa using hE
        have q2 : (R != 0) = true := by simpa using hE
        have HNr5 := Lib.hid ((hx5.block _ (by omega) (by omega)).trans HNr4.out)
        have HB5 := Lib.hid (below_butX HB4.out hx5 (by omega) HB4.out.size)
        obtain ⟨k0, k1, k2, k3, k4, k5, k6, kf⟩ := box7 HNr5.out
        have kf0 := kf 0
        have kf1 := kf 1
        have kf2 := kf 2
        have kf3 := kf 3
        have kf4 := kf 4
        have kf5 := kf 5
        have kf6 := kf 6
        clear kf hx5 hE hR hf3
        go_wp2_with fail
        show bodyPost _ _ _ _ _ (store7 w5 (w.heap.size + 1) (.slice none 0 0) (.map none) (.slice none 0 0) (.slice none 0 0) (.slice none 0 0) (.map none) (.map none))
        exact open_ret rfl rfl (store7_block HNr5.out _ _ _ _ _ _ _) ⟨⟨_, _, _, _, _, _, _, _, _, _, _, _, _, _, _, rfl⟩, store7_below HB5.out _ (by omega) _ _ _ _ _ _ _⟩
      · have hx45 := HX4.out.trans hx5
        have HNr5 := Lib.hid ((hx5.block _ (by omega) (by omega)).trans HNr4.out)
        have HB5 := Lib.hid (below_butX HB4.out hx5 (by omega) HB4.out.size)
        have HB15 := Lib.hid (below_butX (below_butX HB13.out HX4.out (by have := HB2.out.size; have := HGA.out; omega) HB13.out.size) hx5 (by have := HB2.out.size; have := HGA.out; omega) (Nat.le_trans HB13.out.size HX4.out.size))
        have hf3' : w5.cell? ⟨w.heap.size, 3, none⟩ = some (.slice ra l.length rc) := by rw [Lib.cell_of_heap ((hx5.block _ (by omega) (by omega)).trans HTHg.out)]; rfl
        have hblk : ∀ (b : Nat) (o : Obj), w2.heap[b]? = some o → w5.heap[b]? = some o := fun b o hb => by
          have h1 := (Array.getElem?_eq_some_iff.1 hb).1
          have h2 := HGA.out
          exact (hx45.block b (by omega) (by omega)).trans ((HB23.out.block b h1).trans hb)
        have HOC5 := Lib.hid (HOC.out.move (W' := w5) (fun b o hb _ => hblk b o hb) (hblk _ _ HOC.out.box))
        have hAr := HTH.out.ars.later HB15.out
        have hA5 := HA4.out.butX hx5 (by omega) (by omega) hmg hag
        have hs5 := hx5.size
        have HCP := Lib.hid (complete_any A na ua aa t4 ra nc uc bc ts.length t4c mb G w1.heap.size n ab mt ms np rb ro rc D Dp us ws cs ts l w5 HOC5.out HO.out hE HNN.out hA5 HAA.out (by omega) (by omega) HKN.out HBE.out hp5 HTH.out.ara hAr (aris_le hE) HNS.out)
        obtain ⟨k0, k1, k2, k3, k4, k5, k6, _⟩ := box7 hb5
        have HB55 := Lib.hid hb5
        have hsum : R = if regularB cs l = true then 0 else 31 := by
          rw [← HR.out]
          unfold checkErr
          rw [if_neg (by simpa using HO.out), if_neg (by simpa using HTE.out), if_neg (by simpa using hE)]
        obtain ⟨r, hr⟩ : ∃ r, regularB cs l = r := ⟨_, rfl⟩
        rw [hr] at HCP hsum
        have HS := Lib.hid hsum
        clear hsum hr hblk hAr hA5 hE hx45 hx5 hb5 hp5 hf3
        go_wp2_with fail
        refine HCP.out.mono ?_
        rintro e w6 ⟨rfl, hb6⟩
        have HNr6 := Lib.hid ((hb6.block _ (by omega)).trans HNr5.out)
        have HB6 := Lib.hid (HB5.out.trans (hb6.mono HB5.out.size))
        have HB56 := Lib.hid ((hb6.block _ (by omega)).trans HB55.out)
        clear hb6 k0 k1 k2 k3 k4 k5 k6 hf3'
        obtain ⟨k0, k1, k2, k3, k4, k5, k6, _⟩ := box7 HB56.out
        obtain ⟨m0, m1, m2, m3, m4, m5, m6, kf⟩ := box7 HNr6.out
        have kf0 := kf 0
        have kf1 := kf 1
        have kf2 := kf 2
        have kf3 := kf 3
        have kf4 := kf 4
        have kf5 := kf 5
        have kf6 := kf 6
        clear kf
        cases r with
        | false =>
          have hR := HS.out
          rw [if_neg (by decide)] at hR
          subst hR
          go_wp2_with fail
          show bodyPost _ _ _ _ _ (store7 w6 (w.heap.size + 1) (.slice none 0 0) (.map none) (.slice none 0 0) (.slice none 0 0) (.slice none 0 0) (.map none) (.map none))
          exact open_ret rfl rfl (store7_block HNr6.out _ _ _ _ _ _ _) ⟨⟨_, _, _, _, _, _, _, _, _, _, _, _, _, _, _, rfl⟩, store7_below HB6.out _ (by omega) _ _ _ _ _ _ _⟩
        | true =>
          have hR := HS.out
          rw [if_pos rfl] at hR
          subst hR
          go_wp2_with fail
          show bodyPost _ _ _ _ _ (store7 w6 (w.heap.size + 1) _ _ _ _ _ _ _)
          exact open_ret rfl rfl (store7_block HNr6.out _ _ _ _ _ _ _) ⟨⟨_, _, _, _, _, _, _, _, _, _, _, _, _, _, _, rfl⟩, store7_below HB6.out _ (by omega) _ _ _ _ _ _ _⟩

set_option maxRecDepth 100000 in
set_option maxHeartbeats 8000000 in
theorem sortCheck_any {nm : ByteArray} {ca ta ra oa ya qa : Option Addr} {cc tc rc on oc yn yc qn qc cb co tb to rb ro : Nat} {cs : List Cls} {ts : List TD} {l : List Ari} {g : Nat} {W0 : World} (h : ThyF nm ca ta ra oa ya qa cc tc rc on oc yn yc qn qc cb co tb to rb ro cs ts l g W0) (w : World) (hb : Below W0.heap.size W0 w) :
    Calls Try.prog 12 #[.agg #[.string nm, .slice ca cs.length cc, .slice ta ts.length tc, .slice ra l.length rc, .slice oa on oc, .slice ya yn yc, .slice qa qn qc]] w fun e w' => e = .returned (.int .i64 (checkErr cs ts l)) ∧ Below W0.heap.size W0 w' := by
  have b0 : Below w.heap.size w (w.alloc (.cells #[.string nm, .slice ca cs.length cc, .slice ta ts.length tc, .slice ra l.length rc, .slice oa on oc, .slice ya yn yc, .slice qa qn qc] 29)) := (Below.refl _ w).alloc (Nat.le_refl _) _
  have n0 := heap_alloc_new w (.cells #[.string nm, .slice ca cs.length cc, .slice ta ts.length tc, .slice ra l.length rc, .slice oa on oc, .slice ya yn yc, .slice qa qn qc] 29)
  have HB0 := Lib.hid (hb.trans (b0.mono hb.size))
  have HOP := Lib.hid (open_any h (w.alloc (.cells #[.string nm, .slice ca cs.length cc, .slice ta ts.length tc, .slice ra l.length rc, .slice oa on oc, .slice ya yn yc, .slice qa qn qc] 29)) HB0.out)
  obtain ⟨g0, g1, g2, g3, g4, g5, g6⟩ := ((h.later hb).boxed b0 n0).at_.cells
  clear h b0 n0 hb
  obtain ⟨R, hR⟩ : ∃ R, checkErr cs ts l = R := ⟨_, rfl⟩
  rw [hR] at HOP ⊢
  clear hR
  go_enter Try.func12, Try.ntmps12
  go_wp2_with fail
  refine HOP.out.mono ?_
  rintro e w2 ⟨⟨x0, n0, c0, m1, x2, n2, c2, x3, n3, c3, x4, n4, c4, m5, m6, rfl⟩, hb2⟩
  have HB2 := Lib.hid (HB0.out.trans (hb2.mono HB0.out.size))
  have HB3 := Lib.hid (HB2.out.trans (((Below.refl w2.heap.size w2).alloc (Nat.le_refl _) (.cells #[.slice x0 n0 c0, .map m1, .slice x2 n2 c2, .slice x3 n3 c3, .slice x4 n4 c4, .map m5, .map m6] 70)).mono HB2.out.size))
  clear g0 g1 g2 g3 g4 g5 g6 hb2
  go_wp2_with fail
  go_ret
  exact ⟨rfl, HB3.out⟩
end Go.Proofs.Ytlaibimdkamcfaa
