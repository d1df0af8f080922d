import Derived.Test.YtlaibimdkamcfaaH8
import Derived.Test.YtlaibimdkamcfaaH2
import Derived.Test.YtlaibimdkamcfaaK14
/-
  SortChecks: the statement's own walk.
-/
namespace Go.Proofs.Ytlaibimdkamcfaa
open Go.RowKit Go.Maps

attribute [local go_sem] Oper.semAt_some

theorem askedIn_wide {P : Program} {o : Oper} {a : Act} {C : World → Prop} : Oper.askedIn Fence.wide P o a C ↔ True := ⟨fun _ => trivial, fun _ _ _ _ _ => trivial⟩

theorem wpIn_region_quiet_class {F : Fence} {n : Nat} {P : Program} {Q : Exit → Act → World → Prop} {id : Nat} {a : Act} {w : World} {L : List Oper} (C : World → Prop) (hC : C w.drew) (hro : F.round = none) (hm : P.follows .mixedOrders = true) (hB : Region.lexB .any L.toArray = true)
    (h : wpQuietIn F n P L.toArray C (fun a' => ∀ w', C w' → Q .normal a' w') L a) : (Code.region id L.toArray true).wpIn F n P Q a w := by
  have hB' := hB
  simp only [Region.lexB, Bool.and_eq_true] at hB
  refine wpIn_region_any hm (wpAnyIn_of_quiet (C := C) (Q := fun a' => ∀ w', C w' → Q .normal a' w') hro (fun _ w' hw' h => h w' hw') _ _ _ _ hC ?_)
  have := wpAnyQIn_lex (F := F) (n := n) (C := C) (md := .any) hB.1 L 0 (Array.replicate L.toArray.size false) a (by simp) (by simpa using hB.2) h
  simpa using this

theorem bw_own {W : World} {f : FuncId} {args : Array Value} {v : Value} {x : BW W} (h : Calls Try.prog f args x.v fun e w' => e = .returned v ∧ Below x.v.heap.size x.v w') (k : Nat) : CallsIn Fence.wide k Try.prog f args x.v fun e w' => e = .returned v ∧ ∃ y : BW W, w' = y.v :=
  (callsIn_wide.2 h).mono (by rintro e w' ⟨he, hb⟩; exact ⟨he, ⟨w', x.h.trans (hb.mono x.h.size)⟩, rfl⟩)
theorem bw_from {W : World} {f : FuncId} {args : Array Value} {v : Value} {x : BW W} (h : Calls Try.prog f args x.v fun e w' => e = .returned v ∧ Below W.heap.size W w') (k : Nat) : CallsIn Fence.wide k Try.prog f args x.v fun e w' => e = .returned v ∧ ∃ y : BW W, w' = y.v :=
  (callsIn_wide.2 h).mono (by rintro e w' ⟨he, hb⟩; exact ⟨he, ⟨w', hb⟩, rfl⟩)
theorem bw_same {W : World} {f : FuncId} {args : Array Value} {v : Value} {x : BW W} (h : Calls Try.prog f args x.v fun e w' => e = .returned v ∧ x.v = w') (k : Nat) : CallsIn Fence.wide k Try.prog f args x.v fun e w' => e = .returned v ∧ ∃ y : BW W, w' = y.v :=
  (callsIn_wide.2 h).mono (by rintro e w' ⟨he, rfl⟩; exact ⟨he, x, rfl⟩)

set_option maxRecDepth 100000 in
set_option maxHeartbeats 8000000 in
theorem sortChecks_in (m : Nat) (nm : ByteArray) (ca ta ra oa ya qa : Option Addr) (cc tc rc on oc yn yc qn qc cb co tb to rb ro : Nat) (cs : List Cls) (ts : List TD) (l : List Ari) (xc zc : Nat) (xa za : Option Addr) (x y : List ByteArray) (a b : ByteArray) (w : World) (hmm : 4 ≤ m)
    (hca : cs ≠ [] → ca = some ⟨cb, co, none⟩) (hcs : ClassesAt w cb co cs) (hcl : cs.length ≤ 9223372036854775807) (hta : ts ≠ [] → ta = some ⟨tb, to, none⟩) (hts : TypesAt w tb to ts) (htl : ts.length ≤ 9223372036854775807) (hra : l ≠ [] → ra = some ⟨rb, ro, none⟩) (has : ArisAt w rb ro l) (hal : l.length ≤ 9223372036854775807)
    (hx : SortAt w xa x) (hy : SortAt w za y) (hsa : a.size ≤ maxLen) (hsb : b.size ≤ maxLen) :
    CallsIn Fence.wide m Try.prog 3 #[.agg #[.string nm, .slice ca cs.length cc, .slice ta ts.length tc, .slice ra l.length rc, .slice oa on oc, .slice ya yn yc, .slice qa qn qc], .slice xa x.length xc, .slice za y.length zc, .string a, .string b] w fun e w' => e = .returned (.bool true) ∧ Below w.heap.size w w' := by
  have hdd : ∀ k : Nat, (Fence.wide.depth.isSome = true → 1 ≤ k) := fun k h => by cases h
  have hclm : cs.length ≤ maxLen := by unfold maxLen; omega
  have hb0 : Below w.heap.size w (w.alloc (.cells #[.string nm, .slice ca cs.length cc, .slice ta ts.length tc, .slice ra l.length rc, .slice oa on oc, .slice ya yn yc, .slice qa qn qc] 29)) := (Below.refl _ w).alloc (Nat.le_refl _) _
  have HTH := Lib.hid (show ThyF nm ca ta ra oa ya qa cc tc rc on oc yn yc qn qc cb co tb to rb ro cs ts l w.heap.size (w.alloc (.cells #[.string nm, .slice ca cs.length cc, .slice ta ts.length tc, .slice ra l.length rc, .slice oa on oc, .slice ya yn yc, .slice qa qn qc] 29)) from
    ⟨ThyAt.mk (Thy.mk (heap_alloc_new w (.cells #[.string nm, .slice ca cs.length cc, .slice ta ts.length tc, .slice ra l.length rc, .slice oa on oc, .slice ya yn yc, .slice qa qn qc] 29)) (hcs.later hb0)) hca hclm, hta, hts.later hb0, htl, hra, has.later hb0, hal⟩)
  have hfew := few_any nm ca ta ra oa ya qa cc ts.length tc rc on oc yn yc qn qc cb co rb ro cs (l.map fun a => a.sorts.map List.length) (w.alloc (.cells #[.string nm, .slice ca cs.length cc, .slice ta ts.length tc, .slice ra l.length rc, .slice oa on oc, .slice ya yn yc, .slice qa qn qc] 29)) hca (hcs.later hb0) hcl htl (fun hne => hra (by simpa using hne)) (has.later hb0).lens (by simpa using hal)
  rw [List.length_map] at hfew
  have HFEW := Lib.hid hfew
  have HX := Lib.hid (hx.later hb0)
  have HY := Lib.hid (hy.later hb0)
  have hlx : x.length ≤ 9223372036854775807 := hx.choose_spec.choose_spec.2.2
  have hly : y.length ≤ 9223372036854775807 := hy.choose_spec.choose_spec.2.2
  have HB0 := Lib.hid hb0
  clear hb0 hca hcs hra has hx hy hta hts hfew
  refine callsIn_of_wp Try.func3 rfl trivial ?_ rfl
  simp only [Try.ntmps3, List.size_toArray, List.length_cons, List.length_nil, Nat.reduceAdd, Nat.reduceSub, Array.replicate_succ, Array.replicate_zero, List.push_toArray, List.append_toArray, List.nil_append, List.cons_append]
  gi_wp2
  generalize (w.alloc (.cells #[.string nm, .slice ca cs.length cc, .slice ta ts.length tc, .slice ra l.length rc, .slice oa on oc, .slice ya yn yc, .slice qa qn qc] 29)) = w1 at *
  refine ⟨trivial, hdd _, ?_⟩
  refine (callsIn_wide.2 HFEW.out).mono ?_
  rintro e w2 ⟨f, rfl, hb2⟩
  have HTH2 := Lib.hid (HTH.out.later hb2)
  have HX2 := Lib.hid (HX.out.later hb2)
  have HY2 := Lib.hid (HY.out.later hb2)
  have HB2 := Lib.hid (HB0.out.trans (hb2.mono HB0.out.size))
  clear hb2 HFEW HTH HX HY
  cases f with
  | false =>
    gi_wp2
    refine ⟨trivial, ?_⟩
    gi_wp2
    refine ⟨trivial, hdd _, ?_⟩
    refine (callsIn_wide.2 (awake_any _)).mono ?_
    rintro e w' ⟨rfl, hb⟩
    have HAW := Lib.hid (HB2.out.trans (hb.mono HB2.out.size))
    clear hb
    gi_wp2
    go_ret
    exact ⟨rfl, HAW.out⟩
  | true =>
    have b3 : Below w2.heap.size w2 (w2.alloc (.cells #[.slice xa x.length xc, .slice za y.length zc] 27)) := (Below.refl _ _).alloc (Nat.le_refl _) _
    have n3 := heap_alloc_new w2 (.cells #[.slice xa x.length xc, .slice za y.length zc] 27)
    have z3 : (w2.alloc (.cells #[.slice xa x.length xc, .slice za y.length zc] 27)).heap.size = w2.heap.size + 1 := by simp
    have HTH3 := Lib.hid (HTH2.out.later b3)
    have HX3 := Lib.hid (HX2.out.later b3)
    have HY3 := Lib.hid (HY2.out.later b3)
    have HB3 := Lib.hid (HB2.out.trans (b3.mono HB2.out.size))
    gi_wp2
    generalize (w2.alloc (.cells #[.slice xa x.length xc, .slice za y.length zc] 27)) = w3 at *
    refine ⟨trivial, hdd _, ?_⟩
    refine (callsIn_wide.2 (fewSorts_any w2.heap.size 0 2 (some ⟨w2.heap.size, 0, none⟩) [x.length, y.length] w3 (fun _ => rfl) (fun i hi => ?_) (show (2 : Nat) ≤ 9223372036854775807 by decide))).mono ?_
    · refine ⟨by omega, ?_⟩
      rw [Lib.cell_of_heap n3, Nat.zero_add]
      match i, hi with
      | 0, _ => exact ⟨hlx, xa, xc, rfl⟩
      | 1, _ => exact ⟨hly, za, zc, rfl⟩
    rintro e w' ⟨rfl, rfl⟩
    cases hsh : shortB [x.length, y.length] with
    | false =>
      clear hsh b3 n3 z3
      gi_wp2
      refine ⟨trivial, hdd _, ?_⟩
      refine (callsIn_wide.2 (awake_any _)).mono ?_
      rintro e w' ⟨rfl, hb⟩
      have HAW := Lib.hid (HB3.out.trans (hb.mono HB3.out.size))
      clear hb
      gi_wp2
      go_ret
      exact ⟨rfl, HAW.out⟩
    | true =>
      clear hsh b3 n3 z3 HTH2 HB2 HX2 HY2
      by_cases h100 : 100 < a.size
      · gi_wp2
        refine ⟨trivial, hdd _, ?_⟩
        refine (callsIn_wide.2 (awake_any _)).mono ?_
        rintro e w' ⟨rfl, hb⟩
        have HAW := Lib.hid (HB3.out.trans (hb.mono HB3.out.size))
        clear hb
        gi_wp2
        go_ret
        exact ⟨rfl, HAW.out⟩
      · obtain ⟨xb, xo, x1, x2, x3⟩ := HX3.out
        obtain ⟨yb, yo, y1, y2, y3⟩ := HY3.out
        have hcls := HTH3.out.at_.thy.cls
        have hcla := HTH3.out.at_.cla
        have hbox := HTH3.out.at_.thy.box
        have hblk := (Array.getElem?_eq_some_iff.1 hbox).1
        obtain ⟨E, hE⟩ : ∃ E, checkErr cs ts l = E := ⟨_, rfl⟩
        obtain ⟨B, hB⟩ : ∃ B, belowT cs a b = B := ⟨_, rfl⟩
        obtain ⟨L, hL⟩ : ∃ L, lessT cs x y = L := ⟨_, rfl⟩
        obtain ⟨N, hN⟩ : ∃ N, nameB a = N := ⟨_, rfl⟩
        have K12 := Lib.hid (fun (v : BW w3) (k : Nat) => bw_from (sortCheck_any HTH3.out v.v v.h) k)
        have K13 := Lib.hid (fun (v : BW w3) (k : Nat) => bw_from (refCheck_any HTH3.out v.v v.h) k)
        have K14 := Lib.hid (fun (v : BW w3) (k : Nat) => bw_own (sortBelow_full nm ca ta ra oa ya qa cc ts.length tc l.length rc on oc yn yc qn qc cb co cs a b v.v hcla (hcls.later v.h) hclm hsa hsb) k)
        have K15 := Lib.hid (fun (v : BW w3) (k : Nat) => bw_own (refBelow_any (nm := nm) (ta := ta) (ra := ra) (oa := oa) (ya := ya) (qa := qa) (cc := cc) (tn := ts.length) (tc := tc) (rn := l.length) (rc := rc) (on := on) (oc := oc) (yn := yn) (yc := yc) (qn := qn) (qc := qc) a b v.v hcla (hcls.later v.h) hclm hsa hsb) k)
        have K16 := Lib.hid (fun (v : BW w3) (k : Nat) => bw_own (sortLess_full nm ca ta ra oa ya qa cc ts.length tc l.length rc on oc yn yc qn qc cb co cs xb xo xc yb yo zc xa za x y v.v hcla (hcls.later v.h) hclm x1 (x2.later v.h) (by unfold maxLen; omega) y1 (y2.later v.h) (by unfold maxLen; omega)) k)
        have K17 := Lib.hid (fun (v : BW w3) (k : Nat) => bw_own (refLess_any (nm := nm) (ta := ta) (ra := ra) (oa := oa) (ya := ya) (qa := qa) (cc := cc) (tn := ts.length) (tc := tc) (rn := l.length) (rc := rc) (on := on) (oc := oc) (yn := yn) (yc := yc) (qn := qn) (qc := qc) (xc := xc) (zc := zc) v.v hcla (hcls.later v.h) hclm (HX3.out.later v.h) (HY3.out.later v.h)) k)
        have K18 := Lib.hid (fun (v : BW w3) (k : Nat) => bw_same (name_any a v.v (by unfold maxLen at hsa; omega)) k)
        have K19 := Lib.hid (fun (v : BW w3) (k : Nat) => bw_same (refName_any a v.v (by unfold maxLen at hsa; omega)) k)
        have K11 := Lib.hid (fun (v : BW w3) (k : Nat) => bw_own (awake_any v.v) k)
        rw [hE] at K12 K13
        rw [hB] at K14 K15
        rw [hL] at K16 K17
        rw [hN] at K18 K19
        have u : ∀ (k : Nat) (z : Value), (#[.string nm, .slice ca cs.length cc, .slice ta ts.length tc, .slice ra l.length rc, .slice oa on oc, .slice ya yn yc, .slice qa qn qc] : Array Value)[k]? = some z → ∀ v : BW w3, v.v.cell? ⟨w.heap.size, k, none⟩ = some z := fun k z hz v => by rw [Lib.cell_of_heap ((v.h.block _ hblk).trans hbox)]; exact hz
        have u0 := u 0 _ rfl
        have u1 := u 1 _ rfl
        have u2 := u 2 _ rfl
        have u3 := u 3 _ rfl
        have u4 := u 4 _ rfl
        have u5 := u 5 _ rfl
        have u6 := u 6 _ rfl
        clear u hE hB hL hN x1 x2 x3 y1 y2 y3 hcls hcla hbox hblk
        gi_wp2
        refine wpIn_region_quiet_class (fun w' => ∃ v : BW w3, w' = v.v) ⟨⟨w3.drew, (Below.refl _ _).drew⟩, rfl⟩ rfl (by kernel_rfl) (by kernel_rfl) ?_
        repeat (gi_big_quiet_step (fail))
        refine Go.BigFrame.wpQuietIn_want (fun _ _ _ _ => trivial) rfl ?_
        intro K hK
        gi_big_quiet_op
        apply Exists.intro
        refine ⟨fun _ => ?_, ?_⟩
        · exact ⟨hdd _, K12.out _ _⟩
        go_big_quiet_on
        repeat (gi_big_quiet_step (fail))
        refine Go.BigFrame.wpQuietIn_want (fun _ _ _ _ => trivial) rfl ?_
        intro K hK
        gi_big_quiet_op
        apply Exists.intro
        refine ⟨fun _ => ?_, ?_⟩
        · exact ⟨hdd _, K13.out _ _⟩
        go_big_quiet_on
        repeat (gi_big_quiet_step (fail))
        refine Go.BigFrame.wpQuietIn_want (fun _ _ _ _ => trivial) rfl ?_
        intro K hK
        gi_big_quiet_op
        apply Exists.intro
        refine ⟨fun _ => ?_, ?_⟩
        · exact ⟨hdd _, K14.out _ _⟩
        go_big_quiet_on
        repeat (gi_big_quiet_step (fail))
        refine Go.BigFrame.wpQuietIn_want (fun _ _ _ _ => trivial) rfl ?_
        intro K hK
        gi_big_quiet_op
        apply Exists.intro
        refine ⟨fun _ => ?_, ?_⟩
        · exact ⟨hdd _, K15.out _ _⟩
        go_big_quiet_on
        repeat (gi_big_quiet_step (fail))
        refine Go.BigFrame.wpQuietIn_want (fun _ _ _ _ => trivial) rfl ?_
        intro K hK
        gi_big_quiet_op
        apply Exists.intro
        refine ⟨fun _ => ?_, ?_⟩
        · exact ⟨hdd _, K16.out _ _⟩
        go_big_quiet_on
        repeat (gi_big_quiet_step (fail))
        refine Go.BigFrame.wpQuietIn_want (fun _ _ _ _ => trivial) rfl ?_
        intro K hK
        gi_big_quiet_op
        apply Exists.intro
        refine ⟨fun _ => ?_, ?_⟩
        · exact ⟨hdd _, K17.out _ _⟩
        go_big_quiet_on
        repeat (gi_big_quiet_step (fail))
        refine Go.BigFrame.wpQuietIn_want (fun _ _ _ _ => trivial) rfl ?_
        intro K hK
        gi_big_quiet_op
        apply Exists.intro
        refine ⟨fun _ => ?_, ?_⟩
        · exact ⟨hdd _, K18.out _ _⟩
        go_big_quiet_on
        repeat (gi_big_quiet_step (fail))
        refine Go.BigFrame.wpQuietIn_want (fun _ _ _ _ => trivial) rfl ?_
        intro K hK
        gi_big_quiet_op
        apply Exists.intro
        refine ⟨fun _ => ?_, ?_⟩
        · exact ⟨hdd _, K19.out _ _⟩
        go_big_quiet_on
        repeat (gi_big_quiet_step (fail))
        refine Go.BigFrame.wpQuietIn_want (fun _ _ _ _ => trivial) rfl ?_
        intro K hK
        gi_big_quiet_op
        apply Exists.intro
        refine ⟨fun _ => ?_, ?_⟩
        · exact ⟨hdd _, K11.out _ _⟩
        go_big_quiet_on
        repeat (gi_big_quiet_step (fail))
        refine wpQuietIn_nil ?_
        rintro _ ⟨v, rfl⟩
        have HV := Lib.hid (HB3.out.trans (v.h.mono HB3.out.size))
        gi_wp2
        go_ret
        exact ⟨rfl, HV.out⟩

theorem sortChecks_walk (nm : ByteArray) (ca ta ra oa ya qa : Option Addr) (cc tc rc on oc yn yc qn qc cb co tb to rb ro : Nat) (cs : List Cls) (ts : List TD) (l : List Ari) (xc zc : Nat) (xa za : Option Addr) (x y : List ByteArray) (a b : ByteArray) (w : World)
    (hca : cs ≠ [] → ca = some ⟨cb, co, none⟩) (hcs : ClassesAt w cb co cs) (hcl : cs.length ≤ 9223372036854775807) (hta : ts ≠ [] → ta = some ⟨tb, to, none⟩) (hts : TypesAt w tb to ts) (htl : ts.length ≤ 9223372036854775807) (hra : l ≠ [] → ra = some ⟨rb, ro, none⟩) (has : ArisAt w rb ro l) (hal : l.length ≤ 9223372036854775807)
    (hx : SortAt w xa x) (hy : SortAt w za y) (hsa : a.size ≤ maxLen) (hsb : b.size ≤ maxLen) :
    Calls Try.prog 3 #[.agg #[.string nm, .slice ca cs.length cc, .slice ta ts.length tc, .slice ra l.length rc, .slice oa on oc, .slice ya yn yc, .slice qa qn qc], .slice xa x.length xc, .slice za y.length zc, .string a, .string b] w fun e w' => e = .returned (.bool true) ∧ Below w.heap.size w w' :=
  callsIn_wide.1 (sortChecks_in 4 nm ca ta ra oa ya qa cc tc rc on oc yn yc qn qc cb co tb to rb ro cs ts l xc zc xa za x y a b w (Nat.le_refl _) hca hcs hcl hta hts htl hra has hal hx hy hsa hsb)
end Go.Proofs.Ytlaibimdkamcfaa
