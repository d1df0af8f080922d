import Derived.Test.YtlaibimdkamcfaaH7a
/-
  Algebra.complete: whether each arity has those of all superclasses beside it.
-/
namespace Go.Proofs.Ytlaibimdkamcfaa
open Go.RowKit Go.Maps Go.WideMaps

theorem supAt4 {cs : List Cls} {B G mb kn ks ka km : Nat} {W : World} {vn va : Value} {D : DataW Unit} {us ws : List Value} {g cap x : Nat} (h : OC cs B G mb kn ks ka km W vn (.slice (some ⟨g, 0, none⟩) ks cap) va D us ws) {c : Array Value} {f : Nat × Nat} (hx : W.heap[x]? = some (.cells c 4 f)) (hO : openErr (cs.take ks) = 0) (hks : ks ≤ cs.length) :
    SupAt (supOf (cs.take ks)) ks x W.heap.size W g 0 := by
  obtain ⟨cur, hg⟩ := own_block h.sups
  refine ⟨fun _ => ⟨(Array.getElem?_eq_some_iff.1 hg).1, by rintro rfl; rw [hx] at hg; cases hg⟩, fun i hi => ?_⟩
  obtain ⟨u, hu, a, b, o, c', rfl, h1, h2⟩ := h.supv i hi
  rw [sup_take hO hi hks, Nat.zero_add]
  refine ⟨a, b, o, c', own_get h.sups hi hu, fun hn => ?_, h2⟩
  obtain ⟨e, cs', f', hb⟩ := h1 hn
  exact ⟨e, (Array.getElem?_eq_some_iff.1 hb).1, by rintro rfl; rw [hx] at hb; cases hb⟩

attribute [local go_sem] Oper.semAt_some

/-- A world behind W, as far as it lay. -/
structure BW (W : World) where
  v : World
  h : Below W.heap.size W v
instance (W : World) : Nonempty (BW W) := ⟨⟨W, Below.refl _ _⟩⟩

theorem keepsOthers_below {W W' : World} (h : Below W.heap.size W W') : KeepsOthers W W' := ⟨h.size, fun b o hb _ => (h.block b (Array.getElem?_eq_some_iff.1 hb).1).trans hb⟩
theorem keepsC_below {x : Nat} {W W' : World} (h : Below W.heap.size W W') : KeepsC x W W' := ⟨h.size, fun b o _ hb _ => (h.block b (Array.getElem?_eq_some_iff.1 hb).1).trans hb⟩

theorem results_c {P : Program} {fn : Func} {p : Tmp} {t : TypeId} (h : fn.results = #[.cell p t]) (tmps : Array Value) (w : World) (a : Addr) (x : Value) (hp : tmps.getD p undef = .pointer (some a)) (h1 : (loadVar t a).run P w = .ok x w) : (results fn tmps).run P w = .ok x w := by
  have hp' : tmps[p]?.getD undef = .pointer (some a) := by simpa using hp
  simp [results, h, hp', asAddr, h1, Result.andThen]

theorem run_loadVar_cell' {P : Program} (w : World) (a : Addr) (v : Value) (ty : TypeId) (ha : (isAgg ty).run P w = .ok false w) (hc : w.cell? a = some v) : (loadVar ty a).run P w = .ok v w := by
  simp [loadVar, Sem.run_bind, ha, Result.andThen, hc]

theorem leave_bool {m B g : Nat} {Ds : List Nat} {W : World} {R : Ending → World → Prop} {tmps : Array Value} {b : Bool} (hm : MarksAt B Ds W) (h4 : tmps.getD 4 undef = .pointer (some ⟨g, 0, none⟩))
    (hg : W.heap[g]? = some (.cells #[.bool b] 4 (0, 0))) (hR : ∀ W', Below B W W' → R (.returned (.bool b)) W') :
    LeavesInM Fence.wide m Try.prog Try.f64 tmps R (marksOf Ds) .returning W := by
  refine leaves_marks Ds W hm fun W' hb hk => ?_
  have hg' := hk.same g _ hg (fun ds e => by cases e)
  exact ⟨_, results_c rfl tmps W' ⟨g, 0, none⟩ (.bool b) h4 (run_loadVar_cell' W' ⟨g, 0, none⟩ (.bool b) 4 (Try.isAgg4 _) (by rw [Lib.cell_of_heap hg']; rfl)), hR W' hb⟩

theorem marks_set {B x : Nat} {Ds : List Nat} {W : World} (h : MarksAt B Ds W) {c : Array Value} {t : TypeId} {f : Nat × Nat} (hx : W.heap[x]? = some (.cells c t f)) (v : Value) : MarksAt B Ds (W.setCell ⟨x, 0, none⟩ v) :=
  ⟨h.nodup, fun D hD => ⟨(h.at_ D hD).1, (Below.heap_setCell W ⟨x, 0, none⟩ v D (by rintro rfl; have := (h.at_ _ hD).2; rw [hx] at this; cases this)).trans (h.at_ D hD).2⟩⟩

/-- What was found of a place is found again. -/
theorem places_run {l : List Ari} {ms n : Nat} {D : DataW Unit} {v : Value} {s z : ByteArray} (hs : s.size ≤ maxLen) (hz : z.size ≤ maxLen) (hv : sliceR v = some (D.atKey (placeLit (s, z)) zero44D, [])) {H : Bool} (hH : Maps.has D (placeLit (s, z)) = H) {W : World} (h : PlacesAt l ms n D W) :
    (Instr.lookup 68 (.map (some ms)) (.agg #[.string s, .string z]) true).run Try.prog W = .ok (.tuple #[v, .bool H]) W := by
  obtain ⟨va, vn, vc, h1, h2⟩ := places_look h s z hs hz
  rw [h1, ← sliceR_inj hv h2, hH]

/-- The name of a class, in memory. -/
theorem names_get {cs : List Cls} {B G mb ks ka km : Nat} {W : World} {vu va : Value} {D : DataW Unit} {us ws : List Value} {na : Option Addr} {nc : Nat} (h : OC cs B G mb cs.length ks ka km W (.slice na cs.length nc) vu va D us ws) {k : Nat} (hk : k < cs.length) :
    ∃ g, na = some ⟨g, 0, none⟩ ∧ W.cell? ⟨g, k, none⟩ = some (.string (clsAt cs k).name) := by
  have hn := h.names
  obtain ⟨g, cap, e⟩ : ∃ g cap, Value.slice na cs.length nc = .slice (some ⟨g, 0, none⟩) cs.length cap := by
    rcases hn.2 with ⟨e, h0⟩ | ⟨g, cap, _, e, _⟩
    · omega
    · exact ⟨g, cap, e⟩
  cases e
  refine ⟨g, rfl, own_get hn hk ?_⟩
  rw [List.take_length]
  unfold namesOf
  rw [clsAt_eq hk]
  simp [hk]

/-- The frame at the head of a round. -/
def cpT (V1 V2 : Value) (n B : Nat) (s : Nat → Value) : Array Value :=
  #[V1, V2, .pointer (some ⟨B, 0, none⟩), s 3, .pointer (some ⟨B + 1, 0, none⟩), s 5, s 6, s 7, s 8, s 9, s 10, s 11, V2, .int .i64 (n : Int), s 14, s 15, s 16, s 17, s 18, s 19, s 20, s 21, s 22, s 23, s 24, s 25, s 26, s 27, s 28, s 29, s 30, s 31, s 32, s 33, s 34, s 35, s 36, s 37, s 38, s 39, s 40, s 41, s 42, s 43, s 44, s 45, s 46, s 47, s 48, s 49, s 50, s 51, s 52, s 53, s 54, s 55, s 56, s 57, s 58, s 59]

/-- What holds at the head of a round. -/
def cpRel (cs : List Cls) (l : List Ari) (alg : Array Value) (w : World) (s : Nat → Value) (ds : List Deferred) (wr : World) : Prop :=
  ∃ (i : Nat) (Ds : List Nat), s 14 = .int .i64 (i : Nat) ∧ i ≤ l.length ∧ ds = marksOf Ds ∧ MarksAt w.heap.size Ds wr ∧ Below w.heap.size w wr ∧ (∀ j, j < i → RegularAt cs l (ariAt l j)) ∧
    wr.heap[w.heap.size]? = some (.cells alg 70 (0, 0)) ∧ wr.heap[w.heap.size + 1]? = some (.cells #[.bool false] 4 (0, 0))

set_option maxRecDepth 100000 in
set_option maxHeartbeats 8000000 in
theorem complete_in (m : Nat) (A : Alg) (na ua aa t4 ra : Option Addr) (nc uc bc tl t4c mb G B0 nm ab mt ms np rb ro rc : Nat) (D Dp : DataW Unit) (us ws : List Value) (cs : List Cls) (ts : List TD) (l : List Ari) (w : World) (hmm : 8 ≤ m)
    (hOC : OC cs B0 G mb cs.length cs.length cs.length cs.length w (.slice na cs.length nc) (.slice ua cs.length uc) (.slice aa cs.length bc) D us ws) (hO : openErr cs = 0) (hAr : arisErr cs ts l = 0)
    (hn : A.n = cs.length) (h : AlgAt A w mb nm ab 0 D) (haa : 0 < A.n → aa = some ⟨ab, 0, none⟩) (hm : mb < w.heap.size) (ha : ab < w.heap.size) (hkn : A.known = knownB cs) (hbe : A.below = belowB cs)
    (hp : PlacesAt l ms np Dp w) (hra : l ≠ [] → ra = some ⟨rb, ro, none⟩) (hars : ArisAt w rb ro l) (hl : l.length ≤ 300) (hnz : ∀ k, k < cs.length → (clsAt cs k).name.size ≤ maxLen) :
    CallsIn Fence.wide m Try.prog 64 #[.agg #[.slice na cs.length nc, .map (some mb), .slice ua cs.length uc, .slice aa cs.length bc, .slice t4 tl t4c, .map (some mt), .map (some ms)], .slice ra l.length rc] w fun e w' => e = .returned (.bool (regularB cs l)) ∧ Below w.heap.size w w' := by
  have hdd : ∀ k : Nat, (Fence.wide.depth.isSome = true → 1 ≤ k) := fun k h => by cases h
  have HOC := Lib.hid hOC
  have HO := Lib.hid hO
  have HAR := Lib.hid hAr
  have HA := Lib.hid h
  have HAA := Lib.hid haa
  have HP := Lib.hid hp
  have HRA := Lib.hid hra
  have HARS := Lib.hid hars
  have HKN := Lib.hid hkn
  have HBE := Lib.hid hbe
  have HNN := Lib.hid hn
  have HNZ := Lib.hid hnz
  have HSZ := Lib.hid (show ∀ b, b ∈ l → b.typ.size ≤ maxLen ∧ b.cls.size ≤ maxLen from fun b hb => by
    obtain ⟨i, hi, rfl⟩ := List.getElem_of_mem hb
    obtain ⟨_, _, _, _, _, _, _, _, _, _, h5, h6, _⟩ := hars i hi
    exact ⟨h5, h6⟩)
  obtain ⟨R, hR⟩ : ∃ R, regularB cs l = R := ⟨_, rfl⟩
  rw [hR]
  have HR := Lib.hid (show R = true ↔ ∀ a, a ∈ l → RegularAt cs l a by rw [← hR]; unfold regularB; simp only [decide_eq_true_eq])
  clear hOC hO hAr h haa hp hra hars hkn hbe hR hnz
  have b0 : Below w.heap.size w ((w.alloc (.cells #[.slice na cs.length nc, .map (some mb), .slice ua cs.length uc, .slice aa cs.length bc, .slice t4 tl t4c, .map (some mt), .map (some ms)] 70)).alloc (.cells #[.bool false] 4)) := ((Below.refl _ w).alloc (Nat.le_refl _) _).alloc (by simp) _
  have r0 : ((w.alloc (.cells #[.slice na cs.length nc, .map (some mb), .slice ua cs.length uc, .slice aa cs.length bc, .slice t4 tl t4c, .map (some mt), .map (some ms)] 70)).alloc (.cells #[.bool false] 4)).heap[w.heap.size]? = some (.cells #[.slice na cs.length nc, .map (some mb), .slice ua cs.length uc, .slice aa cs.length bc, .slice t4 tl t4c, .map (some mt), .map (some ms)] 70 (0, 0)) := by rw [Below.heap_alloc _ _ _ (by simp)]; exact heap_alloc_new w _
  have r1 : ((w.alloc (.cells #[.slice na cs.length nc, .map (some mb), .slice ua cs.length uc, .slice aa cs.length bc, .slice t4 tl t4c, .map (some mt), .map (some ms)] 70)).alloc (.cells #[.bool false] 4)).heap[w.heap.size + 1]? = some (.cells #[.bool false] 4 (0, 0)) := Go.heap_alloc2_new w _ _
  have HST := Lib.hid (show cpRel cs l #[.slice na cs.length nc, .map (some mb), .slice ua cs.length uc, .slice aa cs.length bc, .slice t4 tl t4c, .map (some mt), .map (some ms)] w (fun i => if i = 14 then .int .i64 0 else undef) [] ((w.alloc (.cells #[.slice na cs.length nc, .map (some mb), .slice ua cs.length uc, .slice aa cs.length bc, .slice t4 tl t4c, .map (some mt), .map (some ms)] 70)).alloc (.cells #[.bool false] 4)) from
    ⟨0, [], rfl, Nat.zero_le _, rfl, ⟨List.nodup_nil, fun D hD => by cases hD⟩, b0, fun j hj => by omega, r0, r1⟩)
  clear b0 r0 r1
  refine callsIn_of_wp_marks Try.func64 rfl trivial ?_ rfl
  simp only [Try.ntmps64, List.size_toArray, List.length_cons, List.length_nil, Nat.reduceAdd, Nat.reduceSub, Array.replicate_succ, Array.replicate_zero, List.push_toArray, List.append_toArray, List.nil_append, List.cons_append]
  gi_wp2
  generalize ((w.alloc (.cells #[.slice na cs.length nc, .map (some mb), .slice ua cs.length uc, .slice aa cs.length bc, .slice t4 tl t4c, .map (some mt), .map (some ms)] 70)).alloc (.cells #[.bool false] 4)) = w1 at *
  refine loop_marks (cpT (.agg #[.slice na cs.length nc, .map (some mb), .slice ua cs.length uc, .slice aa cs.length bc, .slice t4 tl t4c, .map (some mt), .map (some ms)]) (.slice ra l.length rc) l.length w.heap.size) (cpRel cs l #[.slice na cs.length nc, .map (some mb), .slice ua cs.length uc, .slice aa cs.length bc, .slice t4 tl t4c, .map (some mt), .map (some ms)] w) (fun t => l.length - (intOf (t.getD 14 undef)).toNat) (s0 := fun i => if i = 14 then .int .i64 0 else undef) (ds0 := []) HST.out ?_
  clear HST
  intro s ds wr hrel
  obtain ⟨i, Ds, h14, hi, hds, hM, hB, hreg, hbox, hres⟩ := hrel
  have hmu : l.length - (intOf ((cpT (.agg #[.slice na cs.length nc, .map (some mb), .slice ua cs.length uc, .slice aa cs.length bc, .slice t4 tl t4c, .map (some mt), .map (some ms)]) (.slice ra l.length rc) l.length w.heap.size s).getD 14 undef)).toNat = l.length - i := by
    show l.length - (intOf (s 14)).toNat = _
    rw [h14]; simp [intOf]
  rw [hmu]
  unfold cpT
  rw [h14]
  subst hds
  clear hmu h14
  have HM := Lib.hid hM
  have HB := Lib.hid hB
  have HRG := Lib.hid hreg
  have HBOX := Lib.hid hbox
  have HRES := Lib.hid hres
  clear hM hB hreg hbox hres
  by_cases hlt : i < l.length
  · have e := HRA.out (by intro e; subst e; simp at hlt)
    subst e
    obtain ⟨hrb, sa, sb, so, sc, c0, c1, c2, c3, c4, c5, c6, c7⟩ := (HARS.out.later HB.out) i hlt
    have HAE := Lib.hid (ariAt_eq hlt)
    have HMEM := Lib.hid (List.getElem_mem hlt)
    obtain ⟨a, hae⟩ : ∃ a, l[i] = a := ⟨_, rfl⟩
    rw [hae] at c0 c1 c2 c3 c4 c5 c6 c7 HAE HMEM
    clear hae
    obtain ⟨_, hkc, hcount, hsrt⟩ := aris_mem HAR.out HMEM.out
    have hix := idx_lt hkc
    have hn300 := open_le HO.out
    obtain ⟨g, ucap, eua⟩ : ∃ g cap, Value.slice ua cs.length uc = .slice (some ⟨g, 0, none⟩) cs.length cap := by
      rcases HOC.out.sups.2 with ⟨e, h0⟩ | ⟨g, cap, _, e, _⟩
      · omega
      · exact ⟨g, cap, e⟩
    cases eua
    -- the arity in a box
    have b1 : Below wr.heap.size wr (wr.alloc (.cells #[.string a.typ, .string a.cls, .slice sa a.sorts.length sc] 62)) := (Below.refl _ wr).alloc (Nat.le_refl _) _
    have n1 := heap_alloc_new wr (.cells #[.string a.typ, .string a.cls, .slice sa a.sorts.length sc] 62)
    have z1 : (wr.alloc (.cells #[.string a.typ, .string a.cls, .slice sa a.sorts.length sc] 62)).heap.size = wr.heap.size + 1 := by simp
    have HBX1 := Lib.hid ((b1.block w.heap.size (Array.getElem?_eq_some_iff.1 HBOX.out).1).trans HBOX.out)
    have HRS1 := Lib.hid ((b1.block (w.heap.size + 1) (Array.getElem?_eq_some_iff.1 HRES.out).1).trans HRES.out)
    have HB1 := Lib.hid (HB.out.trans (b1.mono HB.out.size))
    have HM1 := Lib.hid (HM.out.later (marks_lt HM.out) b1)
    have HN1 := Lib.hid n1
    have HZ1 := Lib.hid z1
    have HSS1 := Lib.hid (c4.later b1)
    have hlw1 := (Array.getElem?_eq_some_iff.1 HRES.out).1
    clear b1 n1 z1 c4
    have hat : D.atKey (.string a.cls.data.toList) (.lit (.int .i64 0)) = .lit (.int .i64 (idxOfC cs a.cls : Nat)) := by
      have := HOC.out.at_ a.cls
      rw [List.take_length] at this
      exact this (by unfold knownB at hkc; simpa using hkc)
    have HAT := Lib.hid hat
    clear hat
    gi_upto_region 4 with fail
    generalize (wr.alloc (.cells #[.string a.typ, .string a.cls, .slice sa a.sorts.length sc] 62)) = w1' at *
    have HOC1 := Lib.hid (HOC.out.below HB1.out)
    have HA1 := Lib.hid (HA.out.below HB1.out hm ha)
    have HP1 := Lib.hid (HP.out.below HB1.out)
    have hmap := HOC1.out.map
    obtain ⟨g0, g1, g2, g3, g4, g5, g6, _⟩ := box7 HBX1.out
    obtain ⟨f0, f1, f2⟩ := cells3 HN1.out
    have HMP := Lib.hid hmap
    have c6' := c6
    clear hmap c0 c1 c2
    gi_wp2_with (gi_at_lookup; refine wpListIn_lookup_own_int _ rfl _ _ 65 rfl 9 3 .i64 (string_keyed Try.underlying9) Try.underlying65 Try.underlying3 (zero3 _) mb cs.length D rfl HMP.out _ _ rfl (Go.WideMaps.keyOf_string_mk Try.underlying9 c6) ?_; intro c' hat' hwc'; (obtain rfl : c' = (idxOfC cs a.cls : Nat) := by (rw [HAT.out] at hat'; simpa using hat'.symm)); clear hat' hwc')
    refine ⟨trivial, hdd _, ?_⟩
    refine (callsIn_wide.2 (upward_any _ _ _ _ _ _ _ _ _ _ _ _ _ _ _ _ _)).mono ?_
    rintro e w9 ⟨rfl, hw9⟩
    have b9 : Below w1'.heap.size w1' w9 := by rw [hw9]; exact ((Below.refl _ _).alloc (Nat.le_refl _) _).alloc (by simp) _
    have z9 : w9.heap.size = w1'.heap.size + 2 := by rw [hw9]; simp
    have ga9 : w9.heap[w1'.heap.size]? = some (.cells #[.slice na cs.length nc, .map (some mb), .slice (some ⟨g, 0, none⟩) cs.length uc, .slice aa cs.length bc, .slice t4 tl t4c, .map (some mt), .map (some ms)] 70 (0, 0)) := by
      rw [hw9, Below.heap_alloc _ _ _ (by simp)]; exact heap_alloc_new _ _
    have ca9 : w9.heap[w1'.heap.size + 1]? = some (.cells #[.int .i64 (idxOfC cs a.cls : Nat)] 3 (0, 0)) := by rw [hw9]; exact Go.heap_alloc2_new _ _ _
    clear hw9 g0 g1 g2 g3 g4 g5 g6 f0 f1 f2
    have HZ1' := Lib.hid (show wr.heap.size < w1'.heap.size by rw [HZ1.out]; omega)
    have HB9 := Lib.hid (HB1.out.trans (b9.mono HB1.out.size))
    have HBX9 := Lib.hid ((b9.block w.heap.size (Array.getElem?_eq_some_iff.1 HBX1.out).1).trans HBX1.out)
    have HRS9 := Lib.hid ((b9.block (w.heap.size + 1) (Array.getElem?_eq_some_iff.1 HRS1.out).1).trans HRS1.out)
    have HN9 := Lib.hid ((b9.block wr.heap.size HZ1'.out).trans HN1.out)
    have HM9 := Lib.hid (HM1.out.later (marks_lt HM1.out) b9)
    have HOC9 := Lib.hid (HOC1.out.below b9)
    have HP9 := Lib.hid (HP1.out.below b9)
    have HSS9 := Lib.hid (HSS1.out.later b9)
    have hZx := (Array.getElem?_eq_some_iff.1 HRS9.out).1
    have hZ1 := (Array.getElem?_eq_some_iff.1 HRS1.out).1
    have hZw := HZ1'.out
    have hit := upward_iter' (m - 1) cs.length (idxOfC cs a.cls) (w.heap.size + 1) (w1'.heap.size + 1) w1'.heap.size uc g 0 (supOf cs) w9 hn300 hix (sup_lt HO.out) (fun k => by
        have := sup_len (cs := cs) (i := cs.length) (by rw [List.take_length]; exact HO.out) k
        rw [List.take_length] at this
        omega)
      (by omega) (by omega) (by omega) (by omega) (by omega) (by rw [Lib.cell_of_heap ca9]; rfl) (by rw [Lib.cell_of_heap ga9]; rfl)
      (by have := supAt4 HOC9.out HRS9.out (by rw [List.take_length]; exact HO.out) (Nat.le_refl _); rw [List.take_length] at this; exact this)
    have HIT := Lib.hid hit
    have HZ9 := Lib.hid z9
    have HKC := Lib.hid hkc
    have HCNT := Lib.hid hcount
    have HSRT := Lib.hid hsrt
    clear b9 z9 ga9 ca9 hit hkc hcount hsrt hZx hZ1 hZw HBX1 HRS1 HN1 HM1 HOC1 HP1 HSS1 HA1 HMP HBOX HRES HM HB
    gi_wp2
    refine range_cells (a₁ := ?a1) (N := 320) rfl (by omega) (gf := 83) (lb := #[.pointer (some ⟨w1'.heap.size + 1, 0, none⟩), .pointer (some ⟨w1'.heap.size, 0, none⟩)]) rfl trivial (enters_of Try.func83 (by kernel_rfl) rfl) HIT.out
      KeepsC.trans (fun W l o o' _ hl hc => KeepsC.put W l o o' hl hc) (Below.refl _ _) (fun _ => rfl)
      (fun pre W => Below w9.heap.size w9 W ∧ ∀ j, j ∈ pre.map Subtype.val → HasAbove cs l a j) (fun c _ W => c = .ret ∧ ¬ RegularAt cs l a ∧ Below w.heap.size w W ∧ W.heap[w.heap.size + 1]? = some (.cells #[.bool false] 4 (0, 0)) ∧ MarksAt w.heap.size Ds W) ?firm ?firmx ?start ?assign ?body ?done ?stop
    case assign =>
      intro l x W K hK
      gi_wp2
      exact hK
    case firm =>
      rintro s A A' ⟨h1, h2⟩ hb
      exact ⟨h1.trans hb, h2⟩
    case firmx =>
      rintro c s A A' ⟨h1, h2, h3, h4, h5⟩ hb
      have hx1 := HB9.out.size
      have hx2 := (Array.getElem?_eq_some_iff.1 HRS9.out).1
      exact ⟨h1, h2, h3.trans (hb.mono hx1), (hb.block _ hx2).trans h4, ⟨h5.nodup, fun D hD => ⟨(h5.at_ D hD).1, (hb.block D (marks_lt HM9.out D hD)).trans (h5.at_ D hD).2⟩⟩⟩
    case start => exact ⟨Below.refl _ _, fun j hj => by cases hj⟩
    case body =>
      rintro l' pre ⟨k, hk⟩ W ⟨h1, h2⟩ hlen
      have hkn : k < cs.length := Nat.lt_of_le_of_lt (hk.le (sup_lt HO.out)) hix
      have hnz := HNZ.out k hkn
      have hlt9 := (Array.getElem?_eq_some_iff.1 HBX9.out).1
      have hltr := (Array.getElem?_eq_some_iff.1 HN9.out).1
      have hlt2 := (Array.getElem?_eq_some_iff.1 HRS9.out).1
      obtain ⟨gn, ena, hnm⟩ := names_get (HOC9.out.below h1) hkn
      subst ena
      have HPW := Lib.hid (HP9.out.below h1)
      have HSW := Lib.hid (HSS9.out.later h1)
      have HRW := Lib.hid ((h1.block (w.heap.size + 1) hlt2).trans HRS9.out)
      have HBW := Lib.hid ((h1.block w.heap.size hlt9).trans HBX9.out)
      have HNW := Lib.hid ((h1.block wr.heap.size hltr).trans HN9.out)
      have HAW := Lib.hid (HA.out.below (HB9.out.trans (h1.mono HB9.out.size)) hm ha)
      have HW1 := Lib.hid h1
      have HW2 := Lib.hid h2
      obtain ⟨nm', hnm'⟩ : ∃ q, (clsAt cs k).name = q := ⟨_, rfl⟩
      rw [hnm'] at hnm hnz
      have HNM := Lib.hid hnm'
      clear h1 h2 hnm' hlt9 hltr hlt2
      obtain ⟨va, vn, vc, _, hsv⟩ := places_look HPW.out a.typ nm' c5 hnz
      have hph := HPW.out.has (a.typ, nm') c5 hnz
      obtain ⟨H, hH⟩ : ∃ H, Maps.has Dp (placeLit (a.typ, nm')) = H := ⟨_, rfl⟩
      rw [hH] at hph
      have hlk : ∀ n, (Instr.lookup 68 (.map (some ms)) (.agg #[.string a.typ, .string nm']) true).run Try.prog (W.drewN n) = .ok (.tuple #[.slice va vn vc, .bool H]) (W.drewN n) := fun n => places_run c5 hnz hsv hH (HPW.out.below (below_draws n (Below.refl _ _)))
      have HSV := Lib.hid hsv
      have HPH := Lib.hid hph
      have HNZ' := Lib.hid hnz
      clear hph hsv hH hnz
      obtain ⟨g0, g1, g2, g3, g4, g5, g6, _⟩ := box7 HBW.out
      obtain ⟨f0, f1, f2⟩ := cells3 HNW.out
      have HK := Lib.hid hk
      have HKL := Lib.hid hkn
      cases H with
      | false =>
        have HNO := Lib.hid (show ¬ HasAbove cs l a k from hasAbove_none (by rw [HNM.out]; intro hh; have := HPH.out.2 hh; cases this))
        gi_wp2
        refine wpIn_region_quiet_round l' (fun w' => ∃ n, w' = W.drewN n) ⟨1, rfl⟩ rfl (by kernel_rfl) (by kernel_rfl) (by kernel_rfl) ?_
        repeat (gi_big_quiet_step (fail))
        refine wpQuietIn_nil ?_
        rintro _ ⟨nq, rfl⟩
        have HSC := Lib.hid (Go.heap_setCell_same (W.drewN nq) (w.heap.size + 1) 0 _ 4 (.bool false) HRW.out)
        have r0 : (W.drewN nq).cell? ⟨w.heap.size + 1, 0, none⟩ = some (.bool false) := by rw [Lib.cell_of_heap (w := W.drewN nq) HRW.out]; rfl
        have rf : (W.drewN nq).frozen? ⟨w.heap.size + 1, 0, none⟩ = false := Lib.frozen_of_heap (w := W.drewN nq) HRW.out 0
        have hbd : Below W.heap.size W (W.drewN nq) := below_draws nq (Below.refl _ _)
        have HBD := Lib.hid hbd
        clear hbd
        gi_wp2
        refine ⟨(ko_drewN W nq).trans (KeepsOthers.setCell _ _ _), rfl, fun hreg => HNO.out (hreg k HKL.out HK.out), ?_, HSC.out, ?_⟩
        · exact ((HB9.out.trans (HW1.out.mono HB9.out.size)).trans (HBD.out.mono (Nat.le_trans HB9.out.size HW1.out.size))).setCell (p := ⟨w.heap.size + 1, 0, none⟩) (by show w.heap.size ≤ w.heap.size + 1; omega) _
        · have hmW := HM9.out.later (marks_lt HM9.out) HW1.out
          have hmD := hmW.later (marks_lt hmW) HBD.out
          exact marks_set hmD (x := w.heap.size + 1) HRW.out _
      | true =>
        obtain ⟨b, hb, hpb⟩ := List.mem_map.1 (HPH.out.1 rfl)
        have hbt : b.typ = a.typ := congrArg Prod.fst hpb
        have hbc : b.cls = nm' := congrArg Prod.snd hpb
        have hbl := aris_len HAR.out HMEM.out hb hbt
        obtain ⟨v', hv', hsv'⟩ := HPW.out.at_ b hb
        rw [hpb] at hv'
        have hvv := sliceR_inj HSV.out hv'
        subst hvv
        obtain ⟨za, zb, zo, zc, ez, hza, hzs⟩ := hsv'
        cases ez
        obtain ⟨j, hj, hje⟩ := List.getElem_of_mem hb
        have hiff := hasAbove_iff (k := k) (a := a) HAR.out hj (by rw [hje]; exact hbt) (by rw [hje, HNM.out]; exact hbc)
        rw [hje] at hiff
        have HIFF := Lib.hid hiff
        have HZA := Lib.hid hza
        have HZS := Lib.hid hzs
        have HBL := Lib.hid hbl
        clear hiff hza hzs hv' hje hj hb hbt hbc hpb hbl HPH HSV
        gi_wp2
        refine wpIn_region_quiet_round l' (fun w' => ∃ n, w' = W.drewN n) ⟨1, rfl⟩ rfl (by kernel_rfl) (by kernel_rfl) (by kernel_rfl) ?_
        repeat (gi_big_quiet_step (fail))
        refine wpQuietIn_nil ?_
        rintro _ ⟨nq, rfl⟩
        have HI0 := Lib.hid (show Below W.heap.size W (W.drewN nq) from below_draws nq (Below.refl _ _))
        have f2' : (W.drewN nq).cell? ⟨wr.heap.size, 2, none⟩ = some (.slice sa a.sorts.length sc) := f2
        clear hlk
        gi_wp2
        obtain ⟨wo, rfl⟩ : ∃ wo : World, wo = wr := ⟨_, rfl⟩
        clear g0 g1 g2 g3 g4 g5 g6 f0 f1 f2 f2' hnm
        gi_loopw [45] (fun t wr => ∃ q : Nat, t = .int .i64 (q : Nat) ∧ q ≤ a.sorts.length ∧ (∀ p, p < q → lessB (knownB cs) (belowB cs) (sortOf a.sorts p) (sortOf b.sorts p) = true) ∧ Below W.heap.size W wr) (fun t _ => a.sorts.length - (intOf t).toNat)
        case atStart => exact ⟨0, rfl, Nat.zero_le _, fun p hp => by omega, HI0.out⟩
        case round =>
          obtain ⟨q, rfl, hq, hL, hB⟩ := hrel
          have HL := Lib.hid hL
          have HBr := Lib.hid hB
          clear hL hB
          by_cases hql : q < a.sorts.length
          · have e := c3 (by intro e; rw [e] at hql; simp at hql)
            subst e
            have e := HZA.out (by intro e; have := HBL.out; rw [e] at this; simp at this; omega)
            subst e
            obtain ⟨hlx, xa, xc, xcell, xb, xo, x1, x2, x3⟩ := (HSW.out.later HBr.out) q hql
            obtain ⟨hly, ya, yc, ycell, yb, yo, y1, y2, y3⟩ := (HZS.out.later HBr.out) q (by rw [HBL.out]; exact hql)
            have hx20 := (sErr_zero (HSRT.out q hql)).1
            have hRe : ∃ r, lessB (knownB cs) (belowB cs) (sortOf a.sorts q) (sortOf b.sorts q) = r := ⟨_, rfl⟩
            rw [sortOf_eq hql, sortOf_eq (by rw [HBL.out]; exact hql)] at hRe
            have hse := sortOf_eq hql
            have hsy := sortOf_eq (L := b.sorts) (i := q) (by rw [HBL.out]; exact hql)
            rw [hse] at hx20
            obtain ⟨X, hX⟩ : ∃ X, a.sorts[q] = X := ⟨_, rfl⟩
            obtain ⟨Y, hY⟩ : ∃ Y, b.sorts[q]'(by rw [HBL.out]; exact hql) = Y := ⟨_, rfl⟩
            rw [hX] at xcell x1 x2 x3 hRe hse hx20
            rw [hY] at ycell y1 y2 y3 hRe hsy
            obtain ⟨r, hr⟩ := hRe
            have hmr := Nat.lt_of_lt_of_le hm (Nat.le_trans HB9.out.size (Nat.le_trans HW1.out.size HBr.out.size))
            have har := Nat.lt_of_lt_of_le ha (Nat.le_trans HB9.out.size (Nat.le_trans HW1.out.size HBr.out.size))
            have hAr := HAW.out.below HBr.out (Nat.lt_of_lt_of_le hm (Nat.le_trans HB9.out.size HW1.out.size)) (Nat.lt_of_lt_of_le ha (Nat.le_trans HB9.out.size HW1.out.size))
            have HBXr := Lib.hid ((HBr.out.block w.heap.size (Array.getElem?_eq_some_iff.1 HBW.out).1).trans HBW.out)
            have hless : ∀ x : BW wr, CallsIn Fence.wide (m - 1 - 1 - 1) Try.prog 45 #[.agg #[.slice (some ⟨gn, 0, none⟩) cs.length nc, .map (some mb), .slice (some ⟨g, 0, none⟩) cs.length uc, .slice aa cs.length bc, .slice t4 tl t4c, .map (some mt), .map (some ms)], .slice xa X.length xc, .slice ya Y.length yc] x.v fun e w' => e = .returned (.bool r) ∧ ∃ y : BW wr, w' = y.v := fun x => callsIn_wide.2 (by
              have := less_any A (some ⟨gn, 0, none⟩) (some ⟨g, 0, none⟩) aa t4 cs.length nc cs.length uc bc tl t4c mb nm ab 0 (some mt) (some ms) D xb xo xc yb yo yc xa ya X Y x.v (hAr.below x.h hmr har) HAA.out (Nat.lt_of_lt_of_le hmr x.h.size) (Nat.lt_of_lt_of_le har x.h.size) x1 y1 (x2.later x.h) (y2.later x.h) (by unfold maxLen; omega) (by unfold maxLen; omega)
              rw [HNN.out, HKN.out, HBE.out] at this
              refine this.mono ?_
              rintro e w' ⟨he, hb⟩
              exact ⟨by rw [he, ← hr]; rfl, ⟨w', x.h.trans (hb.mono x.h.size)⟩, rfl⟩)
            have HLESS := Lib.hid hless
            have hqb : q < b.sorts.length := by rw [HBL.out]; exact hql
            have u0 : ∀ x : BW wr, x.v.cell? ⟨w.heap.size, 0, none⟩ = some (.slice (some ⟨gn, 0, none⟩) cs.length nc) := fun x => by rw [Lib.cell_of_heap ((x.h.block _ (Array.getElem?_eq_some_iff.1 HBXr.out).1).trans HBXr.out)]; rfl
            have u1 : ∀ x : BW wr, x.v.cell? ⟨w.heap.size, 1, none⟩ = some (.map (some mb)) := fun x => by rw [Lib.cell_of_heap ((x.h.block _ (Array.getElem?_eq_some_iff.1 HBXr.out).1).trans HBXr.out)]; rfl
            have u2 : ∀ x : BW wr, x.v.cell? ⟨w.heap.size, 2, none⟩ = some (.slice (some ⟨g, 0, none⟩) cs.length uc) := fun x => by rw [Lib.cell_of_heap ((x.h.block _ (Array.getElem?_eq_some_iff.1 HBXr.out).1).trans HBXr.out)]; rfl
            have u3 : ∀ x : BW wr, x.v.cell? ⟨w.heap.size, 3, none⟩ = some (.slice aa cs.length bc) := fun x => by rw [Lib.cell_of_heap ((x.h.block _ (Array.getElem?_eq_some_iff.1 HBXr.out).1).trans HBXr.out)]; rfl
            have u4 : ∀ x : BW wr, x.v.cell? ⟨w.heap.size, 4, none⟩ = some (.slice t4 tl t4c) := fun x => by rw [Lib.cell_of_heap ((x.h.block _ (Array.getElem?_eq_some_iff.1 HBXr.out).1).trans HBXr.out)]; rfl
            have u5 : ∀ x : BW wr, x.v.cell? ⟨w.heap.size, 5, none⟩ = some (.map (some mt)) := fun x => by rw [Lib.cell_of_heap ((x.h.block _ (Array.getElem?_eq_some_iff.1 HBXr.out).1).trans HBXr.out)]; rfl
            have u6 : ∀ x : BW wr, x.v.cell? ⟨w.heap.size, 6, none⟩ = some (.map (some ms)) := fun x => by rw [Lib.cell_of_heap ((x.h.block _ (Array.getElem?_eq_some_iff.1 HBXr.out).1).trans HBXr.out)]; rfl
            have v0 : ∀ x : BW wr, x.v.cell? ⟨zb, zo + q, none⟩ = some (.slice ya Y.length yc) := fun x => (x.h.cell (p := ⟨zb, zo + q, none⟩) hly).trans ycell
            have HR1 := Lib.hid hr
            have HSE := Lib.hid hse
            have HSY := Lib.hid hsy
            have HHX := Lib.hid (And.intro hX hY)
            clear hless hr hse hsy hx20 x1 x2 x3 y1 y2 y3 hX hY hAr hmr har
            gi_wp2
            refine wpIn_region_quiet_round l' (fun w' => ∃ x : BW wr, w' = x.v) ⟨⟨wr.drew, (Below.refl _ _).drew⟩, rfl⟩ rfl (by kernel_rfl) (by kernel_rfl) (by kernel_rfl) ?_
            repeat (gi_big_quiet_step (first | exact HLESS.out _ | exact ⟨hdd _, HLESS.out _⟩ | exact ⟨rfl, hdd _, HLESS.out _⟩))
            refine Go.BigFrame.wpQuietIn_want (fun _ _ _ _ => trivial) rfl ?_
            intro K hK
            gi_big_quiet_op
            apply Exists.intro
            refine ⟨fun _ => ?_, ?_⟩
            exact ⟨hdd _, HLESS.out _⟩
            go_big_quiet_on
            repeat (gi_big_quiet_step (fail))
            refine wpQuietIn_nil ?_
            rintro _ ⟨y, rfl⟩
            have HY := Lib.hid (show Below W.heap.size W y.v from HBr.out.trans (y.h.mono HBr.out.size))
            have HRY := Lib.hid ((HY.out.block (w.heap.size + 1) (Array.getElem?_eq_some_iff.1 HRW.out).1).trans HRW.out)
            clear u0 u1 u2 u3 u4 u5 u6 v0
            cases r with
            | false =>
              have hnl : ¬ HasAbove cs l a k := fun hh => by
                have := HIFF.out.1 hh q hql
                rw [HSE.out, HSY.out, HR1.out] at this
                cases this
              have HNO := Lib.hid hnl
              have HSC := Lib.hid (Go.heap_setCell_same y.v (w.heap.size + 1) 0 _ 4 (.bool false) HRY.out)
              have r0 : y.v.cell? ⟨w.heap.size + 1, 0, none⟩ = some (.bool false) := by rw [Lib.cell_of_heap HRY.out]; rfl
              have rf : y.v.frozen? ⟨w.heap.size + 1, 0, none⟩ = false := Lib.frozen_of_heap HRY.out 0
              have HKO := Lib.hid (keepsOthers_below HY.out)
              have HBB := Lib.hid (((HB9.out.trans (HW1.out.mono HB9.out.size)).trans (HY.out.mono (Nat.le_trans HB9.out.size HW1.out.size))).setCell (p := ⟨w.heap.size + 1, 0, none⟩) (by show w.heap.size ≤ w.heap.size + 1; omega) (.bool false))
              have hmW := HM9.out.later (marks_lt HM9.out) HW1.out
              have HMM := Lib.hid (marks_set (hmW.later (marks_lt hmW) HY.out) (x := w.heap.size + 1) HRY.out (.bool false))
              clear hnl hmW
              gi_wp2
              exact ⟨HKO.out.trans (KeepsOthers.setCell _ _ _), rfl, fun hreg => HNO.out (hreg k HKL.out HK.out), HBB.out, HSC.out, HMM.out⟩
            | true =>
              gi_wp2
              refine ⟨⟨q + 1, by simp only [Int.natCast_add, Int.natCast_one], by omega, fun p hp => ?_, HY.out⟩, ?_⟩
              · by_cases hpq : p < q
                · exact HL.out p hpq
                · obtain rfl : p = q := by omega
                  rw [HSE.out, HSY.out, HR1.out]
              · show a.sorts.length - ((q : Int) + 1).toNat < a.sorts.length - ((q : Nat) : Int).toNat
                omega
          · have HHA := Lib.hid (HIFF.out.2 fun p hp => HL.out p (by omega))
            have HKO := Lib.hid (keepsOthers_below HBr.out)
            have HKC' := Lib.hid (keepsC_below (x := w.heap.size + 1) HBr.out)
            have HIN := Lib.hid (show Below w9.heap.size w9 wr from HW1.out.trans (HBr.out.mono HW1.out.size))
            gi_wp2
            refine ⟨HKO.out, HKC'.out, HIN.out, fun j hj => ?_⟩
            rw [List.map_append, List.mem_append] at hj
            rcases hj with hj | hj
            · exact HW2.out j hj
            · obtain rfl : j = k := by simpa using hj
              exact HHA.out
    case stop =>
      rintro D0 c pre W hD _ ⟨rfl, hnr, hb, hr, hmk⟩ hK
      have hm2 : MarksAt w.heap.size (D0 :: Ds) W := ⟨List.nodup_cons.2 ⟨fun hm => by have := marks_lt HM9.out D0 hm; omega, hmk.nodup⟩, fun D hd => (by
        rcases List.mem_cons.1 hd with rfl | hd
        · exact ⟨Nat.le_trans HB9.out.size hD, hK⟩
        · exact hmk.at_ D hd)⟩
      have hRf : R = false := Bool.eq_false_iff.2 fun e => hnr (HR.out.1 e a HMEM.out)
      have HM2 := Lib.hid hm2
      have HRF := Lib.hid hRf
      have HBR := Lib.hid hr
      have HBB := Lib.hid hb
      clear hm2 hRf hr hb hmk
      gi_wp2
      (try simp only [Exit.inBlock, Exit.then])
      show LeavesInM _ _ _ _ _ _ (marksOf (D0 :: Ds)) _ W
      exact leave_bool (B := w.heap.size) HM2.out rfl HBR.out fun W' hb' => ⟨by rw [HRF.out], HBB.out.trans hb'⟩
    case done =>
      rintro E0 ys W hD hS ⟨h1, h2⟩ hK
      have hreg : RegularAt cs l a := fun k hk hr => h2 k ((hS k).2 hr)
      have hm2 : MarksAt w.heap.size (E0 :: Ds) W := ⟨List.nodup_cons.2 ⟨fun hm => by have := marks_lt HM9.out E0 hm; omega, HM9.out.nodup⟩, fun D hd => (by
        rcases List.mem_cons.1 hd with rfl | hd
        · exact ⟨Nat.le_trans HB9.out.size hD, hK⟩
        · exact ⟨(HM9.out.at_ D hd).1, (h1.block D (marks_lt HM9.out D hd)).trans (HM9.out.at_ D hd).2⟩)⟩
      have HRX := Lib.hid ((h1.block _ (Array.getElem?_eq_some_iff.1 HRS9.out).1).trans HRS9.out)
      have HBX := Lib.hid ((h1.block _ (Array.getElem?_eq_some_iff.1 HBX9.out).1).trans HBX9.out)
      have HBW := Lib.hid (HB9.out.trans (h1.mono HB9.out.size))
      have HM2 := Lib.hid hm2
      have HREG := Lib.hid hreg
      clear hm2 hreg h1 h2 hK
      gi_wp2
      refine ⟨rfl, ⟨i + 1, E0 :: Ds, ?_, by omega, rfl, HM2.out, HBW.out, fun j hj => ?_, HBX.out, HRX.out⟩, ?_⟩
      · show Value.int .i64 ((i : Int) + 1) = _
        simp only [Int.natCast_add, Int.natCast_one]
      · by_cases hji : j < i
        · exact HRG.out j hji
        · obtain rfl : j = i := by omega
          rw [HAE.out]
          exact HREG.out
      · show l.length - (intOf (Value.int .i64 ((i : Int) + 1))).toNat < l.length - i
        simp only [intOf]
        omega
  · have hall : ∀ x, x ∈ l → RegularAt cs l x := fun x hx => by
      obtain ⟨j, hj, rfl⟩ := List.getElem_of_mem hx
      rw [← ariAt_eq hj]
      exact HRG.out j (by omega)
    have hRt := HR.out.2 hall
    have HF := Lib.hid (Go.heap_setCell_same wr (w.heap.size + 1) 0 _ 4 (.bool true) HRES.out)
    have HBF := Lib.hid (HB.out.setCell (p := ⟨w.heap.size + 1, 0, none⟩) (by show w.heap.size ≤ w.heap.size + 1; omega) (.bool true))
    have HMF := Lib.hid (show MarksAt w.heap.size Ds (wr.setCell ⟨w.heap.size + 1, 0, none⟩ (.bool true)) from ⟨HM.out.nodup, fun D hD => ⟨(HM.out.at_ D hD).1, (Below.heap_setCell wr ⟨w.heap.size + 1, 0, none⟩ _ D (by rintro rfl; have := (HM.out.at_ _ hD).2; rw [HRES.out] at this; cases this)).trans (HM.out.at_ D hD).2⟩⟩)
    have r0 : wr.cell? ⟨w.heap.size + 1, 0, none⟩ = some (.bool false) := by rw [Lib.cell_of_heap HRES.out]; rfl
    have rf : wr.frozen? ⟨w.heap.size + 1, 0, none⟩ = false := Lib.frozen_of_heap HRES.out 0
    have HRT := Lib.hid hRt
    clear hall hRt
    gi_wp2
    (try simp only [Exit.inBlock, Exit.then])
    show LeavesInM _ _ _ _ _ _ (marksOf Ds) _ (wr.setCell ⟨w.heap.size + 1, 0, none⟩ (.bool true))
    exact leave_bool (B := w.heap.size) HMF.out rfl HF.out fun W' hb => ⟨by rw [HRT.out], HBF.out.trans hb⟩

theorem complete_any (A : Alg) (na ua aa t4 ra : Option Addr) (nc uc bc tl t4c mb G B0 nm ab mt ms np rb ro rc : Nat) (D Dp : DataW Unit) (us ws : List Value) (cs : List Cls) (ts : List TD) (l : List Ari) (w : World) 
    (hOC : OC cs B0 G mb cs.length cs.length cs.length cs.length w (.slice na cs.length nc) (.slice ua cs.length uc) (.slice aa cs.length bc) D us ws) (hO : openErr cs = 0) (hAr : arisErr cs ts l = 0)
    (hn : A.n = cs.length) (h : AlgAt A w mb nm ab 0 D) (haa : 0 < A.n → aa = some ⟨ab, 0, none⟩) (hm : mb < w.heap.size) (ha : ab < w.heap.size) (hkn : A.known = knownB cs) (hbe : A.below = belowB cs)
    (hp : PlacesAt l ms np Dp w) (hra : l ≠ [] → ra = some ⟨rb, ro, none⟩) (hars : ArisAt w rb ro l) (hl : l.length ≤ 300) (hnz : ∀ k, k < cs.length → (clsAt cs k).name.size ≤ maxLen) :
    Calls Try.prog 64 #[.agg #[.slice na cs.length nc, .map (some mb), .slice ua cs.length uc, .slice aa cs.length bc, .slice t4 tl t4c, .map (some mt), .map (some ms)], .slice ra l.length rc] w fun e w' => e = .returned (.bool (regularB cs l)) ∧ Below w.heap.size w w' :=
  callsIn_wide.1 (complete_in 8 A na ua aa t4 ra nc uc bc tl t4c mb G B0 nm ab mt ms np rb ro rc D Dp us ws cs ts l w (Nat.le_refl _) hOC hO hAr hn h haa hm ha hkn hbe hp hra hars hl hnz)
end Go.Proofs.Ytlaibimdkamcfaa
