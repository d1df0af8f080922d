/-
  The tokens of any text, and its first error; the iterator over them.
-/
import Derived.Test.YtdkagjbedinhjaaGreatV9
import Derived.Test.YtdkagjbedinhjaaGreatRe
import Derived.Test.YtdkagjbedinhjaaGreatS9
namespace Go.Proofs.YtdkagjbedinhjaaGreat
open Go.RowKit Go.Shelf

attribute [local go_sem] Oper.semAt_some

/-- Tokens, and perhaps a fault: its place and its code. -/
abbrev SR := List Tk × Option (Nat × Int)
def SR.cons (x : Tk) (r : SR) : SR := (x :: r.1, r.2)
def SR.pre (l : List Tk) (r : SR) : SR := (l ++ r.1, r.2)
def headOf (rec : Nat → SR) (K : ByteArray → Bool) (T : ByteArray) (p : Nat) : SR := if T.size ≤ p then ([], none) else match nextO K T p with
  | none => ([], some (p, 161))
  | some c => if c.2.2 = p then ([], some (p, 160)) else SR.cons (c.1, c.2.1, p) (rec c.2.2)
def scanF (K : ByteArray → Bool) (T : ByteArray) : Nat → Nat → SR
  | 0, _ => ([], none)
  | f + 1, k => match betAt T k with
    | .error n => ([], some (n, 162))
    | .ok p => headOf (scanF K T f) K T p
def scanR (K : ByteArray → Bool) (T : ByteArray) : SR := scanF K T (T.size + 1) 0

theorem headOf_end {rec : Nat → SR} {K : ByteArray → Bool} {T : ByteArray} {p : Nat} (h : T.size ≤ p) : headOf rec K T p = ([], none) := if_pos h
theorem headOf_none {rec : Nat → SR} {K : ByteArray → Bool} {T : ByteArray} {p : Nat} (h : p < T.size) (hn : nextO K T p = none) : headOf rec K T p = ([], some (p, 161)) := by
  unfold headOf
  rw [if_neg (by omega), hn]
theorem headOf_byte {rec : Nat → SR} {K : ByteArray → Bool} {T : ByteArray} {p : Nat} {c : Cd} (h : p < T.size) (hn : nextO K T p = some c) (hc : c.2.2 = p) : headOf rec K T p = ([], some (p, 160)) := by
  unfold headOf
  rw [if_neg (by omega), hn]
  simp only
  rw [if_pos hc]
theorem headOf_some {rec : Nat → SR} {K : ByteArray → Bool} {T : ByteArray} {p : Nat} {c : Cd} (h : p < T.size) (hn : nextO K T p = some c) (hc : c.2.2 ≠ p) : headOf rec K T p = SR.cons (c.1, c.2.1, p) (rec c.2.2) := by
  unfold headOf
  rw [if_neg (by omega), hn]
  simp only
  rw [if_neg hc]
theorem scanF_err {K : ByteArray → Bool} {T : ByteArray} {f k n : Nat} (h : betAt T k = .error n) : scanF K T (f + 1) k = ([], some (n, 162)) := by
  simp only [scanF, h]
theorem scanF_ok {K : ByteArray → Bool} {T : ByteArray} {f k p : Nat} (h : betAt T k = .ok p) : scanF K T (f + 1) k = headOf (scanF K T f) K T p := by
  simp only [scanF, h]

/-- The panic of a fault. -/
def PnR (R : SR) (chain : List PanicEntry) (xs : List Tk) : Prop := ∃ p code, R = (xs, some (p, code)) ∧ chain = [{ v := faultV p code, recovered := false }]

set_option maxRecDepth 100000 in
set_option maxHeartbeats 8000000 in
/-- What tokens returns yields the tokens, or panics behind those ahead of the first error. -/
theorem tokens_any (n b mb Bx n₀ rb : Nat) (K : ByteArray → Bool) (T : ByteArray) (w : World) (hT : T.size ≤ 100000000) (hS : ScK b mb K T w) (hB : w.cell? ⟨Bx, 0, none⟩ = some (.pointer (some ⟨b, 0, none⟩)))
    (h1 : b < n₀) (h2 : mb < n₀) (h3 : b ≠ rb) (h4 : mb ≠ rb) (h5 : Bx < n₀) (h6 : Bx ≠ rb) (h7 : n₀ ≤ w.heap.size) :
    SeqE Fence.wide n Tryz.prog 30 #[.pointer (some ⟨Bx, 0, none⟩)] encT (But n₀ rb) (fun ys => scanR K T = (ys, none)) (fun _ => True) (PnR (scanR K T)) (T.size + 1) w := by
  intro l J Jx W hW hJ hJx hY h0
  have hdd : ∀ k : Nat, (Fence.wide.depth.isSome = true → 1 ≤ k) := fun k h => by cases h
  have hSW := hS.later hW hS.text.lt hS.2.lt
  have hBW := (hW.cell (p := ⟨Bx, 0, none⟩) (by show Bx < w.heap.size; omega)).trans hB
  have hst := between_any b T 0 W hSW.text (Nat.zero_le _) hT
  have HS := Lib.hid hSW
  have HB := Lib.hid hBW
  have H0 := Lib.hid h0
  have HZ := Lib.hid (Nat.le_trans h7 hW.size)
  clear hSW h0 hB hS
  refine callsIn_of_wp Tryz.func30 rfl trivial ?_ rfl
  simp only [Tryz.ntmps30, List.size_toArray, List.length_cons, List.length_nil, Nat.reduceAdd, Nat.reduceSub, Array.replicate_succ, Array.replicate_zero, List.push_toArray, List.append_toArray, List.nil_append, List.cons_append]
  cases hbt : betAt T 0 with
  | error e0 =>
    rw [hbt] at hst
    have HST := Lib.hid hst
    have HX := Lib.hid (show scanR K T = ([], some (e0, 162)) from scanF_err hbt)
    clear hst hbt
    gi_wp2
    refine ⟨trivial, hdd _, ?_⟩
    refine (callsIn_wide.2 HST.out).mono ?_
    rintro e w' ⟨rfl, hb⟩
    exact ⟨rfl, .inr ⟨_, [], rfl, ⟨e0, 162, HX.out, rfl⟩, hJ _ _ _ H0.out hb⟩⟩
  | ok p0 =>
    rw [hbt] at hst
    have HST := Lib.hid hst
    have HX := Lib.hid (show scanR K T = headOf (scanF K T T.size) K T p0 from scanF_ok hbt)
    have HP := Lib.hid (betAt_le (Nat.zero_le _) hbt)
    clear hst hbt
    gi_wp2
    refine ⟨trivial, hdd _, ?_⟩
    refine (callsIn_wide.2 HST.out).mono ?_
    rintro e w' ⟨rfl, hb⟩
    have hbx := (hb.cell (p := ⟨Bx, 0, none⟩) (by have := HZ.out; show Bx < W.heap.size; omega)).trans hBW
    have HI := Lib.hid (And.intro (HS.out.below hb) (And.intro hbx (And.intro (Nat.le_trans HZ.out hb.size) (hJ _ _ _ H0.out hb))))
    clear hBW HS HB H0 HZ hb hbx HST
    gi_wp2
    gi_loopw [3] (fun i wr => ∃ (p f : Nat) (pre : List Tk), i = .int .i64 (p : Int) ∧ p ≤ T.size ∧ T.size ≤ p + f ∧ pre.length ≤ p ∧ Hid (SR.pre pre (headOf (scanF K T f) K T p) = scanR K T) ∧ Hid (ScK b mb K T wr ∧ wr.cell? ⟨Bx, 0, none⟩ = some (.pointer (some ⟨b, 0, none⟩)) ∧ n₀ ≤ wr.heap.size ∧ J pre wr)) (fun i _ => T.size - (intOf i).toNat)
    case atStart => exact ⟨p0, T.size, [], rfl, HP.out.2, by omega, by simp, Lib.hid (by rw [HX.out]; rfl), HI⟩
    case round =>
      obtain ⟨p, f, pre, rfl, hp, hf, hl, HE, HR⟩ := hrel
      clear HI HX HP
      have cb := HR.out.2.1
      have ct := HR.out.1.text.cell
      by_cases hlt : p < T.size
      · have hd : decide (p < T.size) = true := by simp; exact hlt
        obtain ⟨f, rfl⟩ : ∃ f', f = f' + 1 := ⟨f - 1, by omega⟩
        have hnx := next_any b mb K T p wr HR.out.1 hlt hT
        cases hno : nextO K T p with
        | none =>
          rw [hno] at hnx
          have HNx := Lib.hid hnx
          have HX := Lib.hid (headOf_none (rec := scanF K T (f + 1)) hlt hno)
          clear hnx hno
          gi_wp2
          refine ⟨trivial, hdd _, ?_⟩
          refine (callsIn_wide.2 HNx.out).mono ?_
          rintro e w2 ⟨rfl, hb2⟩
          exact ⟨rfl, .inr ⟨_, pre, rfl, ⟨p, 161, by rw [← HE.out, HX.out]; simp [SR.pre], rfl⟩, hJ _ _ _ HR.out.2.2.2 hb2⟩⟩
        | some c =>
          rw [hno] at hnx
          have hcle := nextO_le hlt hno
          by_cases hc : c.2.2 = p
          · have HX := Lib.hid (headOf_byte (rec := scanF K T (f + 1)) hlt hno hc)
            have HNx := Lib.hid (hnx.mono (R' := fun x w' => x = .panicked [{ v := faultV p 160, recovered := false }] ∧ Below wr.heap.size wr w') fun e w' h => by
              obtain ⟨ha, hb⟩ := h
              simp only at ha
              rw [if_pos hc] at ha
              exact ⟨ha, hb⟩)
            clear hnx hno hc hcle
            gi_wp2
            refine ⟨trivial, hdd _, ?_⟩
            refine (callsIn_wide.2 HNx.out).mono ?_
            rintro e w2 ⟨rfl, hb2⟩
            exact ⟨rfl, .inr ⟨_, pre, rfl, ⟨p, 160, by rw [← HE.out, HX.out]; simp [SR.pre], rfl⟩, hJ _ _ _ HR.out.2.2.2 hb2⟩⟩
          · have HX := Lib.hid (headOf_some (rec := scanF K T (f + 1)) hlt hno hc)
            obtain ⟨ck, cx, ce⟩ := c
            have HNx := Lib.hid (hnx.mono (R' := fun x w' => x = .returned (.tuple #[tokV ck cx (p : Int), .int .i64 (ce : Int)]) ∧ Below wr.heap.size wr w') fun e w' h => by
              obtain ⟨ha, hb⟩ := h
              simp only at ha
              rw [if_neg hc] at ha
              exact ⟨ha, hb⟩)
            have hlt2 : p < ce := by
              have := hcle.1
              simp only at this hc
              omega
            have hle2 : ce ≤ T.size := hcle.2
            clear hnx hno hc hcle
            gi_wp2
            refine ⟨trivial, hdd _, ?_⟩
            refine (callsIn_wide.2 HNx.out).mono ?_
            rintro e w2 ⟨rfl, hb2⟩
            have hb3 : Below wr.heap.size wr (w2.alloc (.cells #[.int .i64 ck, .string cx, .int .i64 (p : Int)] 35)) := hb2.alloc hb2.size _
            have hnw := tok_new w2 ck cx (p : Int)
            obtain ⟨q0, q1, q2, _, _, _⟩ := hnw.cells
            have cb3 := (hb3.cell (p := ⟨Bx, 0, none⟩) (by have := HR.out.2.2.1; show Bx < wr.heap.size; omega)).trans cb
            have HS3 := Lib.hid (HR.out.1.below hb3)
            have HZ3 := Lib.hid (Nat.le_trans HR.out.2.2.1 hb3.size)
            have HCB := Lib.hid cb3
            obtain ⟨fn, tmps, assign, body, hy, hR⟩ := hY pre (ck, cx, p) _ (hJ _ _ _ HR.out.2.2.2 hb3) (by omega)
            have henc : encT (ck, cx, p) = #[tokV ck cx (p : Int)] := rfl
            rw [henc] at hy
            have HRd := Lib.hid hR
            clear hY HNx hb2 hb3 hnw hR henc cb ct HR
            gi_wp2
            refine ⟨hdd _, ?_⟩
            refine HRd.out.mono ?_
            rintro e W4 (⟨rfl, hJ4, hk4⟩ | ⟨rfl, hx4⟩)
            · have hS4 := HS3.out.but hk4 h1 h2 h3 h4
              have hcb4 : W4.cell? ⟨Bx, 0, none⟩ = some (.pointer (some ⟨b, 0, none⟩)) := (World.cell?_of_block (a := ⟨Bx, 0, none⟩) (hk4.block Bx h5 h6)).trans HCB.out
              have hgo := between_any b T ce W4 hS4.text hle2 hT
              have HS4 := Lib.hid hS4
              have HZ4 := Lib.hid (Nat.le_trans HZ3.out hk4.size)
              have HJ4 := Lib.hid hJ4
              clear hS4 hJ4 hk4 HRd hy cb3 q0 q1 q2
              cases hbt : betAt T ce with
              | error e0 =>
                rw [hbt] at hgo
                have HGo := Lib.hid hgo
                have HY := Lib.hid (scanF_err (K := K) (f := f) hbt)
                clear hgo hbt
                gi_wp2
                refine ⟨trivial, hdd _, ?_⟩
                refine (callsIn_wide.2 HGo.out).mono ?_
                rintro e w5 ⟨rfl, hb5⟩
                exact ⟨rfl, .inr ⟨_, _, rfl, ⟨e0, 162, by rw [← HE.out, HX.out, HY.out]; simp [SR.pre, SR.cons], rfl⟩, hJ _ _ _ HJ4.out hb5⟩⟩
              | ok p' =>
                rw [hbt] at hgo
                have HGo := Lib.hid hgo
                have HY := Lib.hid (scanF_ok (K := K) (f := f) hbt)
                have hpl := betAt_le hle2 hbt
                have hp1 := hpl.1
                have hp2 := hpl.2
                have HCB4 := Lib.hid hcb4
                clear hgo hbt hpl
                gi_wp2
                refine ⟨trivial, hdd _, ?_⟩
                refine (callsIn_wide.2 HGo.out).mono ?_
                rintro e w5 ⟨rfl, hb5⟩
                have hbx := (hb5.cell (p := ⟨Bx, 0, none⟩) (by have := HZ4.out; show Bx < W4.heap.size; omega)).trans HCB4.out
                have HI := Lib.hid (And.intro (HS4.out.below hb5) (And.intro hbx (And.intro (Nat.le_trans HZ4.out hb5.size) (hJ _ _ _ HJ4.out hb5))))
                clear hbx hb5 hcb4
                gi_wp2
                go_roundw
                case rel => exact ⟨p', f, pre ++ [(ck, cx, p)], rfl, hp2, by omega, by simp; omega, Lib.hid (by rw [← HE.out, HX.out, HY.out]; simp [SR.pre, SR.cons]), HI⟩
                case measure => simp [intOf]; omega
            · gi_wp2
              refine bodyPost_ret (results_none rfl _ _ _) rfl ?_
              exact .inl ⟨⟨_, rfl⟩, .inr ⟨_, trivial, hx4⟩⟩
      · have hpe : T.size ≤ p := by omega
        have hd : decide (p < T.size) = false := by simp; omega
        have HX := Lib.hid (headOf_end (rec := scanF K T f) (K := K) hpe)
        clear hpe
        gi_wp2
        go_end0
        exact .inl ⟨⟨_, rfl⟩, .inl ⟨pre, by rw [← HE.out, HX.out]; simp [SR.pre], HR.out.2.2.2⟩⟩
end Go.Proofs.YtdkagjbedinhjaaGreat
