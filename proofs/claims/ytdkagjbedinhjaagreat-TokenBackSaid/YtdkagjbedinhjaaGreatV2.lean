/-
  The scanner's nested marks: quotations and comments.
-/
import Derived.Test.YtdkagjbedinhjaaGreatS6
import Derived.RangeFuncBox
import Derived.RangeFuncNested
import Derived.Deep.QuietTactic
namespace Go.Proofs.YtdkagjbedinhjaaGreat
open Go.RowKit

/-- How far from a mark it is to its end: the bytes of both, and of what stands between. -/
def nestF (p q : Bs) : Nat → Bs → Int → Option Nat
  | 0, _, _ => none
  | f + 1, l, d => if l = [] then none else
    if Lib.hasPrefix l p then (if d + 1 = 0 then some p.length else (nestF p q f (l.drop p.length) (d + 1)).map (p.length + ·))
    else if Lib.hasPrefix l q then (if d - 1 = 0 then some q.length else (nestF p q f (l.drop q.length) (d - 1)).map (q.length + ·))
    else (if d = 0 then some 1 else (nestF p q f (l.drop 1) d).map (1 + ·))
def nestL (p q : Bs) (l : Bs) (d : Int) : Option Nat := nestF p q l.length l d

theorem nestF_enough (p q : Bs) (hp : p ≠ []) (hq : q ≠ []) : ∀ (f g : Nat) (l : Bs) (d : Int), l.length ≤ f → l.length ≤ g → nestF p q f l d = nestF p q g l d
  | 0, 0, _, _, _, _ => rfl
  | 0, g + 1, l, d, h, _ => by
    have : l = [] := List.length_eq_zero_iff.1 (Nat.le_zero.1 h)
    subst this
    simp [nestF]
  | f + 1, 0, l, d, _, h => by
    have : l = [] := List.length_eq_zero_iff.1 (Nat.le_zero.1 h)
    subst this
    simp [nestF]
  | f + 1, g + 1, l, d, hf, hg => by
    have p1 : 1 ≤ p.length := List.length_pos_iff.2 hp
    have q1 : 1 ≤ q.length := List.length_pos_iff.2 hq
    unfold nestF
    rw [nestF_enough p q hp hq f g (l.drop p.length) (d + 1) (by rw [List.length_drop]; omega) (by rw [List.length_drop]; omega),
      nestF_enough p q hp hq f g (l.drop q.length) (d - 1) (by rw [List.length_drop]; omega) (by rw [List.length_drop]; omega)]
    by_cases hl : l = []
    · simp [hl]
    · have l1 : 1 ≤ l.length := List.length_pos_iff.2 hl
      rw [nestF_enough p q hp hq f g (l.drop 1) d (by rw [List.length_drop]; omega) (by rw [List.length_drop]; omega)]
theorem nestL_step (p q : Bs) (hp : p ≠ []) (hq : q ≠ []) {l : Bs} (hl : l ≠ []) (d : Int) : nestL p q l d =
    if Lib.hasPrefix l p then (if d + 1 = 0 then some p.length else (nestL p q (l.drop p.length) (d + 1)).map (p.length + ·))
    else if Lib.hasPrefix l q then (if d - 1 = 0 then some q.length else (nestL p q (l.drop q.length) (d - 1)).map (q.length + ·))
    else (if d = 0 then some 1 else (nestL p q (l.drop 1) d).map (1 + ·)) := by
  have p1 : 1 ≤ p.length := List.length_pos_iff.2 hp
  have q1 : 1 ≤ q.length := List.length_pos_iff.2 hq
  have l1 : 1 ≤ l.length := List.length_pos_iff.2 hl
  unfold nestL
  obtain ⟨n, hn⟩ : ∃ n, l.length = n + 1 := ⟨l.length - 1, by omega⟩
  rw [hn]
  conv => lhs; unfold nestF
  rw [if_neg hl, nestF_enough p q hp hq n _ (l.drop p.length) (d + 1) (by rw [List.length_drop]; omega) (Nat.le_refl _),
    nestF_enough p q hp hq n _ (l.drop q.length) (d - 1) (by rw [List.length_drop]; omega) (Nat.le_refl _),
    nestF_enough p q hp hq n _ (l.drop 1) d (by rw [List.length_drop]; omega) (Nat.le_refl _)]

/-- What nested keeps in cells: the scanner, the place, the depth. -/
structure NestAt (b : Nat) (T : ByteArray) (B : Nat) (j : Nat) (d : Int) (W : World) : Prop where
  text : ScT b T W
  lt : b < B
  sc : Boxed W B 62 (.pointer (some ⟨b, 0, none⟩))
  at_ : Boxed W (B + 1) 3 (.int .i64 (j : Int))
  depth : Boxed W (B + 1 + 1) 3 (.int .i64 d)
theorem NestAt.drew {b : Nat} {T : ByteArray} {B j : Nat} {d : Int} {W : World} (h : NestAt b T B j d W) (n : Nat) : NestAt b T B j d (W.drewN n) := ⟨h.text.later (below_drewN (Below.refl W.heap.size W) n) h.text.lt, h.lt, h.sc, h.at_, h.depth⟩
theorem NestAt.putAt {b : Nat} {T : ByteArray} {B j : Nat} {d : Int} {W : World} (h : NestAt b T B j d W) (j' : Nat) : NestAt b T B j' d (W.setCell ⟨B + 1, 0, none⟩ (.int .i64 (j' : Int))) :=
  ⟨h.text.later ((Below.refl B W).setCell (p := ⟨B + 1, 0, none⟩) (Nat.le_succ _) _) h.lt, h.lt, h.sc.other (by omega) _, h.at_.set _, h.depth.other (by omega) _⟩
theorem NestAt.putDepth {b : Nat} {T : ByteArray} {B j : Nat} {d : Int} {W : World} (h : NestAt b T B j d W) (d' : Int) : NestAt b T B j d' (W.setCell ⟨B + 1 + 1, 0, none⟩ (.int .i64 d')) :=
  ⟨h.text.later ((Below.refl B W).setCell (p := ⟨B + 1 + 1, 0, none⟩) (by show B ≤ B + 1 + 1; omega) _) h.lt, h.lt, h.sc.other (by omega) _, h.at_.other (by omega) _, h.depth.set _⟩

set_option maxRecDepth 100000 in
set_option maxHeartbeats 2000000 in
theorem step_no (b : Nat) (T p : ByteArray) (B j : Nat) (d y : Int) (w : World) (h : NestAt b T B j d w) (hj : j ≤ T.size) (hT : T.size ≤ 100000000) (hp : Lib.hasPrefix (from' T j) p.data.toList = false) :
    Calls Tryz.prog 53 #[.string p, .int .i64 y, .pointer (some ⟨B, 0, none⟩), .pointer (some ⟨B + 1, 0, none⟩), .pointer (some ⟨B + 1 + 1, 0, none⟩)] w fun e w' => e = .returned (.bool false) ∧ ∃ n, w' = w.drewN n := by
  have c0 := h.sc.cell
  have c1 := h.at_.cell
  have ct := h.text.cell
  have hle : (j : Int) ≤ T.size := by omega
  have hro : (T.extract j T.size).data.toList = from' T j := from_ext T j
  have HP := Lib.hid fun (w : World) => Tryz.strings_HasPrefix (T.extract j T.size) p w
  simp only [hro, hp] at HP
  clear h hro hp
  go_enter Tryz.func53, Tryz.ntmps53
  go_wp2_with fail
  go_quiet ((go_at_call 12; exact Calls.quiet_of_same (HP.out _)))
  go_wp2_with fail
  go_ret
  exact ⟨rfl, _, rfl⟩

set_option maxRecDepth 100000 in
set_option maxHeartbeats 2000000 in
theorem step_yes (b : Nat) (T p : ByteArray) (B j : Nat) (d y : Int) (w : World) (h : NestAt b T B j d w) (hj : j ≤ T.size) (hT : T.size ≤ 100000000) (hp : Lib.hasPrefix (from' T j) p.data.toList = true) (hd1 : -100000000 ≤ d) (hd2 : d ≤ 100000000) (hy1 : -1 ≤ y) (hy2 : y ≤ 1) :
    Calls Tryz.prog 53 #[.string p, .int .i64 y, .pointer (some ⟨B, 0, none⟩), .pointer (some ⟨B + 1, 0, none⟩), .pointer (some ⟨B + 1 + 1, 0, none⟩)] w fun e w' => e = .returned (.bool true) ∧ NestAt b T B (j + p.size) (d + y) w' ∧ Below B w w' := by
  have c0 := h.sc.cell
  have c1 := h.at_.cell
  have c2 := h.depth.cell
  have f1 := h.at_.frozen
  have f2 := h.depth.frozen
  have ct := h.text.cell
  have hle : (j : Int) ≤ T.size := by omega
  have hpl : j + p.size ≤ T.size := by
    have := (List.isPrefixOf_iff_prefix.1 hp).length_le
    rw [from_len, ← Lib.size_eq] at this
    omega
  have hro : (T.extract j T.size).data.toList = from' T j := from_ext T j
  have HP := Lib.hid fun (w : World) => Tryz.strings_HasPrefix (T.extract j T.size) p w
  simp only [hro, hp] at HP
  have H := Lib.hid h
  clear h hro hp
  go_enter Tryz.func53, Tryz.ntmps53
  go_wp2_with fail
  go_quiet ((go_at_call 12; exact Calls.quiet_of_same (HP.out _)))
  go_wp2_with fail
  go_ret
  refine ⟨rfl, ?_, ?_⟩
  · have h1 := (((H.out.drew nq).putDepth (d + y)).putAt (j + p.size))
    simpa using h1
  · exact ((below_drewN (Below.refl B w) nq).setCell (p := ⟨B + 1 + 1, 0, none⟩) (by show B ≤ B + 1 + 1; omega) _).setCell (p := ⟨B + 1, 0, none⟩) (Nat.le_succ _) _
end Go.Proofs.YtdkagjbedinhjaaGreat
