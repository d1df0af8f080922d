/-
  Rows of tokens: cloned, compared.
-/
import Derived.Test.YtlpopbpddfegfaaW6
import Derived.Lib.SliceRun
import Derived.Shelf.RegionOpenPlain
import Derived.Deep.LoopGhost
namespace Go.Proofs.Ytlpopbpddfegfaa
open Go.RowKit Go.Shelf

theorem tk_cell : ∀ (l : List Tk) (i : Nat) (h : i < l.length), (tkCells l)[i * 3]? = some (.int .i64 l[i].1) ∧ (tkCells l)[i * 3 + 1]? = some (.string l[i].2.1) ∧ (tkCells l)[i * 3 + 2]? = some (.int .i64 (l[i].2.2 : Int))
  | x :: r, 0, _ => ⟨rfl, rfl, rfl⟩
  | x :: r, i + 1, h => by
    have ih := tk_cell r i (by simpa using h)
    have e : tkCells (x :: r) = [.int .i64 x.1, .string x.2.1, .int .i64 (x.2.2 : Int)] ++ tkCells r := rfl
    rw [e, show (i + 1) * 3 = 3 + i * 3 by omega, show 3 + i * 3 + 1 = 3 + (i * 3 + 1) by omega, show 3 + i * 3 + 2 = 3 + (i * 3 + 2) by omega]
    have hd : ∀ j, ([Value.int .i64 x.1, .string x.2.1, .int .i64 (x.2.2 : Int)] ++ tkCells r)[3 + j]? = (tkCells r)[j]? := fun j => by
      rw [List.getElem?_append_right (by simp)]
      congr 1
      simp
    rw [hd, hd, hd]
    exact ih
attribute [local go_sem] Oper.semAt_some

theorem tk_one (l : List Tk) : ∀ u ∈ tkCells l, u.oneCell' = true := by
  intro u hu
  obtain ⟨x, _, hx⟩ := List.mem_flatMap.1 hu
  simp only [List.mem_cons, List.not_mem_nil, or_false] at hx
  rcases hx with rfl | rfl | rfl <;> rfl

/-- A row of tokens. -/
abbrev TkRow (w : World) (B : Nat) (v : Value) (l : List Tk) : Prop := w.ownsRow B 32 3 v l.length (tkCells l)
theorem TkRow.form {w : World} {B : Nat} {v : Value} {l : List Tk} (h : TkRow w B v l) : (v = .slice none 0 0 ∧ l = []) ∨ ∃ g cap, v = .slice (some ⟨g, 0, none⟩) l.length cap ∧ B ≤ g ∧ g < w.heap.size := by
  rcases h.2 with ⟨h1, h2⟩ | ⟨g, cap, cur, h1, h2, h3, _⟩
  · exact .inl ⟨h1, List.length_eq_zero_iff.1 h2⟩
  · exact .inr ⟨g, cap, h1, h2, (Array.getElem?_eq_some_iff.1 h3).1⟩
theorem TkRow.later {w w' : World} {B C : Nat} {v : Value} {l : List Tk} (h : TkRow w B v l) (hb : Below C w w') (hC : w.heap.size ≤ C) : TkRow w' B v l :=
  World.ownsRow.kept h ⟨hb.os, hb.tape, hb.output, hb.size, fun k hk _ => hb.block k (by omega)⟩ (row := none) (by
    rcases h.form with ⟨rfl, _⟩ | ⟨g, cap, rfl, _⟩
    · exact .inl rfl
    · exact .inr (by simp [Value.ownBlock]))

set_option maxRecDepth 100000 in
set_option maxHeartbeats 2000000 in
theorem clone_any (l : List Tk) (v : Value) (B : Nat) (w : World) (hr : TkRow w B v l) (hl : l.length ≤ 100000) :
    Calls Try.prog 13 #[v] w fun e w' => ∃ v', e = .returned v' ∧ TkRow w' w.heap.size v' l ∧ Below w.heap.size w w' := by
  have q27 : ∀ (w : World) (a : Option Addr) (n c n' c' : Nat), (binOp .eql 27 (.slice a n c) (.slice none n' c')).run Try.prog w = .ok (.bool a.isNone) w := fun w a n c n' c' => Lib.run_eql_slice_nil w _ _ a n c n' c' Try.underlying27
  obtain ⟨i0, hi, hz0, hz1, hz2⟩ := info_parts infoTok
  rcases hr.form with ⟨rfl, rfl⟩ | ⟨g, cap, rfl, hg, hlt⟩
  · go_enter Try.func13, Try.ntmps13
    go_wp2_with fail
    go_ret
    exact ⟨_, rfl, World.ownsRow_nil _ _ _ _, Below.refl _ _⟩
  · have HR := Lib.hid hr
    clear hr
    go_enter Try.func13, Try.ntmps13
    go_wp2_with (at_builtin; refine wpList_append_own _ rfl _ _ 27 rfl w.heap.size 32 i0 (tokV 0 ⟨#[]⟩ 0) 3 32 Try.underlying27 hi hz0 hz1 hz2 rfl (by decide) _ _ _ rfl (World.ownsRow_made w #[] 0 (Nat.le_refl _) (Nat.zero_le _) rfl) ⟨g, 0, none⟩ l.length cap (tkCells l) rfl ?qc1 ?qc2 ?qc3 ?qc4 ?qc5 ?qc6 ?_)
    case qc1 => exact tkCells_len l
    case qc2 =>
      intro j u hj
      rw [Addr.add_lit]
      refine Lib.cell?_alloc_some _ ?_
      have hjl := (List.getElem?_eq_some_iff.1 hj).1
      rw [tkCells_len] at hjl
      rw [Nat.zero_add, HR.out.cellAt j hjl]
      exact hj
    case qc3 => exact tk_one l
    case qc4 => unfold maxLen; omega
    case qc5 => omega
    case qc6 => simp
    intro v' w1 hown hgrow hnil
    go_wp2_with fail
    go_ret
    exact ⟨v', rfl, by simpa using hown, ((Below.refl _ w).alloc (Nat.le_refl _) _).grown hgrow (by simp) (by intro k hk; simp [Value.ownBlock] at hk; omega)⟩

set_option maxRecDepth 100000 in
set_option maxHeartbeats 4000000 in
theorem equal_any (l : List Tk) (v1 v2 : Value) (B1 B2 : Nat) (w : World) (h1 : TkRow w B1 v1 l) (h2 : TkRow w B2 v2 l) (hl : l.length ≤ 100000) :
    Calls Try.prog 12 #[v1, v2] w fun e w' => e = .returned (.bool true) ∧ Below w.heap.size w w' := by
  by_cases hl0 : l = []
  · subst hl0
    obtain ⟨a1, c1, rfl⟩ : ∃ a c, v1 = .slice a 0 c := by
      rcases h1.form with ⟨rfl, _⟩ | ⟨g, cap, rfl, _⟩
      · exact ⟨_, _, rfl⟩
      · exact ⟨_, _, rfl⟩
    obtain ⟨a2, c2, rfl⟩ : ∃ a c, v2 = .slice a 0 c := by
      rcases h2.form with ⟨rfl, _⟩ | ⟨g, cap, rfl, _⟩
      · exact ⟨_, _, rfl⟩
      · exact ⟨_, _, rfl⟩
    clear h1 h2
    go_enter Try.func12, Try.ntmps12
    go_wp2_with fail
    refine wp_loop_rounds 1 ?_
    rw [rounds_succ]
    go_wp2_with fail
    go_ret
    exact ⟨rfl, Below.refl _ _⟩
  · obtain ⟨g1, c1, rfl, _, _⟩ := h1.form.resolve_left fun h => hl0 h.2
    obtain ⟨g2, c2, rfl, _, _⟩ := h2.form.resolve_left fun h => hl0 h.2
    have H1 := Lib.hid h1
    have H2 := Lib.hid h2
    clear h1 h2
    go_enter Try.func12, Try.ntmps12
    go_wp2_with fail
    go_loopg [13] l.length (fun g s13 wr => ∃ k q : Nat, k ≤ l.length ∧ l.length - k ≤ g ∧ s13 = .int .i64 k ∧ wr = w.drewN q)
    case atStart => exact ⟨0, 0, Nat.zero_le _, by omega, rfl, rfl⟩
    case round =>
      obtain ⟨k, q, hk, hg, rfl, rfl⟩ := hrel
      by_cases hlt : k < l.length
      · obtain ⟨d0, d1, d2⟩ := tk_cell l k hlt
        have x0 := (H1.out.cellAt (k * 3) (by omega)).trans d0
        have x1 := (H1.out.cellAt (k * 3 + 1) (by omega)).trans d1
        have x2 := (H1.out.cellAt (k * 3 + 2) (by omega)).trans d2
        have y0 := (H2.out.cellAt (k * 3) (by omega)).trans d0
        have y1 := (H2.out.cellAt (k * 3 + 1) (by omega)).trans d1
        have y2 := (H2.out.cellAt (k * 3 + 2) (by omega)).trans d2
        clear d0 d1 d2
        obtain ⟨x, hx⟩ : ∃ x, l[k] = x := ⟨_, rfl⟩
        rw [hx] at x0 x1 x2 y0 y1 y2
        clear hx
        go_wp2_with fail
        go_quiet (fail)
        go_wp2_with fail
        go_roundg (l.length - (k + 1))
        case measure => omega
        case rel => exact ⟨k + 1, q + nq, by omega, by omega, by go_num, rfl⟩
      · go_wp2_with fail
        go_ret
        exact ⟨rfl, below_drewN (Below.refl _ _) q⟩
end Go.Proofs.Ytlpopbpddfegfaa
