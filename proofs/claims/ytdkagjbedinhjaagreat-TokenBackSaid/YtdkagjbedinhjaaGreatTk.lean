/-
  Rows of tokens.
-/
import Derived.Test.YtdkagjbedinhjaaGreatW6
import Derived.Lib.SliceRun
import Derived.Shelf.RegionOpenPlain
import Derived.Deep.LoopGhost
namespace Go.Proofs.YtdkagjbedinhjaaGreat
open Go.RowKit Go.Shelf

theorem tk_cell : ∀ (l : List Tk) (i : Nat) (h : i < l.length), (tkCells l)[i * 3]? = some (.int .i64 l[i].1) ∧ (tkCells l)[i * 3 + 1]? = some (.string l[i].2.1) ∧ (tkCells l)[i * 3 + 2]? = some (.int .i64 (l[i].2.2 : Int))
  | x :: r, 0, _ => ⟨rfl, rfl, rfl⟩
  | x :: r, i + 1, h => by
    have ih := tk_cell r i (by simpa using h)
    have e : tkCells (x :: r) = [.int .i64 x.1, .string x.2.1, .int .i64 (x.2.2 : Int)] ++ tkCells r := rfl
    rw [e, show (i + 1) * 3 = 3 + i * 3 by omega, show 3 + i * 3 + 1 = 3 + (i * 3 + 1) by omega, show 3 + i * 3 + 2 = 3 + (i * 3 + 2) by omega]
    have hd : ∀ j, ([Value.int .i64 x.1, .string x.2.1, .int .i64 (x.2.2 : Int)] ++ tkCells r)[3 + j]? = (tkCells r)[j]? := fun j => by
      rw [List.getElem?_append_right (by simp)]
      congr 1
      simp
    rw [hd, hd, hd]
    exact ih
attribute [local go_sem] Oper.semAt_some

theorem tk_one (l : List Tk) : ∀ u ∈ tkCells l, u.oneCell' = true := by
  intro u hu
  obtain ⟨x, _, hx⟩ := List.mem_flatMap.1 hu
  simp only [List.mem_cons, List.not_mem_nil, or_false] at hx
  rcases hx with rfl | rfl | rfl <;> rfl

/-- A row of tokens. -/
abbrev TkRow (w : World) (B : Nat) (v : Value) (l : List Tk) : Prop := w.ownsRow B 35 3 v l.length (tkCells l)
theorem TkRow.form {w : World} {B : Nat} {v : Value} {l : List Tk} (h : TkRow w B v l) : (v = .slice none 0 0 ∧ l = []) ∨ ∃ g cap, v = .slice (some ⟨g, 0, none⟩) l.length cap ∧ B ≤ g ∧ g < w.heap.size := by
  rcases h.2 with ⟨h1, h2⟩ | ⟨g, cap, cur, h1, h2, h3, _⟩
  · exact .inl ⟨h1, List.length_eq_zero_iff.1 h2⟩
  · exact .inr ⟨g, cap, h1, h2, (Array.getElem?_eq_some_iff.1 h3).1⟩
theorem TkRow.later {w w' : World} {B C : Nat} {v : Value} {l : List Tk} (h : TkRow w B v l) (hb : Below C w w') (hC : w.heap.size ≤ C) : TkRow w' B v l :=
  World.ownsRow.kept h ⟨hb.os, hb.tape, hb.output, hb.size, fun k hk _ => hb.block k (by omega)⟩ (row := none) (by
    rcases h.form with ⟨rfl, _⟩ | ⟨g, cap, rfl, _⟩
    · exact .inl rfl
    · exact .inr (by simp [Value.ownBlock]))

theorem scan_place (K : ByteArray → Bool) (T : ByteArray) : ∀ (f k : Nat), k ≤ T.size → ∀ x ∈ (scanF K T f k).1, x.2.2 ≤ T.size
  | 0, _, _, x, hx => by cases hx
  | f + 1, k, hk, x, hx => by
    cases hp : betAt T k with
    | error n => rw [scanF_err hp] at hx; cases hx
    | ok q =>
      rw [scanF_ok hp] at hx
      by_cases h1 : T.size ≤ q
      · rw [headOf_end h1] at hx; cases hx
      · cases hc : nextO K T q with
        | none => rw [headOf_none (by omega) hc] at hx; cases hx
        | some c =>
          by_cases h2 : c.2.2 = q
          · rw [headOf_byte (by omega) hc h2] at hx; cases hx
          · rw [headOf_some (by omega) hc h2] at hx
            have hn := nextO_le (by omega) hc
            rcases List.mem_cons.1 hx with rfl | hx
            · show q ≤ _; omega
            · exact scan_place K T f c.2.2 hn.2 x hx

end Go.Proofs.YtdkagjbedinhjaaGreat
