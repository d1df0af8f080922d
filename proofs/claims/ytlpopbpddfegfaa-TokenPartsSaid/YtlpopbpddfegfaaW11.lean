/-
  TokenParts: both texts have no error.
-/
import Derived.Test.YtlpopbpddfegfaaW10
import Derived.Laws.AppendOwnNone
namespace Go.Proofs.Ytlpopbpddfegfaa
open Go.RowKit Go.Shelf

theorem scan_place (K : ByteArray → Bool) (T : ByteArray) : ∀ (f k : Nat), k ≤ T.size → ∀ x ∈ (scanF K T f k).1, x.2.2 ≤ T.size
  | 0, _, _, x, hx => by cases hx
  | f + 1, k, hk, x, hx => by
    cases hp : betAt T k with
    | error n => rw [scanF_err hp] at hx; cases hx
    | ok q =>
      rw [scanF_ok hp] at hx
      by_cases h1 : T.size ≤ q
      · rw [headOf_end h1] at hx; cases hx
      · cases hc : nextO K T q with
        | none => rw [headOf_none (by omega) hc] at hx; cases hx
        | some c =>
          by_cases h2 : c.2.2 = q
          · rw [headOf_byte (by omega) hc h2] at hx; cases hx
          · rw [headOf_some (by omega) hc h2] at hx
            have hn := nextO_le (by omega) hc
            rcases List.mem_cons.1 hx with rfl | hx
            · show q ≤ _; omega
            · exact scan_place K T f c.2.2 hn.2 x hx

/-- The first i tokens are moved. -/
def mvd (m : Nat) (l : List Tk) (i : Nat) : List Tk := (l.take i).map (shT m) ++ l.drop i
theorem mvd_len (m : Nat) (l : List Tk) (i : Nat) : (mvd m l i).length = l.length := by
  unfold mvd
  rw [List.length_append, List.length_map, List.length_take, List.length_drop]
  omega
theorem mvd_zero (m : Nat) (l : List Tk) : mvd m l 0 = l := rfl
theorem mvd_all (m : Nat) (l : List Tk) : mvd m l l.length = l.map (shT m) := by
  unfold mvd
  rw [List.take_length, List.drop_length, List.append_nil]
theorem mvd_at (m : Nat) (l : List Tk) (i : Nat) (h : i < l.length) : mvd m l i = (l.take i).map (shT m) ++ l[i] :: l.drop (i + 1) := by
  unfold mvd
  rw [List.drop_eq_getElem_cons h]
theorem mvd_next (m : Nat) (l : List Tk) (i : Nat) (h : i < l.length) : mvd m l (i + 1) = (l.take i).map (shT m) ++ shT m l[i] :: l.drop (i + 1) := by
  unfold mvd
  rw [← List.take_append_getElem h, List.map_append, List.append_assoc]
  rfl
theorem tk_set (x : Tk) (n : Nat) (post : List Tk) : ∀ pre : List Tk, (tkCells (pre ++ x :: post)).set (pre.length * 3 + 2) (.int .i64 (n : Int)) = tkCells (pre ++ (x.1, x.2.1, n) :: post)
  | [] => rfl
  | y :: r => by
    have e : ∀ s : List Tk, tkCells ((y :: r) ++ s) = [.int .i64 y.1, .string y.2.1, .int .i64 (y.2.2 : Int)] ++ tkCells (r ++ s) := fun s => rfl
    rw [e, e, ← tk_set x n post r, List.length_cons, show (r.length + 1) * 3 + 2 = 3 + (r.length * 3 + 2) by omega, List.set_append_right _ _ (by simp)]
    congr 2
    simp
theorem mvd_set (m : Nat) (l : List Tk) (i : Nat) (h : i < l.length) : (tkCells (mvd m l i)).set (i * 3 + 2) (.int .i64 ((m + l[i].2.2 : Nat) : Int)) = tkCells (mvd m l (i + 1)) := by
  have := tk_set l[i] (m + l[i].2.2) (l.drop (i + 1)) ((l.take i).map (shT m))
  rw [List.length_map, List.length_take, Nat.min_eq_left (Nat.le_of_lt h)] at this
  rw [mvd_at m l i h, this, mvd_next m l i h]
  rfl
theorem mvd_cell (m : Nat) (l : List Tk) (i : Nat) (h : i < l.length) : (tkCells (mvd m l i))[i * 3 + 2]? = some (.int .i64 (l[i].2.2 : Int)) := by
  have hi : i < (mvd m l i).length := by rw [mvd_len]; exact h
  have hl : ((l.take i).map (shT m)).length = i := by rw [List.length_map, List.length_take, Nat.min_eq_left (Nat.le_of_lt h)]
  have hq : (mvd m l i)[i]? = some l[i] := by
    rw [mvd_at m l i h, List.getElem?_append_right (by rw [hl]; exact Nat.le_refl _), hl, Nat.sub_self]
    rfl
  rw [List.getElem?_eq_getElem hi] at hq
  rw [(tk_cell (mvd m l i) i hi).2.2, Option.some.inj hq]

/-- The rows of the walk: of the first text, of the second (of which i tokens are moved), of both. -/
structure Rows3 (w : World) (B1 B2 B3 : Nat) (u1 u2 u3 : Value) (xs ys zs : List Tk) (m i : Nat) (W : World) : Prop where
  r1 : TkRow W w.heap.size u1 xs
  r2 : W.ownsRow B1 32 3 u2 ys.length (tkCells (mvd m ys i))
  r3 : TkRow W B2 u3 zs
  o1 : ∀ k, u1.ownBlock = some k → k < B1
  o2 : ∀ k, u2.ownBlock = some k → k < B2
  below : Below w.heap.size w W
  s1 : w.heap.size ≤ B1
theorem Rows3.next {w W : World} {B1 B2 B3 : Nat} {u1 u3 : Value} {xs ys zs : List Tk} {m i g c : Nat} (h : Rows3 w B1 B2 B3 u1 (.slice (some ⟨g, 0, none⟩) ys.length c) u3 xs ys zs m i W) (hi : i < ys.length) :
    Rows3 w B1 B2 B3 u1 (.slice (some ⟨g, 0, none⟩) ys.length c) u3 xs ys zs m (i + 1) (W.setCell ⟨g, i * 3 + 2, none⟩ (.int .i64 ((m + ys[i].2.2 : Nat) : Int))) := by
  obtain ⟨s1, s2⟩ := World.ownsRow.stored h.r2 (i * 3 + 2) (.int .i64 ((m + ys[i].2.2 : Nat) : Int))
  rw [mvd_set m ys i hi] at s1
  have hg := h.r2.lt g rfl
  have hg2 := h.o2 g rfl
  refine ⟨h.r1.kept s2 (.inr fun e => ?_), s1, h.r3.kept s2 (.inr fun e => ?_), h.o1, h.o2, h.below.setCell (by show w.heap.size ≤ g; have := h.s1; omega) _, h.s1⟩
  · have := h.o1 g e; omega
  · have := (h.r3.lt g e).1; omega
end Go.Proofs.Ytlpopbpddfegfaa
