/-
  Few, count and what they call: some answer, and nothing that lay there is turned.
-/
import Derived.Test.YthopoidcglfdjaaDoorC4
namespace Go.Proofs.YthopoidcglfdjaaDoor
open Go.RowKit

/-- Some int, and the world is as it was. -/
def SomeInt (w : World) (e : Ending) (w' : World) : Prop := ∃ n : Int, e = .returned (.int .i64 n) ∧ w = w'
/-- Some bool, and the world is as it was. -/
def SomeBool (w : World) (e : Ending) (w' : World) : Prop := ∃ b : Bool, e = .returned (.bool b) ∧ w = w'
/-- Some bool; what lay there lies. -/
def BelowBool (w : World) (e : Ending) (w' : World) : Prop := ∃ b : Bool, e = .returned (.bool b) ∧ Below w.heap.size w w'
/-- Some number and some bool; what lay there lies. -/
def BelowCount (w : World) (e : Ending) (w' : World) : Prop := ∃ (n : Int) (b : Bool), e = .returned (.tuple #[.int .i64 n, .bool b]) ∧ Below w.heap.size w w'

set_option maxHeartbeats 400000 in
theorem long_any (s : ByteArray) (w : World) : Calls Tryd.prog 19 #[.string s] w fun e w' => e = .returned (.bool (decide (60 < (s.size : Int)))) ∧ w = w' := by
  by_cases h : 60 < s.size
  all_goals
    go_enter Tryd.func19, Tryd.ntmps19
    go_wp2
    go_ret
    exact ⟨ret_bool (by simp), rfl⟩

set_option maxHeartbeats 1000000 in
theorem index_long (B : Nat) (v : Value) (l : List ByteArray) (w : World) (h : HasStrs B w v l) : Calls Tryd.prog 31 #[v, .func (.func 19) #[] #[]] w (SomeInt w) := by
  obtain ⟨a, k1, b, o, rfl, m1, n1, g1⟩ := h
  have N1 := Lib.hid n1
  have G1 := Lib.hid g1
  clear n1 g1
  go_enter Tryd.func31, Tryd.ntmps31
  go_wp2_with fail
  go_loopw [8] (fun t wr => ∃ k : Nat, t = .int .i64 k ∧ k ≤ l.length ∧ wr = w) (fun t _ => l.length - (intOf t).toNat)
  case atStart => exact ⟨0, rfl, Nat.zero_le _, rfl⟩
  case round =>
    obtain ⟨k, rfl, hk, rfl⟩ := hrel
    by_cases hlt : k < l.length
    · obtain ⟨rfl, hab⟩ := N1.out (by intro e; subst e; simp at hlt)
      have c0 := (G1.out k hlt).1
      go_wp2_with fail
      refine (long_any _ _).mono ?_
      rintro e w' ⟨rfl, rfl⟩
      cases hd : decide (60 < (l[k].size : Int)) with
      | true =>
        go_wp2_with fail
        go_ret
        exact ⟨_, rfl, rfl⟩
      | false =>
        go_wp2_with fail
        go_roundw
        case rel => exact ⟨k + 1, by go_num, by omega, trivial⟩
        case measure => simp [intOf]; omega
    · go_wp2_with fail
      go_ret
      exact ⟨_, rfl, rfl⟩

set_option maxHeartbeats 400000 in
theorem contains_long (B : Nat) (v : Value) (l : List ByteArray) (w : World) (h : HasStrs B w v l) : Calls Tryd.prog 18 #[v, .func (.func 19) #[] #[]] w (SomeBool w) := by
  have HK := Lib.hid (index_long B v l w h)
  obtain ⟨a, k1, b, o, rfl, m1, n1, g1⟩ := h
  clear n1 g1
  go_enter Tryd.func18, Tryd.ntmps18
  go_wp2_with fail
  refine HK.out.mono ?_
  rintro e w' ⟨n, rfl, rfl⟩
  go_wp2_with fail
  go_ret
  exact ⟨_, rfl, rfl⟩

set_option maxHeartbeats 4000000 in
theorem count_any (N : Nat) : ∀ (B : Nat) (v : Value) (T : Ty) (most : Int) (w : World), T.sz < N → B ≤ w.heap.size → HasTy B w v T → Calls Tryd.prog 9 #[v, .int .i64 most] w (BelowCount w) := by
  induction N with
  | zero => intro B v T most w hN; omega
  | succ N ih =>
  intro B v T most w hN hB h1
  obtain ⟨op, nm, ix, srt, args⟩ := T
  have IH := Lib.hid ih
  clear ih
  obtain ⟨x3, a, cap, ab, ao, rfl, hop, hix, hnm, hs, hl, ha, he⟩ := h1
  simp only [Ty.op, Ty.name, Ty.index, Ty.sort, Ty.args] at *
  have hstr := fun (W : World) (hW : Below w.heap.size w W) => contains_long B x3 srt W (hs.later (hW.mono hB) (Nat.le_refl _))
  have HS := Lib.hid hstr
  obtain ⟨sa, sc, _, _, rfl, hsl, _⟩ := hs
  clear hstr
  have HA := Lib.hid ha
  have HE := Lib.hid he
  clear ha he
  by_cases e0 : 25 < srt.length
  · go_enter Tryd.func9, Tryd.ntmps9
    go_wp2_with fail
    go_ret2
    exact ⟨_, _, rfl, (Below.refl _ _).alloc (Nat.le_refl _) _⟩
  · by_cases e1 : 60 < nm.size
    · go_enter Tryd.func9, Tryd.ntmps9
      go_wp2_with fail
      go_ret2
      exact ⟨_, _, rfl, (Below.refl _ _).alloc (Nat.le_refl _) _⟩
    · go_enter Tryd.func9, Tryd.ntmps9
      go_wp2_with fail
      refine (HS.out _ ((Below.refl _ _).alloc (Nat.le_refl _) _)).mono ?_
      rintro e W ⟨b3, rfl, rfl⟩
      cases b3 with
      | true =>
        go_wp2_with fail
        go_ret2
        exact ⟨_, _, rfl, (Below.refl _ _).alloc (Nat.le_refl _) _⟩
      | false =>
        go_wp2_with fail
        go_loopw [6, 29] (fun n t wr => ∃ (k : Nat) (m : Int), n = .int .i64 m ∧ t = .int .i64 k ∧ k ≤ args.length ∧ Below w.heap.size w wr) (fun _ t _ => args.length - (intOf t).toNat)
        case atStart => exact ⟨0, 1, rfl, rfl, Nat.zero_le _, (Below.refl _ _).alloc (Nat.le_refl _) _⟩
        case round =>
          obtain ⟨k, m, rfl, rfl, hk, hwr⟩ := hrel
          by_cases hlt : k < args.length
          · obtain ⟨rfl, hab⟩ := HA.out (by intro e; subst e; simp at hlt)
            obtain ⟨xs, xn, xa, xc, _, c0, c1, c2, c3, c4, hv⟩ := (AtTy.later (hwr.mono hB) (Nat.le_refl _) (HE.out k hlt)).val
            have hBr : B ≤ wr.heap.size := by have := hwr.size; omega
            by_cases hm : most < m
            · go_wp2_with fail
              go_ret2
              exact ⟨_, _, rfl, hwr.alloc hwr.size _⟩
            · go_wp2_with fail
              refine (IH.out B _ args[k] _ _ (by have := Ty.size_arg (op := op) (ix := ix) (nm := nm) (srt := srt) k hlt; omega) (by simp; omega) (hv.later (((Below.refl _ _).alloc (Nat.le_refl _) _).mono hBr) (Nat.le_refl _))).mono ?_
              rintro e W2 ⟨m2, ok, rfl, hW2⟩
              have hW3 : Below w.heap.size w W2 := (hwr.alloc hwr.size _).trans (hW2.mono (by have := hwr.size; simp; omega))
              cases ok with
              | true =>
                go_wp2_with fail
                go_roundw
                case rel => exact ⟨k + 1, _, rfl, by go_num, by omega, hW3⟩
                case measure => simp [intOf]; omega
              | false =>
                go_wp2_with fail
                go_ret2
                exact ⟨_, _, rfl, hW3⟩
          · go_wp2_with fail
            go_ret2
            exact ⟨_, _, rfl, hwr⟩

/-- The variadic arguments of Few: types in a row. -/
def HasTys (B : Nat) (W : World) (v : Value) (l : List Ty) : Prop :=
  ∃ (a : Option Addr) (cap ab ao : Nat), v = .slice a l.length cap ∧ l.length ≤ 9223372036854775807 ∧ (l ≠ [] → a = some ⟨ab, ao, none⟩ ∧ ab < B) ∧ ∀ i (h : i < l.length), AtTy B W ab (ao + i * 5) l[i]

set_option maxHeartbeats 4000000 in
theorem few_any (B : Nat) (v : Value) (l : List Ty) (most : Int) (w : World) (hB : B ≤ w.heap.size) (h : HasTys B w v l) : Calls Tryd.prog 4 #[.int .i64 most, v] w (BelowBool w) := by
  obtain ⟨a, cap, ab, ao, rfl, hl, ha, he⟩ := h
  have HA := Lib.hid ha
  have HE := Lib.hid he
  clear ha he
  go_enter Tryd.func4, Tryd.ntmps4
  go_wp2_with fail
  go_loopw [11] (fun t wr => ∃ (k : Nat), t = .int .i64 k ∧ k ≤ l.length ∧ Below w.heap.size w wr) (fun t _ => l.length - (intOf t).toNat)
  case atStart => exact ⟨0, rfl, Nat.zero_le _, Below.refl _ _⟩
  case round =>
    obtain ⟨k, rfl, hk, hwr⟩ := hrel
    by_cases hlt : k < l.length
    · obtain ⟨rfl, hab⟩ := HA.out (by intro e; subst e; simp at hlt)
      obtain ⟨xs, xn, xa, xc, _, c0, c1, c2, c3, c4, hv⟩ := (AtTy.later (hwr.mono hB) (Nat.le_refl _) (HE.out k hlt)).val
      have hBr : B ≤ wr.heap.size := by have := hwr.size; omega
      go_wp2_with fail
      refine (count_any (l[k].sz + 1) B _ l[k] _ _ (by omega) (by simp; omega) (hv.later (((Below.refl _ _).alloc (Nat.le_refl _) _).mono hBr) (Nat.le_refl _))).mono ?_
      rintro e W2 ⟨m2, ok, rfl, hW2⟩
      have hW3 : Below w.heap.size w W2 := (hwr.alloc hwr.size _).trans (hW2.mono (by have := hwr.size; simp; omega))
      cases ok with
      | true =>
        by_cases hm : most < m2
        · go_wp2_with fail
          go_ret
          exact ⟨_, rfl, hW3⟩
        · go_wp2_with fail
          go_roundw
          case rel => exact ⟨k + 1, by go_num, by omega, hW3⟩
          case measure => simp [intOf]; omega
      | false =>
        go_wp2_with fail
        go_ret
        exact ⟨_, rfl, hW3⟩
    · go_wp2_with fail
      go_ret
      exact ⟨_, rfl, hwr⟩
end Go.Proofs.YthopoidcglfdjaaDoor
