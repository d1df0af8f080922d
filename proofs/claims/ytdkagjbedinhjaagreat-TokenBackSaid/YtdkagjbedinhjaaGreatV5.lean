/-
  strings.Builder's WriteByte; what an escape means.
-/
import Derived.Test.YtdkagjbedinhjaaGreatV4
import Derived.Maps.AppendAt
namespace Go.Proofs.YtdkagjbedinhjaaGreat
open Go.RowKit

set_option maxHeartbeats 2000000 in
set_option maxRecDepth 100000 in
theorem write_byte (B b : Nat) (bs : List Value) (c : Int) (w : World) (h : Lib.IsBuilder 96 5 B b bs w) (hlen : bs.length + 1 ≤ 140737488355328) (hBw : B ≤ w.heap.size) :
    Calls Tryz.prog 58 #[.pointer (some ⟨b, 0, none⟩), .int .u8 c] w fun e w' => e = .returned .nilIface ∧ (Lib.BuilderAt 96 5 B b (.pointer (some ⟨b, 0, none⟩)) (bs ++ [.int .u8 c]) w' ∧ Below B w w') := by
  obtain ⟨i0, hi, hz0, hz1, hz2⟩ := info_parts info5
  have HC := Lib.hid (check_any B b bs w h)
  clear h
  go_enter Tryz.func58, Tryz.ntmps58
  go_wp2_with fail
  refine HC.out.mono ?_
  rintro e w1 ⟨rfl, h1, hb1⟩
  obtain ⟨hB, v, hbk, hown, hne⟩ := h1
  have c0 : w1.cell? ⟨b, 0, none⟩ = some (.pointer (some ⟨b, 0, none⟩)) := by rw [Lib.cell_of_heap hbk]; rfl
  have c1 : w1.cell? ⟨b, 1, none⟩ = some v := by rw [Lib.cell_of_heap hbk]; rfl
  go_wp2_with (at_builtin; refine wpList_append_own _ rfl _ _ 57 rfl B 5 i0 (.int .u8 0) 1 1 Tryz.underlying57 hi hz0 hz1 hz2 rfl (by decide) _ _ _ rfl (hown.alloc _) ⟨w1.heap.size, 0, none⟩ 1 1 [.int .u8 c] rfl rfl (cell_one_new _ _ _) (by simp [Value.oneCell']) ?c3 ?c4 ?c5 ?_)
  case c3 => unfold maxLen; omega
  case c4 => omega
  case c5 => have := hb1.size; simp; omega
  intro v' w2 hown' hgrow _
  have hlt : b < w1.heap.size := by
    rcases Nat.lt_or_ge b w1.heap.size with h' | h'
    · exact h'
    · simp [Array.getElem?_eq_none h'] at hbk
  have hb2 : w2.heap[b]? = some (.cells #[.pointer (some ⟨b, 0, none⟩), v] 96 (0, 0)) := by
    rw [hgrow.block b (by simp; omega) (fun e => hne e.symm)]
    exact (Below.heap_alloc w1 _ b hlt).trans hbk
  have d0 : w2.cell? ⟨b, 0, none⟩ = some (.pointer (some ⟨b, 0, none⟩)) := by rw [Lib.cell_of_heap hb2]; rfl
  have d1 : w2.cell? ⟨b, 1, none⟩ = some v := by rw [Lib.cell_of_heap hb2]; rfl
  have f1 : w2.frozen? ⟨b, 1, none⟩ = false := Lib.frozen_of_heap hb2 1
  obtain ⟨ao, n', cap, rfl⟩ : ∃ ao n' cap, v' = .slice ao n' cap := by
    rcases hown'.2 with ⟨hv, _⟩ | ⟨g, cap, cur, hv, _⟩
    · exact ⟨_, _, _, hv⟩
    · exact ⟨_, _, _, hv⟩
  go_wp2
  go_ret
  refine ⟨rfl, ?_, ?_⟩
  · exact Lib.BuilderAt.put (T := 96) (e := 5) hB hb2 (bs' := bs ++ [.int .u8 c]) (by simpa using hown') (by decide)
  · exact ((hb1.alloc (by have := hb1.size; omega) _).grown hgrow (by have := hb1.size; simp; omega) (fun k hk => (hown.lt k hk).1)).setCell (p := ⟨b, 1, none⟩) hB _

/-- WriteByte, said in bytes. -/
theorem write_byte_bytes (Bb b : Nat) (l : Bs) (c : UInt8) (w : World) (h : Lib.IsBuilder 96 5 Bb b (Lib.byteCells l) w) (hlen : l.length + 1 ≤ 140737488355328) (hBw : Bb ≤ w.heap.size) :
    Calls Tryz.prog 58 #[.pointer (some ⟨b, 0, none⟩), .int .u8 (c.toNat : Int)] w fun e w' => e = .returned .nilIface ∧ Lib.IsBuilder 96 5 Bb b (Lib.byteCells (l ++ [c])) w' ∧ Below Bb w w' := by
  refine (write_byte Bb b (Lib.byteCells l) c.toNat w h (by simpa [Lib.byteCells_length] using hlen) hBw).mono ?_
  rintro e w' ⟨rfl, h1, h2⟩
  refine ⟨rfl, .inr ?_, h2⟩
  rw [Lib.byteCells_append]
  exact h1

/-- What an escape means, 0 if nothing. -/
def escB (c : UInt8) : UInt8 := if c = 34 then 34 else if c = 92 then 92 else if c = 110 then 10 else 0
def escL : Bs → UInt8
  | [] => 0
  | c :: _ => escB c

theorem u8_ne {c : UInt8} {n : Nat} (hn : n < 256) (h : c ≠ UInt8.ofNat n) : ((c.toNat : Int) == (n : Int)) = false := by
  have : c.toNat ≠ n := fun e => h (UInt8.toNat_inj.1 (by rw [e, UInt8.toNat_ofNat_of_lt' (by omega)]))
  simp
  omega

set_option maxRecDepth 100000 in
set_option maxHeartbeats 2000000 in
theorem escaped_any (b : Nat) (T : ByteArray) (k : Nat) (w : World) (hS : ScT b T w) (hT : T.size ≤ 100000000) (hk : k ≤ 200000000) :
    Calls Tryz.prog 57 #[.pointer (some ⟨b, 0, none⟩), .int .i64 (k : Int)] w fun e w' => e = .returned (.int .u8 ((escL (from' T k)).toNat : Int)) ∧ w = w' := by
  have c1 := hS.cell
  clear hS
  by_cases hlt : k < T.size
  · have hd : decide (T.size ≤ k) = false := by simp; omega
    by_cases a1 : T[k] = 34
    · have e1 : ((T[k].toNat : Int) == 34) = true := by rw [a1]; rfl
      have t1 : T[k].toNat = 34 := by rw [a1]; rfl
      have T1 := Lib.hid t1
      clear t1
      have hv : escL (from' T k) = 34 := by rw [from_cons hlt]; show escB T[k] = 34; unfold escB; rw [if_pos a1]
      rw [hv]
      clear hv a1
      go_enter Tryz.func57, Tryz.ntmps57
      go_wp2_with fail
      go_ret
      exact ⟨ret_int (by rw [T1.out]; rfl), rfl⟩
    · have e1 : ((T[k].toNat : Int) == 34) = false := u8_ne (n := 34) (by omega) a1
      by_cases a2 : T[k] = 92
      · have e2 : ((T[k].toNat : Int) == 92) = true := by rw [a2]; rfl
        have t1 : T[k].toNat = 92 := by rw [a2]; rfl
        have T1 := Lib.hid t1
        clear t1
        have hv : escL (from' T k) = 92 := by rw [from_cons hlt]; show escB T[k] = 92; unfold escB; rw [if_neg a1, if_pos a2]
        rw [hv]
        clear hv a1 a2
        go_enter Tryz.func57, Tryz.ntmps57
        go_wp2_with fail
        go_ret
        exact ⟨ret_int (by rw [T1.out]; rfl), rfl⟩
      · have e2 : ((T[k].toNat : Int) == 92) = false := u8_ne (n := 92) (by omega) a2
        by_cases a3 : T[k] = 110
        · have e3 : ((T[k].toNat : Int) == 110) = true := by rw [a3]; rfl
          have hv : escL (from' T k) = 10 := by rw [from_cons hlt]; show escB T[k] = 10; unfold escB; rw [if_neg a1, if_neg a2, if_pos a3]
          rw [hv]
          clear hv a1 a2 a3
          go_enter Tryz.func57, Tryz.ntmps57
          go_wp2_with fail
          go_ret
          exact ⟨rfl, rfl⟩
        · have e3 : ((T[k].toNat : Int) == 110) = false := u8_ne (n := 110) (by omega) a3
          have hv : escL (from' T k) = 0 := by rw [from_cons hlt]; show escB T[k] = 0; unfold escB; rw [if_neg a1, if_neg a2, if_neg a3]
          rw [hv]
          clear hv a1 a2 a3
          go_enter Tryz.func57, Tryz.ntmps57
          go_wp2_with fail
          go_ret
          exact ⟨rfl, rfl⟩
  · have hd : decide (T.size ≤ k) = true := by simp; omega
    rw [from_nil (by omega)]
    go_enter Tryz.func57, Tryz.ntmps57
    go_wp2_with fail
    go_ret
    exact ⟨rfl, rfl⟩
end Go.Proofs.YtdkagjbedinhjaaGreat
