/-
  The scanner: identifiers, signs.
-/
import Derived.Test.YtdkagjbedinhjaaGreatS1
namespace Go.Proofs.YtdkagjbedinhjaaGreat
open Go.RowKit

/-- The length of the identifier that a text begins with. -/
def idLen : Bs → Nat
  | [] => 0
  | c :: r => if begB c then runLen goesB (c :: r) else 0
theorem idLen_le (l : Bs) : idLen l ≤ l.length := by
  cases l with
  | nil => exact Nat.le_refl _
  | cons c r =>
    show (if begB c then runLen goesB (c :: r) else 0) ≤ _
    split
    · exact runLen_le _ _
    · exact Nat.zero_le _
theorem idLen_yes {c : UInt8} (r : Bs) (h : begB c = true) : idLen (c :: r) = runLen goesB (c :: r) := if_pos h
theorem idLen_no {c : UInt8} (r : Bs) (h : begB c = false) : idLen (c :: r) = 0 := if_neg (by rw [h]; decide)
theorem idLen_from_le (T : ByteArray) (k : Nat) (h : k ≤ T.size) : k + idLen (from' T k) ≤ T.size := by
  have := idLen_le (from' T k)
  rw [from_len] at this
  omega

set_option maxRecDepth 100000 in
set_option maxHeartbeats 2000000 in
theorem identifier_any (b : Nat) (T : ByteArray) (k : Nat) (w : World) (hS : ScT b T w) (hk : k ≤ T.size) (hT : T.size ≤ 100000000) :
    Calls Tryz.prog 28 #[.pointer (some ⟨b, 0, none⟩), .int .i64 (k : Int)] w fun e w' => e = .returned (.int .i64 ((k + idLen (from' T k) : Nat) : Int)) ∧ w = w' := by
  have c1 := hS.cell
  have HW := Lib.hid (while_goes b T k w hS hk hT)
  clear hS
  by_cases hlt : k < T.size
  · have HD := Lib.hid (from_cons hlt)
    obtain ⟨b0, b1⟩ := u8_bounds T[k]
    have HC := Lib.hid (fun w => begins_any (T[k].toNat : Int) w b0 b1)
    have h1 : decide ((T.size : Int) ≤ k) = false := by simp; omega
    cases hp : begI (T[k].toNat : Int) with
    | true =>
      simp only [hp] at HC
      have HP := Lib.hid (show begB T[k] = true from hp)
      clear hp
      go_enter Tryz.func28, Tryz.ntmps28
      go_wp2_with fail
      (with_reducible refine (HC.out _).mono ?_)
      rintro e w' ⟨rfl, rfl⟩
      go_wp2_with fail
      (with_reducible refine HW.out.mono ?_)
      rintro e w' ⟨rfl, rfl⟩
      go_wp2_with fail
      go_ret
      exact ⟨ret_int (by have e : idLen (from' T k) = runLen goesB (from' T k) := (by rw [HD.out]; exact idLen_yes _ HP.out); rw [e]; simp), rfl⟩
    | false =>
      simp only [hp] at HC
      have HP := Lib.hid (show begB T[k] = false from hp)
      clear hp
      go_enter Tryz.func28, Tryz.ntmps28
      go_wp2_with fail
      (with_reducible refine (HC.out _).mono ?_)
      rintro e w' ⟨rfl, rfl⟩
      go_wp2_with fail
      go_ret
      exact ⟨ret_int (by have e : idLen (from' T k) = 0 := (by rw [HD.out]; exact idLen_no _ HP.out); rw [e]; simp), rfl⟩
  · have HD := Lib.hid (from_nil (T := T) (k := k) (by omega))
    have h1 : decide ((T.size : Int) ≤ k) = true := by simp; omega
    go_enter Tryz.func28, Tryz.ntmps28
    go_wp2_with fail
    go_ret
    exact ⟨ret_int (by rw [HD.out]; simp [idLen]), rfl⟩

/-- The length of the named symbol that a text begins with. -/
def namedLen (l : Bs) : Nat := if 0 < idLen (l.drop 2) ∧ Lib.hasPrefix (l.drop (2 + idLen (l.drop 2))) [62] = true then 2 + idLen (l.drop 2) + 1 else 0
/-- The length of the point, the named symbol or the run of signs that a text begins with. -/
def signLen : Bs → Nat
  | [] => 0
  | c :: r => if pointB c then 1 else if Lib.hasPrefix (c :: r) [92, 60] then namedLen (c :: r) else runLen signB (c :: r)

theorem namedLen_le {l : Bs} (h : Lib.hasPrefix l [92, 60] = true) : namedLen l ≤ l.length := by
  unfold namedLen
  split
  · rename_i hh
    have := (List.isPrefixOf_iff_prefix.1 hh.2).length_le
    rw [List.length_drop] at this
    simp at this
    omega
  · exact Nat.zero_le _
theorem signLen_le (l : Bs) : signLen l ≤ l.length := by
  cases l with
  | nil => exact Nat.le_refl _
  | cons c r =>
    show (if pointB c then 1 else if Lib.hasPrefix (c :: r) [92, 60] then namedLen (c :: r) else runLen signB (c :: r)) ≤ _
    split
    · simp
    · split
      · rename_i h; exact namedLen_le h
      · exact runLen_le _ _
theorem signLen_from_le (T : ByteArray) (k : Nat) (h : k ≤ T.size) : k + signLen (from' T k) ≤ T.size := by
  have := signLen_le (from' T k)
  rw [from_len] at this
  omega

theorem signLen_point {c : UInt8} (r : Bs) (h : pointB c = true) : signLen (c :: r) = 1 := if_pos h
theorem signLen_named {c : UInt8} (r : Bs) (h : pointB c = false) (h2 : Lib.hasPrefix (c :: r) [92, 60] = true) : signLen (c :: r) = namedLen (c :: r) := by
  show (if pointB c then 1 else if Lib.hasPrefix (c :: r) [92, 60] then namedLen (c :: r) else runLen signB (c :: r)) = _
  rw [h, h2]
  rfl
theorem signLen_run {c : UInt8} (r : Bs) (h : pointB c = false) (h2 : Lib.hasPrefix (c :: r) [92, 60] = false) : signLen (c :: r) = runLen signB (c :: r) := by
  show (if pointB c then 1 else if Lib.hasPrefix (c :: r) [92, 60] then namedLen (c :: r) else runLen signB (c :: r)) = _
  rw [h, h2]
  rfl

theorem sign_named_at {T : ByteArray} {k : Nat} (hlt : k < T.size) (hp : pointB T[k] = false) (hq : Lib.hasPrefix (from' T k) [92, 60] = true) {m : Nat} (hm : k + 2 + idLen (from' T (k + 2)) = m) :
    k + signLen (from' T k) = if k + 2 < m ∧ Lib.hasPrefix (from' T m) [62] = true then m + 1 else k := by
  have e : signLen (from' T k) = namedLen (from' T k) := by
    rw [from_cons hlt]
    exact signLen_named _ hp (by rw [← from_cons hlt]; exact hq)
  rw [e]
  unfold namedLen
  rw [from_add, from_add]
  subst hm
  rw [Nat.add_assoc k 2]
  by_cases h : 0 < idLen (from' T (k + 2))
  · by_cases h2 : Lib.hasPrefix (from' T (k + (2 + idLen (from' T (k + 2))))) [62] = true
    · rw [if_pos ⟨h, h2⟩, if_pos ⟨by omega, h2⟩]
      omega
    · rw [if_neg (fun x => h2 x.2), if_neg (fun x => h2 x.2)]
      omega
  · rw [if_neg (fun x => h x.1), if_neg (fun x => h (by omega))]
    omega

set_option maxRecDepth 100000 in
set_option maxHeartbeats 4000000 in
theorem sign_any (b : Nat) (T : ByteArray) (k : Nat) (w : World) (hS : ScT b T w) (hk : k ≤ T.size) (hT : T.size ≤ 100000000) :
    Calls Tryz.prog 29 #[.pointer (some ⟨b, 0, none⟩), .int .i64 (k : Int)] w fun e w' => e = .returned (.int .i64 ((k + signLen (from' T k) : Nat) : Int)) ∧ w = w' := by
  have c1 := hS.cell
  have HW := Lib.hid (while_sign b T k w hS hk hT)
  have hro : (T.extract k T.size).data.toList = from' T k := from_ext T k
  have HPx := Lib.hid fun (w : World) => Tryz.strings_HasPrefix (T.extract k T.size) ⟨#[92, 60]⟩ w
  simp only [hro] at HPx
  have HI := Lib.hid fun (h : k + 2 ≤ T.size) => identifier_any b T (k + 2) w hS h hT
  rw [show (((k + 2 : Nat) : Int)) = (k : Int) + 2 by omega] at HI
  have h1 : (k : Int) ≤ T.size := by omega
  by_cases hlt : k < T.size
  · have hrs : (T.extract k T.size).size = T.size - k := by rw [ByteArray.size_extract]; omega
    have HD := Lib.hid (from_cons hlt)
    have hne : (T.extract k T.size).toList.isEmpty = false := by
      rw [Lib.toList_data, hro, from_cons hlt]; rfl
    have hne2 : (!(T.extract k T.size).toList.isEmpty) = true := by rw [hne]; rfl
    have h0 : (T.extract k T.size)[0]'(by rw [hrs]; omega) = T[k] := by
      rw [ByteArray.getElem_extract]; simp
    have HC := Lib.hid (fun w => (show Calls Tryz.prog 39 #[.string pointsS, .int .u8 (T[k].toNat : Int)] w (fun e w' => e = .returned (.bool (pointB T[k])) ∧ w = w') from has_any pointsS T[k] w))
    cases hp : pointB T[k] with
    | true =>
      simp only [hp] at HC
      have HP := Lib.hid hp
      clear hp
      go_enter Tryz.func29, Tryz.ntmps29
      go_wp2_with fail
      (with_reducible refine (HC.out _).mono ?_)
      rintro e w' ⟨rfl, rfl⟩
      go_wp2_with fail
      go_ret
      exact ⟨ret_int (by rw [HD.out, signLen_point _ HP.out]; omega), rfl⟩
    | false =>
      simp only [hp] at HC
      have HP := Lib.hid hp
      clear hp
      cases hq : Lib.hasPrefix (from' T k) [92, 60] with
      | false =>
        have HQ := Lib.hid hq
        have hq' : Lib.hasPrefix (from' T k) (⟨#[92, 60]⟩ : ByteArray).data.toList = false := hq
        simp only [hq'] at HPx
        clear hq hq'
        go_enter Tryz.func29, Tryz.ntmps29
        go_wp2_with fail
        (with_reducible refine (HC.out _).mono ?_)
        rintro e w' ⟨rfl, rfl⟩
        go_wp2_with fail
        (with_reducible refine (HPx.out _).mono ?_)
        rintro e w' ⟨rfl, rfl⟩
        go_wp2_with fail
        (with_reducible refine HW.out.mono ?_)
        rintro e w' ⟨rfl, rfl⟩
        go_wp2_with fail
        go_ret
        exact ⟨ret_int (by rw [HD.out, signLen_run _ HP.out (by rw [← HD.out]; exact HQ.out)]; simp), rfl⟩
      | true =>
        have HQ := Lib.hid hq
        have hq' : Lib.hasPrefix (from' T k) (⟨#[92, 60]⟩ : ByteArray).data.toList = true := hq
        simp only [hq'] at HPx
        have h2 : k + 2 ≤ T.size := by
          have := (List.isPrefixOf_iff_prefix.1 hq).length_le
          rw [from_len] at this
          simp at this
          omega
        have HI2 := Lib.hid (HI.out h2)
        have HE := Lib.hid (idLen_from_le T (k + 2) h2)
        obtain ⟨m, hm⟩ : ∃ m, k + 2 + idLen (from' T (k + 2)) = m := ⟨_, rfl⟩
        have HNm := Lib.hid (sign_named_at hlt HP.out hq hm)
        rw [hm] at HI2 HE
        have hle := HE.out
        have hge : k + 2 ≤ m := by omega
        clear hq hq' HI hm
        by_cases hz : k + 2 < m
        · have hgt : decide ((k : Int) + 2 < (m : Int)) = true := by simp; omega
          have hle2 : (m : Int) ≤ T.size := by omega
          have hro2 : (T.extract m T.size).data.toList = from' T m := from_ext T m
          have HPy := Lib.hid fun (w : World) => Tryz.strings_HasPrefix (T.extract m T.size) ⟨#[62]⟩ w
          simp only [hro2] at HPy
          clear hro2
          cases hv : Lib.hasPrefix (from' T m) [62] with
          | true =>
            have hv' : Lib.hasPrefix (from' T m) (⟨#[62]⟩ : ByteArray).data.toList = true := hv
            simp only [hv'] at HPy
            have HV := Lib.hid hv
            clear hv hv'
            go_enter Tryz.func29, Tryz.ntmps29
            go_wp2_with fail
            (with_reducible refine (HC.out _).mono ?_)
            rintro e w' ⟨rfl, rfl⟩
            go_wp2_with fail
            (with_reducible refine (HPx.out _).mono ?_)
            rintro e w' ⟨rfl, rfl⟩
            go_wp2_with fail
            (with_reducible refine HI2.out.mono ?_)
            rintro e w' ⟨rfl, rfl⟩
            go_wp2_with fail
            (with_reducible refine (HPy.out _).mono ?_)
            rintro e w' ⟨rfl, rfl⟩
            go_wp2_with fail
            go_ret
            exact ⟨ret_int (by rw [HNm.out, if_pos ⟨hz, HV.out⟩]; omega), rfl⟩
          | false =>
            have hv' : Lib.hasPrefix (from' T m) (⟨#[62]⟩ : ByteArray).data.toList = false := hv
            simp only [hv'] at HPy
            have HV := Lib.hid hv
            clear hv hv'
            go_enter Tryz.func29, Tryz.ntmps29
            go_wp2_with fail
            (with_reducible refine (HC.out _).mono ?_)
            rintro e w' ⟨rfl, rfl⟩
            go_wp2_with fail
            (with_reducible refine (HPx.out _).mono ?_)
            rintro e w' ⟨rfl, rfl⟩
            go_wp2_with fail
            (with_reducible refine HI2.out.mono ?_)
            rintro e w' ⟨rfl, rfl⟩
            go_wp2_with fail
            (with_reducible refine (HPy.out _).mono ?_)
            rintro e w' ⟨rfl, rfl⟩
            go_wp2_with fail
            go_ret
            exact ⟨ret_int (by rw [HNm.out, if_neg (fun x => by rw [HV.out] at x; cases x.2)]), rfl⟩
        · have hgt : decide ((k : Int) + 2 < (m : Int)) = false := by simp; omega
          go_enter Tryz.func29, Tryz.ntmps29
          go_wp2_with fail
          (with_reducible refine (HC.out _).mono ?_)
          rintro e w' ⟨rfl, rfl⟩
          go_wp2_with fail
          (with_reducible refine (HPx.out _).mono ?_)
          rintro e w' ⟨rfl, rfl⟩
          go_wp2_with fail
          (with_reducible refine HI2.out.mono ?_)
          rintro e w' ⟨rfl, rfl⟩
          go_wp2_with fail
          go_ret
          exact ⟨ret_int (by rw [HNm.out, if_neg (fun x => hz x.1)]), rfl⟩
  · have hd := from_nil (T := T) (k := k) (by omega)
    have hne : (T.extract k T.size).toList = [] := by
      rw [Lib.toList_data, hro, hd]
    have hne2 : (!(T.extract k T.size).toList.isEmpty) = false := by rw [hne]; rfl
    have hq' : Lib.hasPrefix (from' T k) (⟨#[92, 60]⟩ : ByteArray).data.toList = false := by rw [hd]; rfl
    simp only [hq'] at HPx
    have HD := Lib.hid hd
    clear hd hq'
    go_enter Tryz.func29, Tryz.ntmps29
    go_wp2_with fail
    (with_reducible refine (HPx.out _).mono ?_)
    rintro e w' ⟨rfl, rfl⟩
    go_wp2_with fail
    (with_reducible refine HW.out.mono ?_)
    rintro e w' ⟨rfl, rfl⟩
    go_wp2_with fail
    go_ret
    exact ⟨ret_int (by rw [HD.out]; simp [signLen, runLen]), rfl⟩
end Go.Proofs.YtdkagjbedinhjaaGreat
