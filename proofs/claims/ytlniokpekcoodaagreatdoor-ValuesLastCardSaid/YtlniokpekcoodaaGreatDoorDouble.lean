/-
  Package scalar's meant and double: a text in double quotes, read.
-/
import Derived.Test.YtlniokpekcoodaaGreatDoorBareM
import Derived.Shelf.Bytes.SlSmallAll
set_option linter.unusedVariables false
set_option linter.unusedSimpArgs false
namespace Go.Proofs.YtlniokpekcoodaaGreatDoor
open Go.RowKit

/-- The byte that is told behind a backslash. -/
def meantB (b : UInt8) : Option UInt8 := if b.toNat = 110 then some 10 else if b.toNat = 116 then some 9 else if b.toNat = 34 ∨ b.toNat = 92 then some b else none
/-- A text in double quotes, behind the first one: what it says, and what stands behind it. -/
def dblL : List UInt8 → List UInt8 → Option (List UInt8 × List UInt8)
  | _, [] => none
  | acc, c :: r =>
    if c.toNat = 34 then some (acc, r)
    else if c.toNat = 10 ∨ c.toNat = 9 then none
    else if c.toNat = 92 then
      match r with
      | [] => none
      | d :: r2 => match meantB d with
        | none => none
        | some b => dblL (acc ++ [b]) r2
    else dblL (acc ++ [c]) r

theorem dbl_cons (acc : List UInt8) (c : UInt8) (r : List UInt8) : dblL acc (c :: r) = (if c.toNat = 34 then some (acc, r)
    else if c.toNat = 10 ∨ c.toNat = 9 then none
    else if c.toNat = 92 then
      match r with
      | [] => none
      | d :: r2 => match meantB d with
        | none => none
        | some b => dblL (acc ++ [b]) r2
    else dblL (acc ++ [c]) r) := by rw [dblL.eq_def]

theorem byte_meant (c : Nat) : (((c : Int) == 110) = true ∧ c = 110) ∨ (((c : Int) == 110) = false ∧ ((c : Int) == 116) = true ∧ c = 116) ∨ (((c : Int) == 110) = false ∧ ((c : Int) == 116) = false ∧ ((c : Int) == 34) = true ∧ c = 34) ∨ (((c : Int) == 110) = false ∧ ((c : Int) == 116) = false ∧ ((c : Int) == 34) = false ∧ ((c : Int) == 92) = true ∧ c = 92) ∨ (((c : Int) == 110) = false ∧ ((c : Int) == 116) = false ∧ ((c : Int) == 34) = false ∧ ((c : Int) == 92) = false ∧ c ≠ 110 ∧ c ≠ 116 ∧ c ≠ 34 ∧ c ≠ 92) := by
  simp only [beq_iff_eq, beq_eq_false_iff_ne, ne_eq]
  omega

def MeantIn (o : Option UInt8) (w : World) (e : Ending) (w' : World) : Prop := w' = w ∧ match o with
  | none => e = .returned (.tuple #[.int .u8 0, .bool false])
  | some b => e = .returned (.tuple #[.int .u8 b.toNat, .bool true])

theorem cmeant_empty (w : World) : Calls Tryz.prog 93 #[.string ⟨#[]⟩] w (MeantIn none w) := by
  go_enter Tryz.func93, Tryz.ntmps93
  go_wp2_with fail
  go_ret2
  exact ⟨rfl, rfl⟩
theorem cmeant_any (s : ByteArray) (h : 0 < s.size) (w : World) : Calls Tryz.prog 93 #[.string s] w (MeantIn (meantB s[0]) w) := by
  have hne : (s.toList == []) = false := by
    rw [str_is]
    exact decide_eq_false (fun e => by rw [Lib.size_eq, e] at h; exact absurd h (by simp))
  have hne2 : s.toList.isEmpty = false := by
    cases hx : s.toList with
    | nil => rw [hx] at hne; cases hne
    | cons _ _ => rfl
  rcases byte_meant (s[0]).toNat with ⟨c1, n1⟩ | ⟨c1, c2, n1⟩ | ⟨c1, c2, c3, n1⟩ | ⟨c1, c2, c3, c4, n1⟩ | ⟨c1, c2, c3, c4, n1, n2, n3, n4⟩
  · have HX : Hid (meantB s[0] = some 10) := by show _ = _; rw [meantB, if_pos n1]
    clear n1
    rw [HX.out]
    go_enter Tryz.func93, Tryz.ntmps93
    go_wp2_with fail
    go_ret2
    exact ⟨rfl, rfl⟩
  · have HX : Hid (meantB s[0] = some 9) := by show _ = _; rw [meantB, if_neg (by omega), if_pos n1]
    clear n1
    rw [HX.out]
    go_enter Tryz.func93, Tryz.ntmps93
    go_wp2_with fail
    go_ret2
    exact ⟨rfl, rfl⟩
  · have HX : Hid (meantB s[0] = some s[0]) := by show _ = _; rw [meantB, if_neg (by omega), if_neg (by omega), if_pos (.inl n1)]
    clear n1
    rw [HX.out]
    go_enter Tryz.func93, Tryz.ntmps93
    go_wp2_with fail
    go_ret2
    exact ⟨rfl, rfl⟩
  · have HX : Hid (meantB s[0] = some s[0]) := by show _ = _; rw [meantB, if_neg (by omega), if_neg (by omega), if_pos (.inr n1)]
    clear n1
    rw [HX.out]
    go_enter Tryz.func93, Tryz.ntmps93
    go_wp2_with fail
    go_ret2
    exact ⟨rfl, rfl⟩
  · have HX : Hid (meantB s[0] = none) := by show _ = _; rw [meantB, if_neg n1, if_neg n2, if_neg (by omega)]
    clear n1 n2 n3 n4
    rw [HX.out]
    go_enter Tryz.func93, Tryz.ntmps93
    go_wp2_with fail
    go_ret2
    exact ⟨rfl, rfl⟩

def meantL : List UInt8 → Option UInt8
  | [] => none
  | d :: _ => meantB d
theorem cmeant_all (s : ByteArray) (w : World) : Calls Tryz.prog 93 #[.string s] w (MeantIn (meantL s.data.toList) w) := by
  by_cases h : 0 < s.size
  · rw [str_head s h]
    exact cmeant_any s h w
  · have hse : s = ⟨#[]⟩ := by
      rw [← Lib.mk_data s]
      have : s.data.toList = [] := List.eq_nil_of_length_eq_zero (by rw [← Lib.size_eq]; omega)
      rw [this]
    subst hse
    exact cmeant_empty w

theorem byte_dbl (c : Nat) : (((c : Int) == 34) = true ∧ c = 34) ∨ (((c : Int) == 34) = false ∧ ((c : Int) == 10) = true ∧ c = 10) ∨ (((c : Int) == 34) = false ∧ ((c : Int) == 10) = false ∧ ((c : Int) == 9) = true ∧ c = 9) ∨ (((c : Int) == 34) = false ∧ ((c : Int) == 10) = false ∧ ((c : Int) == 9) = false ∧ ((c : Int) == 92) = true ∧ c = 92) ∨ (((c : Int) == 34) = false ∧ ((c : Int) == 10) = false ∧ ((c : Int) == 9) = false ∧ ((c : Int) == 92) = false ∧ c ≠ 34 ∧ c ≠ 10 ∧ c ≠ 9 ∧ c ≠ 92) := by
  simp only [beq_iff_eq, beq_eq_false_iff_ne, ne_eq]
  omega

/-- What double leaves. -/
def DoubleIn (o : Option (List UInt8 × List UInt8)) (w : World) (e : Ending) (w' : World) : Prop := Below w.heap.size w w' ∧ match o with
  | none => e = .returned (.tuple #[.string ⟨#[]⟩, .string ⟨#[]⟩, .bool false])
  | some (a, b) => e = .returned (.tuple #[.string ⟨a.toArray⟩, .string ⟨b.toArray⟩, .bool true])

theorem dbl_fin {o o' : Option (List UInt8 × List UInt8)} {w w' : World} {e : Ending} (h : o = o') (hD : DoubleIn o' w e w') : DoubleIn o w e w' := h ▸ hD
theorem ext_from (s : ByteArray) (j : Nat) : s.extract j s.size = ⟨(s.data.toList.drop j).toArray⟩ := by
  rw [← Lib.mk_data (s.extract j s.size), ext_drop]

set_option maxRecDepth 100000 in
theorem conv_own {base : Nat} {w : World} {al : Option Addr} {c : Nat} {l : List UInt8} (h : OwnB base w (.slice al l.length c) l) : (convert 67 9 (.slice al l.length c)).run Tryz.prog w = .ok (.string ⟨l.toArray⟩) w := by
  by_cases hl : 0 < l.length
  · obtain ⟨g, c', hv, hcells⟩ := ownB_form h hl
    injection hv with e1 e2 e3
    subst e1 e3
    exact run_convert_bytes_back (P := Tryz.prog) w 67 9 5 ⟨g, 0, none⟩ c l Tryz.underlying67 Tryz.underlying5 Tryz.underlying9 hcells
  · have e : l = [] := List.eq_nil_of_length_eq_zero (by omega)
    subst e
    exact run_convert_bytes_zero w 67 5 Tryz.underlying67 Tryz.underlying5 al c 9 Tryz.underlying9

set_option maxHeartbeats 4000000 in
theorem cdouble_any (s : ByteArray) (hs : s.size ≤ 1000000000000) (w : World) : Calls Tryz.prog 67 #[.string s] w (DoubleIn (dblL [] s.data.toList) w) := by
  obtain ⟨i0, hi, hz0, hz1, hz2⟩ := info_byte
  have HI0 := Lib.hid hi
  have HZ0 := Lib.hid hz0
  have HZ1 := Lib.hid hz1
  have HZ2 := Lib.hid hz2
  clear hi hz0 hz1 hz2
  go_enter Tryz.func67, Tryz.ntmps67
  go_wp2_with fail
  go_loopw [5, 6] (fun v vi wr => ∃ (j : Nat) (acc : List UInt8), j ≤ s.size ∧ acc.length ≤ j ∧ vi = .int .i64 j ∧ OwnB w.heap.size wr v acc ∧ Below w.heap.size w wr ∧ Hid (dblL [] s.data.toList = dblL acc (s.data.toList.drop j))) (fun _ vi _ => s.size - (intOf vi).toNat)
  case atStart => exact ⟨0, [], Nat.zero_le _, Nat.zero_le _, rfl, ⟨rfl, .inl ⟨rfl, rfl⟩⟩, Below.refl _ _, rfl⟩
  case round =>
    obtain ⟨j, acc, hj, hal, rfl, hown, hbel, HD⟩ := hrel
    obtain ⟨al, cl, rfl⟩ := row_form hown
    have HO := Lib.hid hown
    have HBE := Lib.hid hbel
    have hbs : w.heap.size ≤ wr.heap.size := hbel.size
    clear hown hbel
    by_cases hjl : j < s.size
    · have HS := Lib.hid (drop_step s j hjl)
      rcases byte_dbl (s[j]).toNat with ⟨c1, n1⟩ | ⟨c1, c2, n1⟩ | ⟨c1, c2, c3, n1⟩ | ⟨c1, c2, c3, c4, n1⟩ | ⟨c1, c2, c3, c4, n1, n2, n3, n4⟩
      · have HX : Hid (dblL [] s.data.toList = some (acc, s.data.toList.drop (j + 1))) := by show _ = _; rw [HD.out, HS.out, dbl_cons, if_pos n1]
        clear n1
        have hconv : ∀ n, (convert 67 9 (.slice al acc.length cl)).run Tryz.prog (wr.drewN n) = .ok (.string ⟨acc.toArray⟩) (wr.drewN n) := fun n => conv_own (World.ownsRow.kept (row := none) HO.out (grown_of_below (bdrewN (Below.refl _ _) n) none) (by
          cases hv : (Value.slice al acc.length cl).ownBlock with
          | none => exact .inl rfl
          | some k => exact .inr (by simp)))
        go_wp2_with fail
        go_quiet (fail)
        go_wp2_with fail
        go_ret3
        refine dbl_fin HX.out ⟨HBE.out.trans (bdrewN (Below.refl _ _) nq), ?_⟩
        show Ending.returned (.tuple #[.string ⟨acc.toArray⟩, .string (s.extract (j + 1) s.size), .bool true]) = .returned (.tuple #[.string ⟨acc.toArray⟩, .string ⟨(s.data.toList.drop (j + 1)).toArray⟩, .bool true])
        rw [ext_from]
      · have HX : Hid (dblL [] s.data.toList = none) := by show _ = _; rw [HD.out, HS.out, dbl_cons, if_neg (by omega), if_pos (.inl n1)]
        clear n1
        go_wp2_with fail
        go_ret3
        exact dbl_fin HX.out ⟨HBE.out, rfl⟩
      · have HX : Hid (dblL [] s.data.toList = none) := by show _ = _; rw [HD.out, HS.out, dbl_cons, if_neg (by omega), if_pos (.inr n1)]
        clear n1
        go_wp2_with fail
        go_ret3
        exact dbl_fin HX.out ⟨HBE.out, rfl⟩
      · have HX : Hid (∀ x, meantL (s.data.toList.drop (j + 1)) = x → dblL [] s.data.toList = match x with
            | none => none
            | some b => dblL (acc ++ [b]) (s.data.toList.drop (j + 1 + 1))) := fun x hx => by
          rw [HD.out, HS.out, dbl_cons, if_neg (by omega), if_neg (by omega), if_pos n1]
          cases hd : s.data.toList.drop (j + 1) with
          | nil => rw [hd] at hx; subst hx; rfl
          | cons d r2 =>
            rw [hd] at hx
            have hr : s.data.toList.drop (j + 1 + 1) = r2 := by
              rw [← List.drop_drop, hd]
              rfl
            rw [hr, ← hx]
            simp only [meantL]
        clear n1
        cases hm : meantL (s.data.toList.drop (j + 1)) with
        | none =>
          have HX2 : Hid (dblL [] s.data.toList = none) := HX.out _ hm
          have HM := Lib.hid hm
          clear hm
          go_wp2_with (go_at_call 93; refine (cmeant_all _ _).mono ?_; rintro e w2 ⟨hw, he⟩; rw [ext_drop, HM.out] at he; have hw2 := hw.symm; subst hw2; subst he)
          go_ret3
          exact dbl_fin HX2.out ⟨HBE.out, rfl⟩
        | some b =>
          have HX2 : Hid (dblL [] s.data.toList = dblL (acc ++ [b]) (s.data.toList.drop (j + 1 + 1))) := HX.out _ hm
          have HM := Lib.hid hm
          have hj2 : j + 1 < s.size := by
            rcases Nat.lt_or_ge (j + 1) s.size with h | h
            · exact h
            · rw [List.drop_eq_nil_of_le (by rw [← Lib.size_eq]; exact h)] at hm
              cases hm
          clear hm
          have O1 : Hid (OwnB w.heap.size (wr.alloc (.cells #[.int .u8 b.toNat] 5)) (.slice al acc.length cl) acc) := World.ownsRow.alloc HO.out _
          go_wp2_with (first
            | (go_at_call 93; refine (cmeant_all _ _).mono ?_; rintro e w2 ⟨hw, he⟩; rw [ext_drop, HM.out] at he; have hw2 := hw.symm; subst hw2; subst he)
            | (at_builtin; (refine wpList_append_own_any _ rfl (.tmp 45) (.tmp 47) 67 rfl w.heap.size 5 i0 _ 1 1 Tryz.underlying67 HI0.out HZ0.out HZ1.out HZ2.out (by rfl) (by decide) (.slice al acc.length cl) acc.length _ rfl O1.out (some ⟨wr.heap.size, 0, none⟩) 1 1 [.int .u8 b.toNat] rfl rfl (fun h => by cases h) (byte_lit wr _ _) (fun u hu => by simp at hu; subst hu; rfl) (by unfold maxLen; omega) (by omega) (by simp; omega) ?_)
               intro v2 w3 own2 hg2 hob2
               have G := Lib.hid ((grew_of (b := b) own2 hg2 hob2).alloc)
               have HBN : Hid (Below w.heap.size w w3) := Below.grown (HBE.out.alloc HBE.out.size _) hg2 (by simp; omega) (fun k hk => ((World.ownsRow.lt O1.out) k hk).1)
               clear own2 hg2 hob2))
          go_roundw
          case rel => exact ⟨j + 1 + 1, acc ++ [b], by omega, by simp; omega, by go_num, G.out.1, HBN.out, HX2.out⟩
          case measure => simp [intOf]; omega
      · have HX : Hid (dblL [] s.data.toList = dblL (acc ++ [s[j]]) (s.data.toList.drop (j + 1))) := by show _ = _; rw [HD.out, HS.out, dbl_cons, if_neg n1, if_neg (by omega), if_neg n4]
        clear n1 n2 n3 n4
        obtain ⟨b, hb⟩ : ∃ b, s[j] = b := ⟨_, rfl⟩
        have O1 : Hid (OwnB w.heap.size (wr.alloc (.cells #[.int .u8 s[j].toNat] 5)) (.slice al acc.length cl) acc) := World.ownsRow.alloc HO.out _
        clear hb b
        go_wp2_with (first
            | (at_builtin; (refine wpList_append_own_any _ rfl (.tmp 45) (.tmp 47) 67 rfl w.heap.size 5 i0 _ 1 1 Tryz.underlying67 HI0.out HZ0.out HZ1.out HZ2.out (by rfl) (by decide) (.slice al acc.length cl) acc.length _ rfl O1.out (some ⟨wr.heap.size, 0, none⟩) 1 1 [.int .u8 s[j].toNat] rfl rfl (fun h => by cases h) (byte_lit wr _ _) (fun u hu => by simp at hu; subst hu; rfl) (by unfold maxLen; omega) (by omega) (by simp; omega) ?_)
               intro v2 w3 own2 hg2 hob2
               have G := Lib.hid ((grew_of (b := s[j]) own2 hg2 hob2).alloc)
               have HBN : Hid (Below w.heap.size w w3) := Below.grown (HBE.out.alloc HBE.out.size _) hg2 (by simp; omega) (fun k hk => ((World.ownsRow.lt O1.out) k hk).1)
               clear own2 hg2 hob2))
        go_roundw
        case rel => exact ⟨j + 1, acc ++ [s[j]], by omega, by simp; omega, by go_num, G.out.1, HBN.out, HX.out⟩
        case measure => simp [intOf]; omega
    · have HX : Hid (dblL [] s.data.toList = none) := by
        show _ = _
        rw [HD.out, List.drop_eq_nil_of_le (by rw [← Lib.size_eq]; omega)]
        rfl
      go_wp2_with fail
      go_ret3
      exact dbl_fin HX.out ⟨HBE.out, rfl⟩

end Go.Proofs.YtlniokpekcoodaaGreatDoor
