/-
  Package scalar's number, Parse, word; what package tree makes of flat things.
-/
import Derived.Test.YtlniokpekcoodaaGreatDoorBareM
import Derived.Test.YtlniokpekcoodaaGreatDoorShelf
import Derived.Shelf.Strings.SlTrimAscii
set_option linter.unusedVariables false
set_option linter.unusedSimpArgs false
namespace Go.Proofs.YtlniokpekcoodaaGreatDoor
open Go.RowKit

abbrev six (k : Int) (b : Bool) (n : Int) (s : ByteArray) : Array Value := #[.int .i64 k, .bool b, .int .i64 n, .string s, .slice none 0 0, .slice none 0 0]

theorem tNull_flat (w : World) : Calls Tryz.prog 63 #[] w fun e w' => e = .returned (.agg (six 0 false 0 ⟨#[]⟩)) ∧ Below w.heap.size w w' := by
  obtain ⟨dd, hu, hdd⟩ := Tryz.structV
  have DD := Lib.hid hdd
  have HU := Lib.hid hu
  clear hdd hu
  go_enter Tryz.func63, Tryz.ntmps63
  go_wp2_with fail
  exact ret_cells0 w.heap.size (six 0 false 0 ⟨#[]⟩).toList Tryz.results63 rfl rfl DD.out HU.out Tryz.sizeV (fun i hi => by rw [World.cell?_alloc_new]; exact Array.getElem?_eq_getElem (show i < 6 from hi)) ⟨rfl, (Below.refl _ _).alloc (Nat.le_refl _) _⟩
theorem tBool_flat (b : Bool) (w : World) : Calls Tryz.prog 64 #[.bool b] w fun e w' => e = .returned (.agg (six 1 b 0 ⟨#[]⟩)) ∧ Below w.heap.size w w' := by
  obtain ⟨dd, hu, hdd⟩ := Tryz.structV
  have DD := Lib.hid hdd
  have HU := Lib.hid hu
  clear hdd hu
  go_enter Tryz.func64, Tryz.ntmps64
  go_wp2_with fail
  exact ret_cells0 w.heap.size (six 1 b 0 ⟨#[]⟩).toList Tryz.results64 rfl rfl DD.out HU.out Tryz.sizeV (fun i hi => by rw [World.cell?_alloc_new]; exact Array.getElem?_eq_getElem (show i < 6 from hi)) ⟨rfl, (Below.refl _ _).alloc (Nat.le_refl _) _⟩
theorem tInt_flat (n : Int) (w : World) : Calls Tryz.prog 26 #[.int .i64 n] w fun e w' => e = .returned (.agg (six 2 false n ⟨#[]⟩)) ∧ Below w.heap.size w w' := by
  obtain ⟨dd, hu, hdd⟩ := Tryz.structV
  have DD := Lib.hid hdd
  have HU := Lib.hid hu
  clear hdd hu
  go_enter Tryz.func26, Tryz.ntmps26
  go_wp2_with fail
  exact ret_cells0 w.heap.size (six 2 false n ⟨#[]⟩).toList Tryz.results26 rfl rfl DD.out HU.out Tryz.sizeV (fun i hi => by rw [World.cell?_alloc_new]; exact Array.getElem?_eq_getElem (show i < 6 from hi)) ⟨rfl, (Below.refl _ _).alloc (Nat.le_refl _) _⟩
theorem tStr_flat (s : ByteArray) (w : World) : Calls Tryz.prog 42 #[.string s] w fun e w' => e = .returned (.agg (six 3 false 0 s)) ∧ Below w.heap.size w w' := by
  obtain ⟨dd, hu, hdd⟩ := Tryz.structV
  have DD := Lib.hid hdd
  have HU := Lib.hid hu
  clear hdd hu
  go_enter Tryz.func42, Tryz.ntmps42
  go_wp2_with fail
  exact ret_cells0 w.heap.size (six 3 false 0 s).toList Tryz.results42 rfl rfl DD.out HU.out Tryz.sizeV (fun i hi => by rw [World.cell?_alloc_new]; exact Array.getElem?_eq_getElem (show i < 6 from hi)) ⟨rfl, (Below.refl _ _).alloc (Nat.le_refl _) _⟩

/-- Digits, with a minus ahead or not. -/
def numberL (l : List UInt8) : Bool := !decide (Lib.trimPrefix l [45] = []) && (Lib.trimPrefix l [45]).all digitB

theorem Tryz.setZero1 : (Tryz.prog.info? (Tryz.lays161_ren.t 116)).map (fun i => (i.zero, i.size)) = some (some (.agg (Array.replicate 256 (.bool false))), 256) := by kernel_rfl
theorem ascii_of_all {l : List UInt8} (h : (l.all fun b => decide (b.toNat < 128)) = true) : ∀ (j : Nat) b, l[j]? = some b → b.toNat < 128 := fun j b hj => by
  have := List.all_eq_true.1 h b (List.mem_of_getElem? hj)
  simpa using this
theorem digit_set (b : UInt8) : ([48, 49, 50, 51, 52, 53, 54, 55, 56, 57] : List UInt8).contains b = digitB b := by
  have : ∀ n : Fin 256, ([48, 49, 50, 51, 52, 53, 54, 55, 56, 57] : List UInt8).contains (UInt8.ofNat n.val) = digitB (UInt8.ofNat n.val) := by decide +kernel
  have h := this ⟨b.toNat, b.toNat_lt⟩
  simpa using h
theorem trim_digits (l : List UInt8) : decide (Lib.trimLeftS l [48, 49, 50, 51, 52, 53, 54, 55, 56, 57] = []) = l.all digitB := by
  unfold Lib.trimLeftS
  induction l with
  | nil => rfl
  | cons b l ih =>
    rw [List.dropWhile_cons, List.all_cons, ← digit_set b]
    cases ([48, 49, 50, 51, 52, 53, 54, 55, 56, 57] : List UInt8).contains b with
    | true => simpa using ih
    | false => simp

theorem empty_is (l : List UInt8) : l.isEmpty = decide (l = []) := by cases l <;> simp

set_option maxHeartbeats 1000000 in
theorem cnumber_any (s : ByteArray) (hs : s.size ≤ 140737488355328) (w : World) : Calls Tryz.prog 65 #[.string s] w fun e w' => e = .returned (.bool (numberL s.data.toList)) ∧ Below w.heap.size w w' := by
  have HN : Hid (numberL s.data.toList = (!decide (Lib.trimPrefix s.data.toList [45] = []) && (Lib.trimPrefix s.data.toList [45]).all digitB)) := rfl
  obtain ⟨d, hd⟩ : ∃ d, Lib.trimPrefix s.data.toList [45] = d := ⟨_, rfl⟩
  have HD := Lib.hid hd
  rw [hd] at HN
  clear hd
  have e1 := empty_is d
  have e2 := empty_is (Lib.trimLeftS d [48, 49, 50, 51, 52, 53, 54, 55, 56, 57])
  rw [trim_digits] at e2
  by_cases hd0 : d = []
  · rw [decide_eq_true hd0] at e1
    rw [decide_eq_true hd0] at HN
    clear hd0 e2
    go_enter Tryz.func65, Tryz.ntmps65
    go_wp2_with (go_at_call 89; refine (Tryz.strings_TrimPrefix _ _ _).mono ?_; rintro e w1 ⟨he, rfl⟩
                 have he2 : e = .returned (.string ⟨d.toArray⟩) := he.trans (congrArg (fun x : List UInt8 => Ending.returned (.string ⟨x.toArray⟩)) HD.out)
                 clear he
                 subst he2)
    go_ret
    exact ⟨ret_bool (by rw [HN.out]; rfl), Below.refl _ _⟩
  · rw [decide_eq_false hd0] at e1
    rw [decide_eq_false hd0] at HN
    clear hd0
    cases hall : d.all digitB with
    | true =>
      rw [hall] at e2 HN
      clear hall
      go_enter Tryz.func65, Tryz.ntmps65
      go_wp2_with (first
        | (go_at_call 89; refine (Tryz.strings_TrimPrefix _ _ _).mono ?_; rintro e w1 ⟨he, hw⟩
           have he2 : e = .returned (.string ⟨d.toArray⟩) := he.trans (congrArg (fun x : List UInt8 => Ending.returned (.string ⟨x.toArray⟩)) HD.out)
           have hw2 := hw.symm
           clear he
           subst he2 hw2)
        | (go_at_call 90; refine (Any.strings_TrimLeft_laid Tryz.lays161 Tryz.setZero1 _ ⟨#[48, 49, 50, 51, 52, 53, 54, 55, 56, 57]⟩ _ (by decide) (ascii_of_all (by decide))).mono ?_; rintro e w3 ⟨rfl, hb⟩))
      go_ret
      exact ⟨ret_bool (by rw [HN.out]; rfl), hb⟩
    | false =>
      rw [hall] at e2 HN
      clear hall
      go_enter Tryz.func65, Tryz.ntmps65
      go_wp2_with (first
        | (go_at_call 89; refine (Tryz.strings_TrimPrefix _ _ _).mono ?_; rintro e w1 ⟨he, hw⟩
           have he2 : e = .returned (.string ⟨d.toArray⟩) := he.trans (congrArg (fun x : List UInt8 => Ending.returned (.string ⟨x.toArray⟩)) HD.out)
           have hw2 := hw.symm
           clear he
           subst he2 hw2)
        | (go_at_call 90; refine (Any.strings_TrimLeft_laid Tryz.lays161 Tryz.setZero1 _ ⟨#[48, 49, 50, 51, 52, 53, 54, 55, 56, 57]⟩ _ (by decide) (ascii_of_all (by decide))).mono ?_; rintro e w3 ⟨rfl, hb⟩))
      go_ret
      exact ⟨ret_bool (by rw [HN.out]; rfl), hb⟩

def wordB (s : ByteArray) : ByteArray := if bareL s.data.toList = true then s else ⟨(quoteL s.data.toList).toArray⟩
theorem cells6 {W : World} {g : Nat} {a b c d e f : Value} (c0 : W.cell? ⟨g, 0, none⟩ = some a) (c1 : W.cell? ⟨g, 1, none⟩ = some b) (c2 : W.cell? ⟨g, 2, none⟩ = some c) (c3 : W.cell? ⟨g, 3, none⟩ = some d) (c4 : W.cell? ⟨g, 4, none⟩ = some e) (c5 : W.cell? ⟨g, 5, none⟩ = some f) : ∀ i, i < 6 → ∃ u, W.cell? ⟨g, i, none⟩ = some u := fun i hi => by
  have hi6 : i = 0 ∨ i = 1 ∨ i = 2 ∨ i = 3 ∨ i = 4 ∨ i = 5 := by omega
  rcases hi6 with rfl | rfl | rfl | rfl | rfl | rfl
  · exact ⟨_, c0⟩
  · exact ⟨_, c1⟩
  · exact ⟨_, c2⟩
  · exact ⟨_, c3⟩
  · exact ⟨_, c4⟩
  · exact ⟨_, c5⟩

/-- What Parse leaves. -/
def ParseTo (w : World) (cs : Array Value) (c : Int) (e : Ending) (w' : World) : Prop := e = .returned (.tuple #[.agg cs, .int .i64 c]) ∧ Below w.heap.size w w'

/-- A word that Parse takes for nothing, or for a truth. -/
def namedB (l : List UInt8) : Bool := decide (l = []) || decide (l = [126]) || decide (l = [110, 117, 108, 108]) || decide (l = [116, 114, 117, 101]) || decide (l = [102, 97, 108, 115, 101])

theorem named_false {s : ByteArray} (h : namedB s.data.toList = false) : (s.toList == []) = false ∧ s.toList.isEmpty = false ∧ (s.toList == [126]) = false ∧ (s.toList == [110, 117, 108, 108]) = false ∧ (s.toList == [116, 114, 117, 101]) = false ∧ (s.toList == [102, 97, 108, 115, 101]) = false := by
  unfold namedB at h
  simp only [Bool.or_eq_false_iff] at h
  obtain ⟨⟨⟨⟨h1, h2⟩, h3⟩, h4⟩, h5⟩ := h
  refine ⟨by rw [str_is, h1], ?_, by rw [str_is, h2], by rw [str_is, h3], by rw [str_is, h4], by rw [str_is, h5]⟩
  have h6 : (s.toList == []) = false := by rw [str_is, h1]
  cases hx : s.toList with
  | nil => rw [hx] at h6; cases h6
  | cons _ _ => rfl

theorem cParse_none (w : World) : Calls Tryz.prog 40 #[.string ⟨#[]⟩] w (ParseTo w (six 0 false 0 ⟨#[]⟩) 0) := by
  obtain ⟨dd, hu, hdd⟩ := Tryz.structV
  have DD := Lib.hid hdd
  have HU := Lib.hid hu
  clear hdd hu
  go_enter Tryz.func40, Tryz.ntmps40
  go_wp2_with (first
    | (go_at_call 63; refine (tNull_flat _).mono ?_; rintro e w1 ⟨rfl, hb⟩
       obtain ⟨x0, f0⟩ := one_boxV hb
       have HB := Lib.hid hb
       have c0 := x0 0
       have c1 := x0 1
       have c2 := x0 2
       have c3 := x0 3
       have c4 := x0 4
       have c5 := x0 5
       simp at c0 c1 c2 c3 c4 c5
       clear x0 hb))
  exact ret_cells_tmp w1 w.heap.size (six 0 false 0 ⟨#[]⟩).toList rfl Tryz.results40 rfl rfl DD.out HU.out Tryz.sizeV (cells6 c0 c1 c2 c3 c4 c5) ⟨rfl, setRow_below _ (Nat.le_refl _) _ _ _ (((Below.refl _ _).alloc (Nat.le_refl _) _).trans (HB.out.mono (by simp)))⟩

theorem cParse_tilde (w : World) : Calls Tryz.prog 40 #[.string ⟨#[126]⟩] w (ParseTo w (six 0 false 0 ⟨#[]⟩) 0) := by
  obtain ⟨dd, hu, hdd⟩ := Tryz.structV
  have DD := Lib.hid hdd
  have HU := Lib.hid hu
  clear hdd hu
  go_enter Tryz.func40, Tryz.ntmps40
  go_wp2_with (first
    | (go_at_call 63; refine (tNull_flat _).mono ?_; rintro e w1 ⟨rfl, hb⟩
       obtain ⟨x0, f0⟩ := one_boxV hb
       have HB := Lib.hid hb
       have c0 := x0 0
       have c1 := x0 1
       have c2 := x0 2
       have c3 := x0 3
       have c4 := x0 4
       have c5 := x0 5
       simp at c0 c1 c2 c3 c4 c5
       clear x0 hb))
  exact ret_cells_tmp w1 w.heap.size (six 0 false 0 ⟨#[]⟩).toList rfl Tryz.results40 rfl rfl DD.out HU.out Tryz.sizeV (cells6 c0 c1 c2 c3 c4 c5) ⟨rfl, setRow_below _ (Nat.le_refl _) _ _ _ (((Below.refl _ _).alloc (Nat.le_refl _) _).trans (HB.out.mono (by simp)))⟩

theorem cParse_null (w : World) : Calls Tryz.prog 40 #[.string ⟨#[110, 117, 108, 108]⟩] w (ParseTo w (six 0 false 0 ⟨#[]⟩) 0) := by
  obtain ⟨dd, hu, hdd⟩ := Tryz.structV
  have DD := Lib.hid hdd
  have HU := Lib.hid hu
  clear hdd hu
  go_enter Tryz.func40, Tryz.ntmps40
  go_wp2_with (first
    | (go_at_call 63; refine (tNull_flat _).mono ?_; rintro e w1 ⟨rfl, hb⟩
       obtain ⟨x0, f0⟩ := one_boxV hb
       have HB := Lib.hid hb
       have c0 := x0 0
       have c1 := x0 1
       have c2 := x0 2
       have c3 := x0 3
       have c4 := x0 4
       have c5 := x0 5
       simp at c0 c1 c2 c3 c4 c5
       clear x0 hb))
  exact ret_cells_tmp w1 w.heap.size (six 0 false 0 ⟨#[]⟩).toList rfl Tryz.results40 rfl rfl DD.out HU.out Tryz.sizeV (cells6 c0 c1 c2 c3 c4 c5) ⟨rfl, setRow_below _ (Nat.le_refl _) _ _ _ (((Below.refl _ _).alloc (Nat.le_refl _) _).trans (HB.out.mono (by simp)))⟩

theorem cParse_true (w : World) : Calls Tryz.prog 40 #[.string ⟨#[116, 114, 117, 101]⟩] w (ParseTo w (six 1 true 0 ⟨#[]⟩) 0) := by
  obtain ⟨dd, hu, hdd⟩ := Tryz.structV
  have DD := Lib.hid hdd
  have HU := Lib.hid hu
  clear hdd hu
  go_enter Tryz.func40, Tryz.ntmps40
  go_wp2_with (first
    | (go_at_call 64; refine (tBool_flat _ _).mono ?_; rintro e w1 ⟨rfl, hb⟩
       obtain ⟨x0, f0⟩ := one_boxV hb
       have HB := Lib.hid hb
       have c0 := x0 0
       have c1 := x0 1
       have c2 := x0 2
       have c3 := x0 3
       have c4 := x0 4
       have c5 := x0 5
       simp at c0 c1 c2 c3 c4 c5
       clear x0 hb))
  exact ret_cells_tmp w1 w.heap.size (six 1 true 0 ⟨#[]⟩).toList rfl Tryz.results40 rfl rfl DD.out HU.out Tryz.sizeV (cells6 c0 c1 c2 c3 c4 c5) ⟨rfl, setRow_below _ (Nat.le_refl _) _ _ _ (((Below.refl _ _).alloc (Nat.le_refl _) _).trans (HB.out.mono (by simp)))⟩

theorem cParse_false (w : World) : Calls Tryz.prog 40 #[.string ⟨#[102, 97, 108, 115, 101]⟩] w (ParseTo w (six 1 false 0 ⟨#[]⟩) 0) := by
  obtain ⟨dd, hu, hdd⟩ := Tryz.structV
  have DD := Lib.hid hdd
  have HU := Lib.hid hu
  clear hdd hu
  go_enter Tryz.func40, Tryz.ntmps40
  go_wp2_with (first
    | (go_at_call 64; refine (tBool_flat _ _).mono ?_; rintro e w1 ⟨rfl, hb⟩
       obtain ⟨x0, f0⟩ := one_boxV hb
       have HB := Lib.hid hb
       have c0 := x0 0
       have c1 := x0 1
       have c2 := x0 2
       have c3 := x0 3
       have c4 := x0 4
       have c5 := x0 5
       simp at c0 c1 c2 c3 c4 c5
       clear x0 hb))
  exact ret_cells_tmp w1 w.heap.size (six 1 false 0 ⟨#[]⟩).toList rfl Tryz.results40 rfl rfl DD.out HU.out Tryz.sizeV (cells6 c0 c1 c2 c3 c4 c5) ⟨rfl, setRow_below _ (Nat.le_refl _) _ _ _ (((Below.refl _ _).alloc (Nat.le_refl _) _).trans (HB.out.mono (by simp)))⟩

set_option maxHeartbeats 1000000 in
theorem cParse_str (s : ByteArray) (hs : s.size ≤ 140737488355328) (hn : namedB s.data.toList = false) (hu0 : numberL s.data.toList = false) (w : World) : Calls Tryz.prog 40 #[.string s] w (ParseTo w (six 3 false 0 s) 0) := by
  obtain ⟨h1, h2, h3, h4, h5, h6⟩ := named_false hn
  have HN := Lib.hid hu0
  clear hn hu0
  obtain ⟨dd, hu, hdd⟩ := Tryz.structV
  have DD := Lib.hid hdd
  have HU := Lib.hid hu
  clear hdd hu
  go_enter Tryz.func40, Tryz.ntmps40
  go_wp2_with (first
    | (go_at_call 65; refine (cnumber_any _ hs _).mono ?_; rintro e w3 ⟨he, hb3⟩; rw [HN.out] at he; subst he
       have HB3 := Lib.hid hb3
       clear hb3)
    | (go_at_call 42; refine (tStr_flat _ _).mono ?_; rintro e w1 ⟨rfl, hb⟩
       obtain ⟨x0, f0⟩ := one_boxV (HB3.out.trans (hb.mono HB3.out.size))
       have HB := Lib.hid (HB3.out.trans (hb.mono HB3.out.size))
       have c0 := x0 0
       have c1 := x0 1
       have c2 := x0 2
       have c3 := x0 3
       have c4 := x0 4
       have c5 := x0 5
       simp at c0 c1 c2 c3 c4 c5
       clear x0 hb))
  exact ret_cells_tmp w1 w.heap.size (six 3 false 0 s).toList rfl Tryz.results40 rfl rfl DD.out HU.out Tryz.sizeV (cells6 c0 c1 c2 c3 c4 c5) ⟨rfl, setRow_below _ (Nat.le_refl _) _ _ _ (((Below.refl _ _).alloc (Nat.le_refl _) _).trans (HB.out.mono (by simp)))⟩

theorem bytes_below (w : World) (e : TypeId) (t : ByteArray) : Below w.heap.size w (Lib.bytesWorld w e t) := by
  exact Lib.bytesWorld_below w e t

set_option maxHeartbeats 1000000 in
theorem cParse_int (s : ByteArray) (hs : s.size ≤ 140737488355328) (hn : namedB s.data.toList = false) (hu0 : numberL s.data.toList = true) (v : Int) (hv : Lib.parseIntB 64 s.data.toList = .ok v) (w : World) : Calls Tryz.prog 40 #[.string s] w (ParseTo w (six 2 false v ⟨#[]⟩) 0) := by
  obtain ⟨h1, h2, h3, h4, h5, h6⟩ := named_false hn
  have HN := Lib.hid hu0
  have HV := Lib.hid hv
  clear hn hu0 hv
  obtain ⟨dd, hu, hdd⟩ := Tryz.structV
  have DD := Lib.hid hdd
  have HU := Lib.hid hu
  clear hdd hu
  go_enter Tryz.func40, Tryz.ntmps40
  go_wp2_with (first
    | (go_at_call 65; refine (cnumber_any _ hs _).mono ?_; rintro e w3 ⟨he, hb3⟩; rw [HN.out] at he; subst he
       have HB3 := Lib.hid hb3
       clear hb3)
    | (go_at_call 66; refine (Tryz.strconv_ParseInt_10_at64_ok _ (by omega) v HV.out _).mono ?_; rintro e w4 ⟨rfl, hw4⟩
       have HB4 : Hid (Below w3.heap.size w3 w4) := by
         rcases hw4 with rfl | ⟨t, rfl⟩
         · exact Below.refl _ _
         · exact bytes_below _ _ _
       clear hw4)
    | (go_at_call 26; refine (tInt_flat _ _).mono ?_; rintro e w1 ⟨rfl, hb⟩
       have hb5 := (HB4.out.trans (hb.mono HB4.out.size))
       obtain ⟨x0, f0⟩ := one_boxV (HB3.out.trans (hb5.mono HB3.out.size))
       have HB := Lib.hid (HB3.out.trans (hb5.mono HB3.out.size))
       have c0 := x0 0
       have c1 := x0 1
       have c2 := x0 2
       have c3 := x0 3
       have c4 := x0 4
       have c5 := x0 5
       simp at c0 c1 c2 c3 c4 c5
       clear x0 hb hb5))
  exact ret_cells_tmp w1 w.heap.size (six 2 false v ⟨#[]⟩).toList rfl Tryz.results40 rfl rfl DD.out HU.out Tryz.sizeV (cells6 c0 c1 c2 c3 c4 c5) ⟨rfl, setRow_below _ (Nat.le_refl _) _ _ _ (((Below.refl _ _).alloc (Nat.le_refl _) _).trans (HB.out.mono (by simp)))⟩

end Go.Proofs.YtlniokpekcoodaaGreatDoor
