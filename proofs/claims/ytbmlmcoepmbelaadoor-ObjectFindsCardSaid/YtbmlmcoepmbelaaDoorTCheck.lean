/-
  Package tree's Check, and its parts.
-/
import Derived.Test.YtbmlmcoepmbelaaDoorParts
import Derived.Test.YtbmlmcoepmbelaaDoorTruth
import Derived.Test.YtbmlmcoepmbelaaDoorRight
import Derived.Test.YtbmlmcoepmbelaaDoorShelf
set_option linter.unusedVariables false
set_option linter.unusedSimpArgs false
namespace Go.Proofs.YtbmlmcoepmbelaaDoor
open Go.RowKit

/-! ### Key -/

theorem containsAny_two : ∀ l : List UInt8, Lib.containsAny l [9, 10] = l.any fun c => decide (c.toNat = 9) || decide (c.toNat = 10)
  | [] => rfl
  | b :: l => by
    have ih := containsAny_two l
    have hge := Lib.indexAny_ge [9, 10] l
    have hc : ([9, 10] : List UInt8).contains b = (decide (b.toNat = 9) || decide (b.toNat = 10)) := by
      have e9 : (b == 9) = decide (b.toNat = 9) := by
        rw [Bool.eq_iff_iff, beq_iff_eq, decide_eq_true_eq, ← UInt8.toNat_inj]
        rfl
      have e10 : (b == 10) = decide (b.toNat = 10) := by
        rw [Bool.eq_iff_iff, beq_iff_eq, decide_eq_true_eq, ← UInt8.toNat_inj]
        rfl
      simp only [List.contains_cons, List.contains_nil, e9, e10, Bool.or_false]
    rw [List.any_cons, ← ih, ← hc]
    unfold Lib.containsAny
    rw [Lib.indexAny]
    cases ([9, 10] : List UInt8).contains b with
    | true => simp
    | false =>
      simp only [Bool.false_eq_true, if_false, Bool.false_or]
      by_cases h : Lib.indexAny l [9, 10] = -1
      · simp [h]
      · rw [if_neg (by simpa using h)]
        exact decide_eq_decide.2 (by omega)

theorem key_bytes : ∀ l : List UInt8, (l.all fun c => !badByte c.toNat) = true → (l.all fun c => !badKey c.toNat) = !(l.any fun c => decide (c.toNat = 9) || decide (c.toNat = 10))
  | [], _ => rfl
  | b :: l, h => by
    simp only [List.all_cons, Bool.and_eq_true] at h
    have ih := key_bytes l h.2
    simp only [List.all_cons, List.any_cons, ih, Bool.not_or]
    have hb := h.1
    congr 1
    generalize b.toNat = c at hb ⊢
    unfold badByte at hb
    unfold badKey
    simp only [Bool.not_and, Bool.not_not, Bool.or_eq_true, Bool.not_eq_true', Bool.or_eq_false_iff, decide_eq_true_eq, decide_eq_false_iff_not] at hb
    rw [Bool.eq_iff_iff]
    simp only [Bool.not_eq_true', Bool.or_eq_false_iff, decide_eq_false_iff_not, Bool.and_eq_true]
    omega

theorem keyB_text {s : ByteArray} (h1 : 1 ≤ s.size) (h2 : s.size ≤ 256) (ht : textB s = true) : keyB s = !Lib.containsAny s.data.toList [9, 10] := by
  unfold textB at ht
  simp only [Bool.and_eq_true] at ht
  unfold keyB
  rw [decide_eq_true h1, decide_eq_true h2, Bool.and_self, Bool.true_and, key_bytes _ ht.2, containsAny_two]
theorem keyB_notext {s : ByteArray} (ht : textB s = false) : keyB s = false := by
  cases hk : keyB s with
  | false => rfl
  | true =>
    unfold keyB at hk
    simp only [Bool.and_eq_true, decide_eq_true_eq] at hk
    have : textB s = true := by
      unfold textB
      rw [decide_eq_true (by omega), Bool.true_and, List.all_eq_true]
      intro c hc
      have := List.all_eq_true.1 hk.2 c hc
      revert this
      unfold badKey badByte
      generalize c.toNat = n
      simp only [Bool.not_eq_true', Bool.or_eq_false_iff, decide_eq_false_iff_not, Bool.and_eq_false_iff, Bool.not_eq_false', decide_eq_true_eq]
      omega
    rw [this] at ht
    cases ht
theorem keyB_long {s : ByteArray} (h : 256 < s.size) : keyB s = false := by
  unfold keyB
  rw [decide_eq_false (show ¬ s.size ≤ 256 by omega), Bool.and_false, Bool.false_and]
theorem keyB_empty {s : ByteArray} (h : s.size = 0) : keyB s = false := by
  unfold keyB
  rw [decide_eq_false (show ¬ 1 ≤ s.size by omega), Bool.false_and, Bool.false_and]

theorem text_ascii {s : ByteArray} (ht : textB s = true) (j : Nat) (b : UInt8) (hb : s.data.toList[j]? = some b) : b.toNat < 128 := by
  unfold textB at ht
  simp only [Bool.and_eq_true] at ht
  have := List.all_eq_true.1 ht.2 b (List.mem_of_getElem? hb)
  revert this
  unfold badByte
  generalize b.toNat = n
  simp only [Bool.not_eq_true', Bool.or_eq_false_iff, decide_eq_false_iff_not, Bool.and_eq_false_iff, Bool.not_eq_false', decide_eq_true_eq]
  omega

theorem tKey_any (s : ByteArray) (hs : s.size ≤ 140737488355328) (w : World) :
    Calls Tryd.prog 94 #[.string s] w fun e w' => e = .returned (.bool (keyB s)) ∧ Below w.heap.size w w' := by
  have hl : s.toList.length = s.size := by rw [ByteArray.toList_eq]; simp
  by_cases h0 : s.size = 0
  · have e0 : s.toList.isEmpty = true := by rw [List.isEmpty_iff_length_eq_zero]; omega
    have HK := Lib.hid (keyB_empty h0)
    clear hl h0
    go_enter Tryd.func94, Tryd.ntmps94
    go_wp2_with fail
    go_ret
    exact ⟨ret_bool HK.out.symm, Below.refl _ _⟩
  have e0 : s.toList.isEmpty = false := by
    cases hh : s.toList.isEmpty with
    | false => rfl
    | true => rw [List.isEmpty_iff_length_eq_zero] at hh; omega
  by_cases h2 : 256 < s.size
  · have HK := Lib.hid (keyB_long h2)
    clear hl h0
    go_enter Tryd.func94, Tryd.ntmps94
    go_wp2_with fail
    go_ret
    exact ⟨ret_bool HK.out.symm, Below.refl _ _⟩
  have HT := Lib.hid (tText_any s hs)
  have HK1 := Lib.hid (keyB_text (s := s) (by omega) (by omega))
  have HK2 := Lib.hid (keyB_notext (s := s))
  have HA := Lib.hid (fun ht => text_ascii (s := s) ht)
  clear hl
  go_enter Tryd.func94, Tryd.ntmps94
  go_wp2_with fail
  refine (HT.out _).mono ?_
  rintro e w1 ⟨rfl, rfl⟩
  cases ht : textB s with
  | false =>
    have HK3 := Lib.hid (HK2.out ht)
    go_wp2_with fail
    go_ret
    exact ⟨ret_bool HK3.out.symm, Below.refl _ _⟩
  | true =>
    have HK3 := Lib.hid (HK1.out ht)
    have HA2 := Lib.hid (HA.out ht)
    clear ht
    have HC := Lib.hid (fun w => Tryd.strings_ContainsAny_laid s ⟨#[9, 10]⟩ w (by omega) (by decide) HA2.out (by
      intro j b hb
      have : b ∈ ([9, 10] : List UInt8) := List.mem_of_getElem? hb
      rcases List.mem_cons.1 this with rfl | h
      · decide
      · rcases List.mem_cons.1 h with rfl | h
        · decide
        · cases h))
    go_wp2_with fail
    refine (HC.out _).mono ?_
    rintro e w2 ⟨rfl, hb2⟩
    go_wp2_with fail
    go_ret
    exact ⟨ret_bool HK3.out.symm, hb2⟩

/-! ### pure -/

def partsL (b : Bool) (n : Int) (s : ByteArray) (ll ml : Nat) : List Bool := [false, b, nz n, ne0 s, pos ll, pos ml]
def partAt (b : Bool) (n : Int) (s : ByteArray) (ll ml : Nat) (j : Nat) : Bool := (partsL b n s ll ml).getD j false
/-- Something of another kind, among the first j. -/
def badTo (k : Int) (b : Bool) (n : Int) (s : ByteArray) (ll ml : Nat) : Nat → Bool
  | 0 => false
  | j + 1 => badTo k b n s ll ml j || (partAt b n s ll ml j && decide ((j : Int) ≠ k))
theorem badTo_mono (k : Int) (b : Bool) (n : Int) (s : ByteArray) (ll ml : Nat) (i : Nat) (h : badTo k b n s ll ml i = true) : ∀ d, badTo k b n s ll ml (i + d) = true
  | 0 => h
  | d + 1 => by
    rw [← Nat.add_assoc, badTo, badTo_mono k b n s ll ml i h d]; rfl
theorem kindBad_to (k : Int) (b : Bool) (n : Int) (s : ByteArray) (ll ml : Nat) (h0 : 0 ≤ k) (h5 : k ≤ 5) : kindBad k b n s.toList.isEmpty ll ml = badTo k b n s ll ml 6 := by
  have e0 : decide (k < 0) = false := decide_eq_false (by omega)
  have e5 : decide (5 < k) = false := decide_eq_false (by omega)
  have en : (n != 0) = !decide (n = 0) := by by_cases h : n = 0 <;> simp [h]
  unfold kindBad
  rw [e0, e5]
  simp only [badTo, partAt, partsL, List.getD_cons_zero, List.getD_cons_succ, nz, ne0, pos]
  rcases (by omega : k = 0 ∨ k = 1 ∨ k = 2 ∨ k = 3 ∨ k = 4 ∨ k = 5) with rfl | rfl | rfl | rfl | rfl | rfl <;> simp [en]
theorem kindBad_out (k : Int) (b : Bool) (n : Int) (e : Bool) (ll ml : Nat) (h : (decide (0 ≤ k) && decide (k ≤ 5)) = false) : kindBad k b n e ll ml = true := by
  unfold kindBad
  rw [Bool.and_eq_false_iff] at h
  rcases h with h | h
  · have : decide (k < 0) = true := by simpa using h
    simp [this]
  · have : decide (5 < k) = true := by simpa using h
    simp [this]

theorem Tryd.index_at (b : Bool) (n : Int) (s : ByteArray) (ll ml : Nat) (j : Nat) (hj : j < 6) (w : World) :
    (Instr.index 109 (.agg #[.bool false, .bool b, .bool (nz n), .bool (ne0 s), .bool (pos ll), .bool (pos ml)]) (.int .i64 (j : Int))).run Tryd.prog w = .ok (.bool (partAt b n s ll ml j)) w := by
  obtain ⟨i0, i1, i2, i3, i4, i5⟩ := Tryd.index_bools b n s ll ml w
  rcases (by omega : j = 0 ∨ j = 1 ∨ j = 2 ∨ j = 3 ∨ j = 4 ∨ j = 5) with rfl | rfl | rfl | rfl | rfl | rfl
  · exact i0
  · exact i1
  · exact i2
  · exact i3
  · exact i4
  · exact i5

set_option maxHeartbeats 800000 in
theorem pure_any (k : Int) (b : Bool) (n : Int) (s : ByteArray) (la : Option Addr) (ll lc : Nat) (ma : Option Addr) (ml mc : Nat) (w : World) :
    Calls Tryd.prog 70 #[.agg #[.int .i64 k, .bool b, .int .i64 n, .string s, .slice la ll lc, .slice ma ml mc]] w fun e w' => e = .returned (.bool (!kindBad k b n s.toList.isEmpty ll ml)) ∧ Below w.heap.size w w' := by
  have HB := Lib.hid ((Below.refl w.heap.size w).alloc (Nat.le_refl _) (.cells #[.int .i64 k, .bool b, .int .i64 n, .string s, .slice la ll lc, .slice ma ml mc] 25))
  go_enter Tryd.func70, Tryd.ntmps70
  go_wp2_with fail
  refine (isKind_any k _).mono ?_
  rintro e w1 ⟨rfl, rfl⟩
  cases hk : (decide (0 ≤ k) && decide (k ≤ 5)) with
  | false =>
    have HK := Lib.hid (kindBad_out k b n s.toList.isEmpty ll ml hk)
    clear hk
    go_wp2_with fail
    go_ret
    exact ⟨ret_bool (by rw [HK.out]; rfl), HB.out⟩
  | true =>
    have hk2 : 0 ≤ k ∧ k ≤ 5 := by simpa using hk
    have HK := Lib.hid (kindBad_to k b n s ll ml hk2.1 hk2.2)
    clear hk hk2
    go_wp2_with fail
    refine (tparts_any k b n s la ll lc ma ml mc _).mono ?_
    rintro e w2 ⟨rfl, hb2⟩
    have hA := bstep HB.out hb2 (by simp)
    have x0 : w2.cell? ⟨w.heap.size, 0, none⟩ = some (.int .i64 k) := box_cell hb2 (by simp) rfl
    have HI := Lib.hid (Tryd.index_at b n s ll ml)
    clear hb2
    go_wp2_with fail
    go_loopw [3, 4, 11] (fun _ _ vi wr => ∃ j : Nat, j ≤ 6 ∧ vi = .int .i64 j ∧ badTo k b n s ll ml j = false ∧ wr = w2) (fun _ _ vi _ => 6 - (intOf vi).toNat)
    case atStart => exact ⟨0, by omega, rfl, rfl, rfl⟩
    case round =>
      obtain ⟨j, hj, rfl, hbad, rfl⟩ := hrel
      have HBD := Lib.hid hbad
      clear hbad
      by_cases hjl : j < 6
      · have hix := HI.out j hjl
        cases hp : partAt b n s ll ml j with
        | false =>
          have HS : Hid (badTo k b n s ll ml (j + 1) = false) := by
            show _ = _
            rw [badTo, HBD.out, hp]; rfl
          rw [hp] at hix
          clear hp
          go_wp2_with fail
          go_roundw
          case rel => exact ⟨j + 1, by omega, by go_num, HS.out, trivial⟩
          case measure => simp [intOf]; omega
        | true =>
          rw [hp] at hix
          by_cases hjk : (j : Int) = k
          · have f1 : ((j : Int) != k) = false := by simp [hjk]
            have HS : Hid (badTo k b n s ll ml (j + 1) = false) := by
              show _ = _
              rw [badTo, HBD.out, hp, decide_eq_false (by simp [hjk])]; rfl
            clear hp hjk
            go_wp2_with fail
            go_roundw
            case rel => exact ⟨j + 1, by omega, by go_num, HS.out, trivial⟩
            case measure => simp [intOf]; omega
          · have f1 : ((j : Int) != k) = true := by simp [hjk]
            have HS : Hid (badTo k b n s ll ml 6 = true) := by
              show _ = _
              have : badTo k b n s ll ml (j + 1) = true := by rw [badTo, hp, decide_eq_true hjk]; simp
              have h2 := badTo_mono k b n s ll ml (j + 1) this (6 - (j + 1))
              rwa [show j + 1 + (6 - (j + 1)) = 6 by omega] at h2
            clear hp hjk
            go_wp2_with fail
            go_ret
            exact ⟨ret_bool (by rw [HK.out, HS.out]; rfl), hA⟩
      · obtain rfl : j = 6 := by omega
        go_wp2_with fail
        go_ret
        exact ⟨ret_bool (by rw [HK.out, HBD.out]; rfl), hA⟩

/-! ### deeper -/

/-- The place of the first so; -1: there is none. -/
def firstIx {α : Type} (p : α → Bool) (l : List α) : Int := match l.findIdx? p with | some i => (i : Int) | none => -1
theorem firstIx_none {α : Type} (p : α → Bool) (l : List α) (h : ∀ i (hi : i < l.length), p l[i] = false) : firstIx p l = -1 := by
  unfold firstIx
  rw [List.findIdx?_eq_none_iff.2 fun x hx => by obtain ⟨i, hi, rfl⟩ := List.getElem_of_mem hx; simpa using h i hi]
theorem firstIx_hit {α : Type} (p : α → Bool) (l : List α) (j : Nat) (hj : j < l.length) (h : ∀ i (hi : i < l.length), i < j → p l[i] = false) (he : p l[j] = true) : firstIx p l = j := by
  unfold firstIx
  have : l.findIdx? p = some j := by
    rw [List.findIdx?_eq_some_iff_getElem]
    exact ⟨hj, he, fun i hi => by simpa using h i (by omega) hi⟩
  rw [this]
theorem firstIx_any {α : Type} (p : α → Bool) (l : List α) : decide (0 ≤ firstIx p l) = l.any p := by
  unfold firstIx
  cases hx : l.findIdx? p with
  | none =>
    have := List.findIdx?_eq_none_iff.1 hx
    have e : l.any p = false := by rw [List.any_eq_false]; intro x hx; simpa using this x hx
    rw [e]; rfl
  | some i =>
    obtain ⟨h1, h2, _⟩ := List.findIdx?_eq_some_iff_getElem.1 hx
    have e : l.any p = true := List.any_eq_true.2 ⟨_, List.getElem_mem h1, h2⟩
    rw [e]
    simp

/-- Is a value deeper? -/
def T.deep (most : Nat) (t : T) : Bool := decide (most < t.depth)

theorem max_lt_map {α : Type} (f : α → Nat) (B : Nat) : ∀ l : List α, (B < (l.map f).foldr max 0) ↔ ∃ x ∈ l, B < f x
  | [] => by simp
  | x :: r => by
    simp only [List.map_cons, List.foldr_cons, List.mem_cons, exists_eq_or_imp]
    rw [← max_lt_map f B r]
    omega

theorem deep_zero (t : T) : T.deep 0 t = true := by
  obtain ⟨k, b, n, s, l, m⟩ := t
  unfold T.deep
  rw [T.depth_mk]
  exact decide_eq_true (by omega)
theorem deep_succ (k : Int) (b : Bool) (n : Int) (s : ByteArray) (l : List T) (m : List (ByteArray × T)) (j : Nat) : T.deep (j + 1) (.mk k b n s l m) = (l.any (T.deep j) || m.any fun p => T.deep j p.2) := by
  unfold T.deep
  rw [T.depth_mk, Bool.eq_iff_iff]
  simp only [decide_eq_true_eq, Bool.or_eq_true, List.any_eq_true]
  have h1 := max_lt_map T.depth j l
  have h2 := max_lt_map (fun p : ByteArray × T => p.2.depth) j m
  rw [← h1, ← h2]
  omega

set_option maxHeartbeats 400000 in
theorem indexDV_any {w0 : World} {R : Nat → Prop} {ts : List T} {a : Option Addr} {cap : Nat} {cl : Nat → Array Value} (h : SliceV w0 R ts a cap cl) (most kb : Nat)
    (hc : ∀ i (p : i < ts.length) (w : World), Below w0.heap.size w0 w → w.cell? ⟨kb, 0, none⟩ = some (.int .i64 ((most : Int) + 1)) → Calls Tryd.prog 67 #[.agg (cl i), .pointer (some ⟨kb, 0, none⟩)] w fun e w' => e = .returned (.bool (T.deep most ts[i])) ∧ Below w.heap.size w w')
    (w : World) (hw : Below w0.heap.size w0 w) (hk : w.cell? ⟨kb, 0, none⟩ = some (.int .i64 ((most : Int) + 1))) :
    Calls Tryd.prog 91 #[.slice a ts.length cap, .func (Fn.func 67) #[] #[.pointer (some ⟨kb, 0, none⟩)]] w fun e w' => e = .returned (.int .i64 (firstIx (T.deep most) ts)) ∧ Below w.heap.size w w' := by
  have hl := h.hdr
  have ll := hl.le
  have lx := hl.big
  have KN := Lib.hid (firstIx_none (T.deep most) ts)
  have KH := Lib.hid (firstIx_hit (T.deep most) ts)
  have HC := Lib.hid hc
  clear hc
  go_enter Tryd.func91, Tryd.ntmps91
  go_wp2_with fail
  go_loopw [5, 8] (fun _ vi wr => ∃ j : Nat, j ≤ ts.length ∧ vi = .int .i64 j ∧ Hid (∀ i (hi : i < ts.length), i < j → T.deep most ts[i] = false) ∧ Below w.heap.size w wr) (fun _ vi _ => ts.length - (intOf vi).toNat)
  case atStart => exact ⟨0, by omega, rfl, fun i _ hi => absurd hi (Nat.not_lt_zero _), Below.refl _ _⟩
  case round =>
    obtain ⟨j, hj, rfl, h0, hbw⟩ := hrel
    have hbw2 := bstep hw hbw hw.size
    have hk2 := cells_frame hbw hk
    by_cases hjl : j < ts.length
    · have KJ := Lib.hid (KH.out j hjl h0.out)
      have CJ := Lib.hid (HC.out j hjl)
      obtain ⟨bl, ol, c0, c1, c2, c3, c4, c4l, c4c, c5, c5l, c5c, rfl, hcl, r0, r1, r2, r3, r4, r5⟩ := openL hbw2 hl h.rows hjl (h.each j hjl)
      rw [hcl] at CJ
      clear hcl
      go_wp2_with fail
      refine (CJ.out _ hbw2 hk2).mono ?_
      rintro e w1 ⟨rfl, hb1⟩
      have hb2 := bstep hbw hb1 hbw.size
      cases hd : T.deep most ts[j] with
      | true =>
        have HR := Lib.hid (KJ.out hd)
        clear hd
        go_wp2_with fail
        go_ret
        exact ⟨ret_int HR.out.symm, hb2⟩
      | false =>
        have HR := Lib.hid hd
        clear hd
        go_wp2_with fail
        go_roundw
        case rel => exact ⟨j + 1, by omega, by go_num, fun i hi hij => by
          by_cases e : i = j
          · subst e; exact HR.out
          · exact h0.out i hi (by omega), hb2⟩
        case measure => simp [intOf]; omega
    · obtain rfl : j = ts.length := by omega
      have HR := Lib.hid (KN.out fun i hi => h0.out i hi hi)
      go_wp2_with fail
      go_ret
      exact ⟨ret_int HR.out.symm, hbw⟩

set_option maxHeartbeats 400000 in
theorem indexDP_any {w0 : World} {R : Nat → Prop} {ps : List (ByteArray × T)} {a : Option Addr} {cap : Nat} {cm : Nat → Array Value} (h : SliceP w0 R ps a cap cm) (most kb : Nat)
    (hc : ∀ i (p : i < ps.length) (w : World), Below w0.heap.size w0 w → w.cell? ⟨kb, 0, none⟩ = some (.int .i64 ((most : Int) + 1)) → Calls Tryd.prog 69 #[.agg (#[Value.string ps[i].1] ++ cm i), .pointer (some ⟨kb, 0, none⟩)] w fun e w' => e = .returned (.bool (T.deep most ps[i].2)) ∧ Below w.heap.size w w')
    (w : World) (hw : Below w0.heap.size w0 w) (hk : w.cell? ⟨kb, 0, none⟩ = some (.int .i64 ((most : Int) + 1))) :
    Calls Tryd.prog 56 #[.slice a ps.length cap, .func (Fn.func 69) #[] #[.pointer (some ⟨kb, 0, none⟩)]] w fun e w' => e = .returned (.int .i64 (firstIx (fun q => T.deep most q.2) ps)) ∧ Below w.heap.size w w' := by
  have hl := h.hdr
  have ll := hl.le
  have lx := hl.big
  have KN := Lib.hid (firstIx_none (fun q : ByteArray × T => T.deep most q.2) ps)
  have KH := Lib.hid (firstIx_hit (fun q : ByteArray × T => T.deep most q.2) ps)
  have HC := Lib.hid hc
  clear hc
  go_enter Tryd.func56, Tryd.ntmps56
  go_wp2_with fail
  go_loopw [8] (fun vi wr => ∃ j : Nat, j ≤ ps.length ∧ vi = .int .i64 j ∧ Hid (∀ i (hi : i < ps.length), i < j → T.deep most ps[i].2 = false) ∧ Below w.heap.size w wr) (fun vi _ => ps.length - (intOf vi).toNat)
  case atStart => exact ⟨0, by omega, rfl, fun i _ hi => absurd hi (Nat.not_lt_zero _), Below.refl _ _⟩
  case round =>
    obtain ⟨j, hj, rfl, h0, hbw⟩ := hrel
    have hbw2 := bstep hw hbw hw.size
    have hk2 := cells_frame hbw hk
    by_cases hjl : j < ps.length
    · have KJ := Lib.hid (KH.out j hjl h0.out)
      have CJ := Lib.hid (HC.out j hjl)
      obtain ⟨bl, ol, c0, c1, c2, c3, c4, c4l, c4c, c5, c5l, c5c, rfl, hcl, r0, r1, r2, r3, r4, r5, r6⟩ := openM hbw2 hl h.rows hjl (h.each j hjl)
      rw [hcl] at CJ
      clear hcl
      go_wp2_with fail
      refine (CJ.out _ hbw2 hk2).mono ?_
      rintro e w1 ⟨rfl, hb1⟩
      have hb2 := bstep hbw hb1 hbw.size
      cases hd : T.deep most ps[j].2 with
      | true =>
        have HR := Lib.hid (KJ.out hd)
        clear hd
        go_wp2_with fail
        go_ret
        exact ⟨ret_int HR.out.symm, hb2⟩
      | false =>
        have HR := Lib.hid hd
        clear hd
        go_wp2_with fail
        go_roundw
        case rel => exact ⟨j + 1, by omega, by go_num, fun i hi hij => by
          by_cases e : i = j
          · subst e; exact HR.out
          · exact h0.out i hi (by omega), hb2⟩
        case measure => simp [intOf]; omega
    · obtain rfl : j = ps.length := by omega
      have HR := Lib.hid (KN.out fun i hi => h0.out i hi hi)
      go_wp2_with fail
      go_ret
      exact ⟨ret_int HR.out.symm, hbw⟩


theorem containsDV_any {w0 : World} {R : Nat → Prop} {ts : List T} {a : Option Addr} {cap : Nat} {cl : Nat → Array Value} (h : SliceV w0 R ts a cap cl) (most kb : Nat)
    (hc : ∀ i (p : i < ts.length) (w : World), Below w0.heap.size w0 w → w.cell? ⟨kb, 0, none⟩ = some (.int .i64 ((most : Int) + 1)) → Calls Tryd.prog 67 #[.agg (cl i), .pointer (some ⟨kb, 0, none⟩)] w fun e w' => e = .returned (.bool (T.deep most ts[i])) ∧ Below w.heap.size w w')
    (w : World) (hw : Below w0.heap.size w0 w) (hk : w.cell? ⟨kb, 0, none⟩ = some (.int .i64 ((most : Int) + 1))) :
    Calls Tryd.prog 66 #[.slice a ts.length cap, .func (Fn.func 67) #[] #[.pointer (some ⟨kb, 0, none⟩)]] w fun e w' => e = .returned (.bool (ts.any (T.deep most))) ∧ Below w.heap.size w w' := by
  have HI := Lib.hid (indexDV_any h most kb hc w hw hk)
  have HF := firstIx_any (T.deep most) ts
  generalize firstIx (T.deep most) ts = x at HI HF
  clear hc
  rw [← HF]
  clear HF
  go_enter Tryd.func66, Tryd.ntmps66
  go_wp2_with fail
  refine HI.out.mono ?_
  rintro e w1 ⟨rfl, hb1⟩
  go_wp2_with fail
  go_ret
  exact ⟨rfl, hb1⟩
theorem containsDP_any {w0 : World} {R : Nat → Prop} {ps : List (ByteArray × T)} {a : Option Addr} {cap : Nat} {cm : Nat → Array Value} (h : SliceP w0 R ps a cap cm) (most kb : Nat)
    (hc : ∀ i (p : i < ps.length) (w : World), Below w0.heap.size w0 w → w.cell? ⟨kb, 0, none⟩ = some (.int .i64 ((most : Int) + 1)) → Calls Tryd.prog 69 #[.agg (#[Value.string ps[i].1] ++ cm i), .pointer (some ⟨kb, 0, none⟩)] w fun e w' => e = .returned (.bool (T.deep most ps[i].2)) ∧ Below w.heap.size w w')
    (w : World) (hw : Below w0.heap.size w0 w) (hk : w.cell? ⟨kb, 0, none⟩ = some (.int .i64 ((most : Int) + 1))) :
    Calls Tryd.prog 68 #[.slice a ps.length cap, .func (Fn.func 69) #[] #[.pointer (some ⟨kb, 0, none⟩)]] w fun e w' => e = .returned (.bool (ps.any fun p => T.deep most p.2)) ∧ Below w.heap.size w w' := by
  have HI := Lib.hid (indexDP_any h most kb hc w hw hk)
  have HF := firstIx_any (fun q : ByteArray × T => T.deep most q.2) ps
  generalize firstIx (fun q : ByteArray × T => T.deep most q.2) ps = x at HI HF
  clear hc
  rw [← HF]
  clear HF
  go_enter Tryd.func68, Tryd.ntmps68
  go_wp2_with fail
  refine HI.out.mono ?_
  rintro e w1 ⟨rfl, hb1⟩
  go_wp2_with fail
  go_ret
  exact ⟨rfl, hb1⟩

set_option maxHeartbeats 800000 in
theorem deeper_any {w0 : World} {R : Nat → Prop} {t : T} {cs : Array Value} (h : Lies w0 R t cs) : ∀ (most : Nat) (w : World), most ≤ 1000 → Below w0.heap.size w0 w →
    Calls Tryd.prog 45 #[.agg cs, .int .i64 (most : Int)] w fun e w' => e = .returned (.bool (T.deep most t)) ∧ Below w.heap.size w w' := by
  induction h with
  | mk k b n s l m la lc ma mc cl cm hk hn hs hl hm rl rm ks il im ihl ihm =>
    intro most w hmost hw
    have HB := Lib.hid (((Below.refl w.heap.size w).alloc (Nat.le_refl _) (.cells #[.int .i64 k, .bool b, .int .i64 n, .string s, .slice la l.length lc, .slice ma m.length mc] 25)).alloc (by simp) (.cells #[.int .i64 (most : Int)] 3))
    cases most with
    | zero =>
      have HZ := Lib.hid (deep_zero (.mk k b n s l m))
      clear ihl ihm rl rm ks il im
      go_enter Tryd.func45, Tryd.ntmps45
      go_wp2_with fail
      go_ret
      exact ⟨ret_bool HZ.out.symm, HB.out⟩
    | succ most =>
      clear HB
      have HB := Lib.hid (((Below.refl w.heap.size w).alloc (Nat.le_refl _) (.cells #[.int .i64 k, .bool b, .int .i64 n, .string s, .slice la l.length lc, .slice ma m.length mc] 25)).alloc (by simp) (.cells #[.int .i64 ((most : Int) + 1)] 3))
      have HS : Hid (SliceV w0 R l la lc cl) := ⟨hl, rl, il⟩
      have HP : Hid (SliceP w0 R m ma mc cm) := ⟨hm, rm, ks, im⟩
      have HD := Lib.hid (deep_succ k b n s l m most)
      have hwrap : IntKind.i64.wrap ((most : Int) + 1 - 1) = (most : Int) := by rw [show (most : Int) + 1 - 1 = (most : Int) by omega]; exact IntWalk.i64_in _ (by omega)
      have C1 : Hid (∀ kb i (p : i < l.length) (w : World), Below w0.heap.size w0 w → w.cell? ⟨kb, 0, none⟩ = some (.int .i64 ((most : Int) + 1)) → Calls Tryd.prog 67 #[.agg (cl i), .pointer (some ⟨kb, 0, none⟩)] w fun e w' => e = .returned (.bool (T.deep most l[i])) ∧ Below w.heap.size w w') := by
        intro kb i p w hw hk
        have hlt := World.block_lt_of_cell? _ _ hk
        have hne : kb ≠ w.heap.size := by simp at hlt; omega
        have IH := Lib.hid (ihl i p most)
        obtain ⟨c0, c1, c2, c3, c4, c4l, c4c, c5, c5l, c5c, hci⟩ := (il i p).six
        rw [hci] at IH ⊢
        have hk2 := cells_frame (bbox (Below.refl w.heap.size w) (.cells #[.int .i64 c0, .bool c1, .int .i64 c2, .string c3, .slice c4 c4l c4c, .slice c5 c5l c5c] 25) (Nat.le_refl _)) hk
        clear hci ihl ihm rl rm ks il im
        go_enter Tryd.func67, Tryd.ntmps67
        go_wp2_with fail
        refine (IH.out _ (by omega) (bbox hw _ hw.size)).mono ?_
        rintro e w1 ⟨rfl, hb1⟩
        go_wp2_with fail
        go_ret
        exact ⟨rfl, bunbox hb1 (Nat.le_refl _) (by simp)⟩
      have C2 : Hid (∀ kb i (p : i < m.length) (w : World), Below w0.heap.size w0 w → w.cell? ⟨kb, 0, none⟩ = some (.int .i64 ((most : Int) + 1)) → Calls Tryd.prog 69 #[.agg (#[Value.string m[i].1] ++ cm i), .pointer (some ⟨kb, 0, none⟩)] w fun e w' => e = .returned (.bool (T.deep most m[i].2)) ∧ Below w.heap.size w w') := by
        intro kb i p w hw hk
        have hlt := World.block_lt_of_cell? _ _ hk
        have hne : kb ≠ w.heap.size := by simp at hlt; omega
        have IH := Lib.hid (ihm i p most)
        obtain ⟨c0, c1, c2, c3, c4, c4l, c4c, c5, c5l, c5c, hci⟩ := (im i p).six
        rw [hci] at IH ⊢
        have hk2 := cells_frame (bbox (Below.refl w.heap.size w) (.cells #[.string m[i].1, .int .i64 c0, .bool c1, .int .i64 c2, .string c3, .slice c4 c4l c4c, .slice c5 c5l c5c] 54) (Nat.le_refl _)) hk
        clear hci ihl ihm rl rm ks il im
        go_enter Tryd.func69, Tryd.ntmps69
        go_wp2_with fail
        refine (IH.out _ (by omega) (bbox hw _ hw.size)).mono ?_
        rintro e w1 ⟨rfl, hb1⟩
        go_wp2_with fail
        go_ret
        exact ⟨rfl, bunbox hb1 (Nat.le_refl _) (by simp)⟩
      have hw2 := bstep hw HB.out hw.size
      have CV := Lib.hid (containsDV_any HS.out most (w.heap.size + 1) (fun i p w hw hk => C1.out _ i p w hw hk) _ hw2 (by
        rw [show w.heap.size + 1 = (w.alloc (.cells #[.int .i64 k, .bool b, .int .i64 n, .string s, .slice la l.length lc, .slice ma m.length mc] 25)).heap.size by simp, World.cell?_alloc_new]
        rfl))
      have CP := Lib.hid (fun wx hwx hkx => containsDP_any HP.out most (w.heap.size + 1) (fun i p w hw hk => C2.out _ i p w hw hk) wx hwx hkx)
      clear ihl ihm rl rm ks il im C1 C2
      rw [HD.out]
      go_enter Tryd.func45, Tryd.ntmps45
      go_wp2_with fail
      refine CV.out.mono ?_
      rintro e w1 ⟨rfl, hb1⟩
      have hA := bstep HB.out hb1 (by simp; omega)
      have k1 : w1.cell? ⟨w.heap.size + 1, 0, none⟩ = some (.int .i64 ((most : Int) + 1)) := by
        rw [hb1.cell (p := ⟨w.heap.size + 1, 0, none⟩) (by simp), show w.heap.size + 1 = (w.alloc (.cells #[.int .i64 k, .bool b, .int .i64 n, .string s, .slice la l.length lc, .slice ma m.length mc] 25)).heap.size by simp, World.cell?_alloc_new]
        rfl
      have k2 : w1.cell? ⟨w.heap.size, 5, none⟩ = some (.slice ma m.length mc) := by
        rw [hb1.cell (p := ⟨w.heap.size, 5, none⟩) (by simp; omega), World.cell?_alloc_lt _ _ _ (by simp), World.cell?_alloc_new]
        rfl
      cases hv : l.any (T.deep most) with
      | true =>
        go_wp2_with fail
        go_ret
        exact ⟨ret_bool (by rw [hv]; rfl), hA⟩
      | false =>
        go_wp2_with fail
        refine (CP.out _ (bstep hw hA hw.size) k1).mono ?_
        rintro e w2 ⟨rfl, hb2⟩
        go_wp2_with fail
        go_ret
        exact ⟨ret_bool (by rw [hv]; rfl), bstep hA hb2 hA.size⟩

/-! ### wrong -/

theorem one_boxC {w w1 : World} {cs : Array Value} {ty : TypeId} (h : Below (w.alloc (.cells cs ty)).heap.size (w.alloc (.cells cs ty)) w1) :
    (∀ j, w1.cell? ⟨w.heap.size, j, none⟩ = cs[j]?) ∧ (∀ j, w1.frozen? ⟨w.heap.size, j, none⟩ = false) :=
  ⟨fun j => by rw [h.cell (p := ⟨w.heap.size, j, none⟩) (by simp), World.cell?_alloc_new], fun j => by rw [h.frozen (p := ⟨w.heap.size, j, none⟩) (by simp), World.frozen?_alloc_new]⟩

def wcode (ahead key : ByteArray) (x : Int) : Int := if keyB key = false then 7 else if leS key ahead = true then 13 else x
def aheadOf (m : List (ByteArray × T)) : Nat → ByteArray
  | 0 => ⟨#[]⟩
  | j + 1 => ((m[j]?).map (·.1)).getD ⟨#[]⟩
theorem leS_empty {key : ByteArray} (h : keyB key = true) : leS key ⟨#[]⟩ = false := by
  have h1 : 1 ≤ key.size := by
    unfold keyB at h
    simp only [Bool.and_eq_true, decide_eq_true_eq] at h
    exact h.1.1
  have hl : key.toList.length = key.size := by rw [ByteArray.toList_eq]; simp
  have e0 : (⟨#[]⟩ : ByteArray).toList = [] := by rw [ByteArray.toList_eq]
  unfold leS
  rw [e0]
  cases hk : key.toList with
  | nil => rw [hk] at hl; simp at hl; omega
  | cons x r => rfl
theorem pcode_w (m : List (ByteArray × T)) (j : Nat) (h : j < m.length) : pcode m j = wcode (aheadOf m j) m[j].1 m[j].2.parts := by
  unfold wcode
  cases hk : keyB m[j].1 with
  | false => rw [pcode_key m j h hk, if_pos rfl]
  | true =>
    rw [if_neg (by simp)]
    cases j with
    | zero =>
      rw [pcode_in m 0 h hk (fun h0 => absurd h0 (Nat.not_lt_zero _)), if_neg]
      rw [aheadOf, leS_empty hk]
      simp
    | succ j =>
      have e : aheadOf m (j + 1) = (m[j]'(by omega)).1 := by rw [aheadOf, List.getElem?_eq_getElem (by omega : j < m.length)]; rfl
      rw [e]
      cases hl : leS m[j + 1].1 (m[j]'(by omega)).1 with
      | true => rw [pcode_twice m (j + 1) h hk (by omega) hl, if_pos rfl]
      | false => rw [pcode_in m (j + 1) h hk (fun _ => hl), if_neg (by simp)]

set_option maxHeartbeats 400000 in
theorem wrongPair_any {w0 : World} {R : Nat → Prop} {t : T} {cs : Array Value} (h : Lies w0 R t cs) (hc : ∀ w : World, Below w0.heap.size w0 w → Calls Tryd.prog 47 #[.agg cs] w fun e w' => e = .returned (.int .i64 t.parts) ∧ Below w.heap.size w w')
    (ahead key : ByteArray) (hk : key.size ≤ 140737488355328) (w : World) (hw : Below w0.heap.size w0 w) :
    Calls Tryd.prog 72 #[.string ahead, .agg (#[Value.string key] ++ cs)] w fun e w' => e = .returned (.int .i64 (wcode ahead key t.parts)) ∧ Below w.heap.size w w' := by
  obtain ⟨k, b, n, s, la, ll, lc, ma, ml, mc, rfl⟩ := h.six
  have HC := Lib.hid hc
  have HK := Lib.hid (tKey_any key hk)
  clear hc
  have HB := Lib.hid ((Below.refl w.heap.size w).alloc (Nat.le_refl _) (.cells #[.string key, .int .i64 k, .bool b, .int .i64 n, .string s, .slice la ll lc, .slice ma ml mc] 54))
  go_enter Tryd.func72, Tryd.ntmps72
  go_wp2_with fail
  refine (HK.out _).mono ?_
  rintro e w1 ⟨rfl, hb1⟩
  obtain ⟨z1, _⟩ := one_boxC hb1
  have hA := bstep HB.out hb1 (by simp)
  cases hkb : keyB key with
  | false =>
    have HR : Hid (wcode ahead key t.parts = 7) := by
      show _ = _
      rw [wcode, if_pos hkb]
    clear hkb z1
    go_wp2_with fail
    go_ret
    exact ⟨ret_int HR.out.symm, hA⟩
  | true =>
    have x0 : w1.cell? ⟨w.heap.size, 0, none⟩ = some (.string key) := z1 0
    have x1 : w1.cell? ⟨w.heap.size, 1, none⟩ = some (.int .i64 k) := z1 1
    have x2 : w1.cell? ⟨w.heap.size, 2, none⟩ = some (.bool b) := z1 2
    have x3 : w1.cell? ⟨w.heap.size, 3, none⟩ = some (.int .i64 n) := z1 3
    have x4 : w1.cell? ⟨w.heap.size, 4, none⟩ = some (.string s) := z1 4
    have x5 : w1.cell? ⟨w.heap.size, 5, none⟩ = some (.slice la ll lc) := z1 5
    have x6 : w1.cell? ⟨w.heap.size, 6, none⟩ = some (.slice ma ml mc) := z1 6
    have HW : Hid (wcode ahead key t.parts = if leS key ahead = true then 13 else t.parts) := by
      show _ = _
      rw [wcode, if_neg (by simp [hkb])]
    clear hkb z1
    rcases les_cases key ahead with ⟨hle, y1⟩ | ⟨hle, y1, y2⟩ | ⟨hle, y1, y2⟩
    · have HR := Lib.hid (HW.out.trans (if_pos hle))
      clear hle
      go_wp2_with fail
      go_ret
      exact ⟨ret_int HR.out.symm, hA⟩
    · have HR := Lib.hid (HW.out.trans (if_pos hle))
      clear hle
      go_wp2_with fail
      go_ret
      exact ⟨ret_int HR.out.symm, hA⟩
    · have HR := Lib.hid (HW.out.trans (if_neg (by rw [hle]; simp)))
      clear hle
      go_wp2_with fail
      refine (HC.out _ (bstep hw hA hw.size)).mono ?_
      rintro e w2 ⟨rfl, hb2⟩
      go_wp2_with fail
      go_ret
      exact ⟨ret_int HR.out.symm, bstep hA hb2 hA.size⟩

set_option maxRecDepth 100000 in
set_option maxHeartbeats 4000000 in
theorem wrong_any {w0 : World} {R : Nat → Prop} {t : T} {cs : Array Value} (h : Lies w0 R t cs) : ∀ w : World, Below w0.heap.size w0 w →
    Calls Tryd.prog 47 #[.agg cs] w fun e w' => e = .returned (.int .i64 t.parts) ∧ Below w.heap.size w w' := by
  induction h with
  | mk k b n s l m la lc ma mc cl cm hk hn hs hl hm rl rm ks il im ihl ihm =>
    intro w hw
    have ll := hl.le
    have lx := hl.big
    have ml := hm.le
    have mx := hm.big
    have HL := Lib.hid ihl
    have HM := Lib.hid (fun j (hj : j < m.length) ahead w hw => wrongPair_any (im j hj) (fun w hw => ihm j hj w hw) ahead m[j].1 (ks j hj) w hw)
    have RL := Lib.hid rl
    have RM := Lib.hid rm
    have IL := Lib.hid il
    have IM := Lib.hid im
    clear ihl ihm rl rm ks il im
    have S8 := Lib.hid (@parts_kind k b n s l m)
    have S10 := Lib.hid (@parts_text k b n s l m)
    have SL := Lib.hid (@parts_list k b n s l m)
    have SM := Lib.hid (@parts_map k b n s l m)
    have S0 := Lib.hid (@parts_ok k b n s l m)
    have PW := Lib.hid (pcode_w m)
    have HB := Lib.hid ((Below.refl w.heap.size w).alloc (Nat.le_refl _) (.cells #[.int .i64 k, .bool b, .int .i64 n, .string s, .slice la l.length lc, .slice ma m.length mc] 25))
    go_enter Tryd.func47, Tryd.ntmps47
    go_wp2_with fail
    refine (pure_any k b n s la l.length lc ma m.length mc _).mono ?_
    rintro e w1 ⟨rfl, hb1⟩
    have hA1 := Lib.hid (bstep HB.out hb1 (by simp))
    have hsz1 : w.heap.size + 1 ≤ w1.heap.size := by have := hb1.size; simpa using this
    have B1 : Hid (∀ j, w1.cell? ⟨w.heap.size, j, none⟩ = (#[.int .i64 k, .bool b, .int .i64 n, .string s, .slice la l.length lc, .slice ma m.length mc] : Array Value)[j]?) := (one_boxC hb1).1
    clear hb1
    cases hkb : kindBad k b n s.toList.isEmpty l.length m.length with
    | true =>
      have K8 := Lib.hid hkb
      clear hkb
      go_wp2_with fail
      go_ret
      exact ⟨ret_int (S8.out K8.out).symm, hA1.out⟩
    | false =>
      have K8 := Lib.hid hkb
      have b3 : w1.cell? ⟨w.heap.size, 3, none⟩ = some (.string s) := B1.out 3
      have b4 : w1.cell? ⟨w.heap.size, 4, none⟩ = some (.slice la l.length lc) := B1.out 4
      clear hkb
      go_wp2_with fail
      refine (tText_any s hs _).mono ?_
      rintro e w2 ⟨rfl, rfl⟩
      cases htx : textB s with
      | false =>
        have K10 := Lib.hid htx
        clear htx
        go_wp2_with fail
        go_ret
        exact ⟨ret_int (S10.out K8.out K10.out).symm, hA1.out⟩
      | true =>
        have K10 := Lib.hid htx
        clear htx
        go_wp2_with fail
        go_loopw [4, 5, 20] (fun _ _ vi wr => ∃ j : Nat, j ≤ l.length ∧ vi = .int .i64 j ∧ Hid (∀ i (hi : i < l.length), i < j → l[i].parts = 0) ∧ Below w1.heap.size w1 wr) (fun _ _ vi _ => l.length - (intOf vi).toNat)
        case atStart => exact ⟨0, by omega, rfl, fun i _ hi => absurd hi (Nat.not_lt_zero _), Below.refl _ _⟩
        case round =>
          obtain ⟨j, hj, rfl, h0, hbw⟩ := hrel
          have hA := bstep hA1.out hbw hA1.out.size
          have hbw2 := bstep hw hA hw.size
          by_cases hjl : j < l.length
          · have hi := HL.out j hjl
            have sl := SL.out K8.out K10.out j hjl h0.out
            obtain ⟨bl, ol, c0, c1, c2, c3, c4, c4l, c4c, c5, c5l, c5c, rfl, hc, r0, r1, r2, r3, r4, r5⟩ := openL hbw2 hl RL.out hjl (IL.out j hjl)
            rw [hc] at hi
            have HI := Lib.hid hi
            have SLJ := Lib.hid sl
            clear hc hi sl
            by_cases hz : l[j].parts = 0
            · have HZ := Lib.hid hz
              have HZ2 : (l[j].parts != 0) = false := by rw [hz]; rfl
              clear hz
              go_wp2_with fail
              refine (HI.out _ (bbox hbw2 _ hbw2.size)).mono ?_
              rintro e w3 ⟨rfl, hb3⟩
              have hb4 := bstep hbw (bunbox hb3 (Nat.le_refl _) (by simp)) hbw.size
              go_wp2_with fail
              go_roundw
              case rel => exact ⟨j + 1, by omega, by go_num, fun i hi hij => by
                by_cases e : i = j
                · subst e; exact HZ.out
                · exact h0.out i hi (by omega), hb4⟩
              case measure => simp [intOf]; omega
            · have HZ2 := ne_form hz
              have HZ := Lib.hid (SLJ.out hz)
              clear hz
              go_wp2_with fail
              refine (HI.out _ (bbox hbw2 _ hbw2.size)).mono ?_
              rintro e w3 ⟨rfl, hb3⟩
              have hb4 := bstep hA (bunbox hb3 (Nat.le_refl _) (by simp)) hA.size
              go_wp2_with fail
              go_ret
              exact ⟨ret_int HZ.out.symm, hb4⟩
          · obtain rfl : j = l.length := by omega
            have b5 : wr.cell? ⟨w.heap.size, 5, none⟩ = some (.slice ma m.length mc) := cells_frame hbw (B1.out 5)
            have H0 : Hid (∀ i (hi : i < l.length), l[i].parts = 0) := fun i hi => h0.out i hi hi
            clear h0 b3 b4
            go_wp2_with fail
            obtain ⟨wo, rfl⟩ : ∃ wo : World, wo = wr := ⟨_, rfl⟩
            have HA := Lib.hid hA
            clear hA
            go_loopw [6, 8, 9, 33] (fun va _ _ vi wr => ∃ j : Nat, j ≤ m.length ∧ vi = .int .i64 j ∧ va = .string (aheadOf m j) ∧ Hid (∀ i, i < j → pcode m i = 0) ∧ Below wo.heap.size wo wr) (fun _ _ _ vi _ => m.length - (intOf vi).toNat)
            case atStart => exact ⟨0, by omega, rfl, rfl, fun i hi => absurd hi (Nat.not_lt_zero _), Below.refl _ _⟩
            case round =>
              obtain ⟨j, hj, rfl, rfl, hp, hbx⟩ := hrel
              have hbx2 := bstep hbw2 hbx hbw2.size
              have hend := bstep HA.out hbx HA.out.size
              by_cases hjm : j < m.length
              · have hi := HM.out j hjm (aheadOf m j)
                have sm := SM.out K8.out K10.out H0.out j hjm hp.out
                have pw := PW.out j hjm
                have ea : aheadOf m (j + 1) = m[j].1 := by rw [aheadOf, List.getElem?_eq_getElem hjm]; rfl
                obtain ⟨bl, ol, c0, c1, c2, c3, c4, c4l, c4c, c5, c5l, c5c, rfl, hc, r0, r1, r2, r3, r4, r5, r6⟩ := openM hbx2 hm RM.out hjm (IM.out j hjm)
                rw [hc] at hi
                rw [← pw] at hi
                have HI := Lib.hid hi
                have SMJ := Lib.hid sm
                have EA := Lib.hid ea
                clear hc hi sm pw ea
                by_cases hz : pcode m j = 0
                · have HZ := Lib.hid hz
                  have HZ2 : (pcode m j != 0) = false := by rw [hz]; rfl
                  clear hz
                  go_wp2_with fail
                  refine (HI.out _ (bbox hbx2 _ hbx2.size)).mono ?_
                  rintro e w3 ⟨rfl, hb3⟩
                  have x0 : w3.cell? ⟨wr.heap.size, 0, none⟩ = some (.string m[j].1) := (one_boxC hb3).1 0
                  have hb4 := bstep hbx (bunbox hb3 (Nat.le_refl _) (by simp)) hbx.size
                  go_wp2_with fail
                  go_roundw
                  case rel => exact ⟨j + 1, by omega, by go_num, by rw [EA.out], fun i hij => by
                    by_cases e : i = j
                    · subst e; exact HZ.out
                    · exact hp.out i (by omega), hb4⟩
                  case measure => simp [intOf]; omega
                · have HZ2 := ne_form hz
                  have HZ := Lib.hid (SMJ.out hz)
                  clear hz
                  go_wp2_with fail
                  refine (HI.out _ (bbox hbx2 _ hbx2.size)).mono ?_
                  rintro e w3 ⟨rfl, hb3⟩
                  have hb4 := bstep hend (bunbox hb3 (Nat.le_refl _) (by simp)) hend.size
                  go_wp2_with fail
                  go_ret
                  exact ⟨ret_int HZ.out.symm, hb4⟩
              · obtain rfl : j = m.length := by omega
                have HZ := Lib.hid (S0.out K8.out K10.out H0.out hp.out)
                go_wp2_with fail
                go_ret
                exact ⟨ret_int HZ.out.symm, hend⟩

theorem deep16 (t : T) : T.deep 16 t = decide (16 < t.depth) := rfl
set_option maxHeartbeats 400000 in
theorem tCheck_any {w0 : World} {R : Nat → Prop} {t : T} {cs : Array Value} (h : Lies w0 R t cs) (w : World) (hw : Below w0.heap.size w0 w) (hz : t.size ≤ 4611686018427387904) :
    Calls Tryd.prog 24 #[.agg cs] w fun e w' => e = .returned (.int .i64 t.check) ∧ Below w.heap.size w w' := by
  have HD := Lib.hid (fun w hw => deeper_any h 16 w (by decide) hw)
  have HS := Lib.hid (fun w hw => tSize_any h w hw hz)
  have HW := Lib.hid (wrong_any h)
  obtain ⟨k, b, n, s, la, ll, lc, ma, ml, mc, rfl⟩ := h.six
  have HB := Lib.hid ((Below.refl w.heap.size w).alloc (Nat.le_refl _) (.cells #[.int .i64 k, .bool b, .int .i64 n, .string s, .slice la ll lc, .slice ma ml mc] 25))
  have HT : Hid (t.check = if 16 < t.depth then 5 else if 4096 < t.size then 6 else t.parts) := rfl
  go_enter Tryd.func24, Tryd.ntmps24
  go_wp2_with fail
  refine (HD.out _ (bstep hw HB.out hw.size)).mono ?_
  rintro e w1 ⟨rfl, hb1⟩
  have hA1 := bstep HB.out hb1 (by simp)
  obtain ⟨z1, _⟩ := one_boxC hb1
  have Z1 := Lib.hid z1
  have hsz1 := hb1.size
  clear z1
  by_cases h16 : 16 < t.depth
  · have HR := Lib.hid (HT.out.trans (if_pos h16))
    rw [deep16, decide_eq_true h16]
    clear h16
    go_wp2_with fail
    go_ret
    exact ⟨ret_int HR.out.symm, hA1⟩
  · have HR := Lib.hid (HT.out.trans (if_neg h16))
    rw [deep16, decide_eq_false h16]
    clear h16
    have x0 : w1.cell? ⟨w.heap.size, 0, none⟩ = some (.int .i64 k) := Z1.out 0
    have x1 : w1.cell? ⟨w.heap.size, 1, none⟩ = some (.bool b) := Z1.out 1
    have x2 : w1.cell? ⟨w.heap.size, 2, none⟩ = some (.int .i64 n) := Z1.out 2
    have x3 : w1.cell? ⟨w.heap.size, 3, none⟩ = some (.string s) := Z1.out 3
    have x4 : w1.cell? ⟨w.heap.size, 4, none⟩ = some (.slice la ll lc) := Z1.out 4
    have x5 : w1.cell? ⟨w.heap.size, 5, none⟩ = some (.slice ma ml mc) := Z1.out 5
    go_wp2_with fail
    refine (HS.out _ (bstep hw hA1 hw.size)).mono ?_
    rintro e w2 ⟨rfl, hb2⟩
    have hA2 := bstep hA1 hb2 hA1.size
    have y0 := cells_frame hb2 x0
    have y1 := cells_frame hb2 x1
    have y2 := cells_frame hb2 x2
    have y3 := cells_frame hb2 x3
    have y4 := cells_frame hb2 x4
    have y5 := cells_frame hb2 x5
    clear x0 x1 x2 x3 x4 x5
    by_cases h4 : 4096 < t.size
    · have HR2 := Lib.hid (HR.out.trans (if_pos h4))
      have f1 : decide ((4096 : Int) < ((t.size : Nat) : Int)) = true := by simp; omega
      clear h4
      go_wp2_with fail
      go_ret
      exact ⟨ret_int HR2.out.symm, hA2⟩
    · have HR2 := Lib.hid (HR.out.trans (if_neg h4))
      have f1 : decide ((4096 : Int) < ((t.size : Nat) : Int)) = false := by simp; omega
      clear h4
      go_wp2_with fail
      refine (HW.out _ (bstep hw hA2 hw.size)).mono ?_
      rintro e w3 ⟨rfl, hb3⟩
      go_wp2_with fail
      go_ret
      exact ⟨ret_int HR2.out.symm, bstep hA2 hb3 hA2.size⟩

end Go.Proofs.YtbmlmcoepmbelaaDoor
