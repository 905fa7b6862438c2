/-
  Package path's words, Print; the library's search over texts by package path's word.
-/
import Derived.Test.YtlniokpekcoodaaGreatDoorWordW
import Derived.Test.YtlniokpekcoodaaGreatDoorOpenM
import Derived.Test.YtlniokpekcoodaaGreatDoorPathCM
set_option linter.unusedVariables false
set_option linter.unusedSimpArgs false
namespace Go.Proofs.YtlniokpekcoodaaGreatDoor
open Go.RowKit

/-- The texts' bytes. -/
def datS (ks : List ByteArray) : List (List UInt8) := ks.map fun s => s.data.toList
/-- Are they all words? -/
def wordsK (ks : List ByteArray) : Bool := ks.all fun s => wordL s.data.toList
theorem words_upto {ks : List ByteArray} (h : ∀ i (hi : i < ks.length), wordL ks[i].data.toList = true) : wordsK ks = true := by
  unfold wordsK
  rw [List.all_eq_true]
  intro s hs
  obtain ⟨i, hi, rfl⟩ := List.getElem_of_mem hs
  exact h i hi
theorem words_not {ks : List ByteArray} (i : Nat) (hi : i < ks.length) (h : wordL ks[i].data.toList = false) : wordsK ks = false := by
  cases e : wordsK ks with
  | false => rfl
  | true =>
    unfold wordsK at e
    rw [List.all_eq_true] at e
    rw [e _ (List.getElem_mem hi)] at h
    cases h

set_option maxHeartbeats 1000000 in
theorem pwords1_any (s : ByteArray) (hs : s.size ≤ 140737488355328) (w : World) : Calls Tryz.prog 80 #[.string s] w fun e w' => e = .returned (.bool (!wordL s.data.toList)) ∧ Below w.heap.size w w' := by
  have HC := Lib.hid (pword_any s hs)
  go_enter Tryz.func80, Tryz.ntmps80
  go_wp2_with (go_at_call 81; refine (HC.out _).mono ?_; rintro e w1 ⟨rfl, hb1⟩)
  go_ret
  exact ⟨rfl, hb1⟩

set_option maxRecDepth 100000 in
set_option maxHeartbeats 2000000 in
theorem sIndexS_any {w0 : World} {ks : List ByteArray} {a : Option Addr} {c : Nat} (h : SliceS w0 ks a c) (w : World) (hw : Below w0.heap.size w0 w) :
    Calls Tryz.prog 105 #[.slice a ks.length c, .func (.func 80) #[] #[]] w fun e w' => (∃ r : Int, e = .returned (.int .i64 r) ∧ decide (0 ≤ r) = !wordsK ks) ∧ Below w.heap.size w w' := by
  have H := Lib.hid h
  have hl := h.le
  have hbig := h.big
  clear h
  go_enter Tryz.func105, Tryz.ntmps105
  go_wp2_with fail
  go_loopw [5, 8] (fun _ vi wr => ∃ j : Nat, j ≤ ks.length ∧ vi = .int .i64 j ∧ Hid (∀ i (hi : i < ks.length), i < j → wordL ks[i].data.toList = true) ∧ Hid (Below w.heap.size w wr)) (fun _ vi _ => ks.length - (intOf vi).toNat)
  case atStart => exact ⟨0, Nat.zero_le _, rfl, fun i hi h => absurd h (by omega), Below.refl _ _⟩
  case round =>
    obtain ⟨j, hj, rfl, HG, HB⟩ := hrel
    by_cases hjl : j < ks.length
    · obtain ⟨b, o, rfl⟩ := H.out.ofSome (by omega)
      have r0 := cells_frame (bstep hw HB.out hw.size) (H.out.cell j hjl b o rfl)
      have hs := H.out.sizes j hjl
      have HC := Lib.hid (pwords1_any ks[j] hs)
      cases hb : wordL ks[j].data.toList with
      | true =>
        have HV := Lib.hid hb
        clear hb
        go_wp2_with (go_at_call 80; refine (HC.out _).mono ?_; rintro e w1 ⟨he, hb1⟩; rw [HV.out] at he; subst he)
        have HG2 : Hid (∀ i (hi : i < ks.length), i < j + 1 → wordL ks[i].data.toList = true) := fun i hi h => by
          by_cases e : i = j
          · subst e; exact HV.out
          · exact HG.out i hi (by omega)
        have HB2 := Lib.hid (HB.out.trans (hb1.mono HB.out.size))
        clear hb1
        go_roundw
        case rel => exact ⟨j + 1, by omega, by go_num, HG2.out, HB2.out⟩
        case measure => simp [intOf]; omega
      | false =>
        have HV := Lib.hid hb
        clear hb
        go_wp2_with (go_at_call 80; refine (HC.out _).mono ?_; rintro e w1 ⟨he, hb1⟩; rw [HV.out] at he; subst he)
        have HB2 := Lib.hid (HB.out.trans (hb1.mono HB.out.size))
        clear hb1
        go_ret
        exact ⟨⟨j, rfl, by rw [words_not j hjl HV.out, decide_eq_true (by omega)]; rfl⟩, HB2.out⟩
    · have HA : Hid (wordsK ks = true) := words_upto fun i hi => HG.out i hi (by omega)
      go_wp2_with fail
      go_ret
      exact ⟨⟨-1, rfl, by rw [HA.out]; rfl⟩, HB.out⟩

set_option maxRecDepth 100000 in
set_option maxHeartbeats 1000000 in
theorem sContainsS_any {w0 : World} {ks : List ByteArray} {a : Option Addr} {c : Nat} (h : SliceS w0 ks a c) (w : World) (hw : Below w0.heap.size w0 w) :
    Calls Tryz.prog 79 #[.slice a ks.length c, .func (.func 80) #[] #[]] w fun e w' => e = .returned (.bool (!wordsK ks)) ∧ Below w.heap.size w w' := by
  have HC := Lib.hid (sIndexS_any h w hw)
  go_enter Tryz.func79, Tryz.ntmps79
  go_wp2_with (go_at_call 105; refine HC.out.mono ?_; rintro e w1 ⟨⟨r, rfl, hr⟩, hb1⟩)
  go_ret
  exact ⟨ret_bool (by rw [← hr]), hb1⟩

set_option maxRecDepth 100000 in
set_option maxHeartbeats 1000000 in
theorem pwords_any {w0 : World} {ks : List ByteArray} {a : Option Addr} {c : Nat} (h : SliceS w0 ks a c) (w : World) (hw : Below w0.heap.size w0 w) :
    Calls Tryz.prog 56 #[.slice a ks.length c] w fun e w' => e = .returned (.bool (wordsK ks)) ∧ Below w.heap.size w w' := by
  have HC := Lib.hid (sContainsS_any h w hw)
  obtain ⟨b, hb⟩ : ∃ b, b = wordsK ks := ⟨_, rfl⟩
  rw [← hb] at HC ⊢
  clear hb
  go_enter Tryz.func56, Tryz.ntmps56
  go_wp2_with (go_at_call 79; refine HC.out.mono ?_; rintro e w1 ⟨rfl, hb1⟩)
  go_ret
  exact ⟨ret_bool (by simp), hb1⟩

/-- A path, written. -/
def printS (ks : List ByteArray) : ByteArray := if wordsK ks = true then ⟨(joinD (datS ks)).toArray⟩ else ⟨#[]⟩

end Go.Proofs.YtlniokpekcoodaaGreatDoor

/-
  Package path's Parse.
-/
set_option linter.unusedVariables false
set_option linter.unusedSimpArgs false
namespace Go.Proofs.YtlniokpekcoodaaGreatDoor
open Go.RowKit

/-- The steps of a path that is written, and what is wrong with it. -/
def parseD (l : List UInt8) : List (List UInt8) × Int := if 16 ≤ (cutD l).length then ([], 5) else if (cutD l).all wordL then (cutD l, 0) else ([], 10)
theorem dat_mk (s : ByteArray) : (⟨s.data.toList.toArray⟩ : ByteArray) = s := Lib.mk_data s
theorem dat_inj {xs : List ByteArray} {L : List (List UInt8)} (h : datS xs = L) : xs = L.map fun l => ⟨l.toArray⟩ := by
  subst h
  unfold datS
  rw [List.map_map]
  conv => lhs; rw [← List.map_id xs]
  exact List.map_congr_left fun s _ => (dat_mk s).symm
theorem split_cut (s : ByteArray) : datS (Lib.splitB ⟨#[46]⟩ 0 (Lib.countB s ⟨#[46]⟩) s) = cutD s.data.toList := by
  have h := Lib.splitB_data ⟨#[46]⟩ 0 (Lib.countB s ⟨#[46]⟩) s
  have hc : Lib.countB s ⟨#[46]⟩ = s.data.toList.count 46 := count_dot _ _ (Nat.le_refl _)
  have hl := cutD_len s.data.toList
  have h2 := split_dot (s.data.toList.count 46) s.data.toList (by omega)
  unfold datS
  rw [h, hc]
  exact h2
theorem words_dat (ks : List ByteArray) : wordsK ks = (datS ks).all wordL := by
  unfold wordsK datS
  rw [List.all_map]
  rfl
theorem cut_sizes (s : ByteArray) : ∀ l ∈ cutD s.data.toList, l.length ≤ s.size := by
  have h : ∀ (l x : List UInt8), x ∈ cutD l → x.length ≤ l.length := by
    intro l
    induction l with
    | nil => intro x hx; simp [cutD] at hx; subst hx; exact Nat.le_refl _
    | cons c r ih =>
      intro x hx
      unfold cutD at hx
      have hne := cutD_ne r
      by_cases hc : c = 46
      · rw [if_pos hc] at hx
        rcases List.mem_cons.1 hx with rfl | hx
        · simp
        · have := ih x hx; simp; omega
      · rw [if_neg hc] at hx
        cases e : cutD r with
        | nil => exact absurd e hne
        | cons a b =>
          rw [e] at hx ih
          rcases List.mem_cons.1 hx with rfl | hx
          · have := ih a List.mem_cons_self; simp; omega
          · have := ih x (List.mem_cons_of_mem _ hx); simp; omega
  intro l hl
  rw [Lib.size_eq]
  exact h _ l hl
/-- What a call of Parse has handed back. -/
def Parsed (w : World) (l : List UInt8) (e : Ending) (w' : World) : Prop :=
  ∃ (ks : List ByteArray) (a : Option Addr) (c : Nat), e = .returned (.tuple #[.slice a ks.length c, .int .i64 (parseD l).2]) ∧ SliceS w' ks a c ∧ datS ks = (parseD l).1 ∧ Below w.heap.size w w'
theorem no_texts (w : World) : SliceS w [] none 0 := ⟨by simp, by simp, fun _ => rfl, fun hp => absurd hp (by simp), by omega, fun i hi => absurd hi (by simp), fun i hi => absurd hi (by simp)⟩

set_option maxRecDepth 100000 in
set_option maxHeartbeats 1000000 in
theorem pParse_any (s : ByteArray) (hs : s.size ≤ 1000000) (m : Int) (w : World) (hm : w.cell? ⟨0, 0, none⟩ = some (.int .i64 m)) :
    Calls Tryz.prog 29 #[.string s] w (Parsed w s.data.toList) := by
  have HC := fun W : World => Tryz.strings_Count_one s 46 W
  have hl := cutD_len s.data.toList
  have HN : Hid (Lib.countByte s.data.toList 46 + 1 = (cutD s.data.toList).length) := by show s.data.toList.count 46 + 1 = _; omega
  obtain ⟨n, hn⟩ : ∃ n, n = Lib.countByte s.data.toList 46 := ⟨_, rfl⟩
  have HNn : Hid (n + 1 = (cutD s.data.toList).length) := by show _ = _; rw [hn]; exact HN.out
  rw [← hn] at HC
  clear hl hn HN
  by_cases h16 : 15 ≤ n
  · have HP : Hid (parseD s.data.toList = ([], 5)) := by show _ = _; unfold parseD; rw [if_pos (by have := HNn.out; omega)]
    have hn2 : n ≤ 1000000 := by
      have h1 := HNn.out
      have h2 := cutD_len s.data.toList
      have h3 := List.count_le_length (a := (46 : UInt8)) (l := s.data.toList)
      have h4 := Lib.size_eq s
      omega
    have hz : ((n : Int) + 1 ≥ 16) := by omega
    clear HNn
    go_enter Tryz.func29, Tryz.ntmps29
    go_wp2_with (go_at_call 54; refine (HC _).mono ?_; rintro e w1 ⟨rfl, rfl⟩)
    go_ret2
    exact ⟨[], none, 0, by rw [HP.out]; rfl, no_texts _, by rw [HP.out]; rfl, Below.refl _ _⟩
  · have hz : ¬ ((n : Int) + 1 ≥ 16) := by omega
    have hcl : (cutD s.data.toList).length ≤ 15 := by have := HNn.out; omega
    obtain ⟨xs, hxs⟩ : ∃ xs, xs = Lib.splitB ⟨#[46]⟩ 0 (Lib.countB s ⟨#[46]⟩) s := ⟨_, rfl⟩
    have hdat : datS xs = cutD s.data.toList := by rw [hxs]; exact split_cut s
    have hlen : xs.length = (cutD s.data.toList).length := by rw [← hdat]; unfold datS; rw [List.length_map]
    have hcnt : Lib.countB s ⟨#[46]⟩ + 1 = xs.length := by
      rw [hlen, cutD_len]
      have : Lib.countB s ⟨#[46]⟩ = s.data.toList.count 46 := count_dot _ _ (Nat.le_refl _)
      omega
    have HS := Tryz.strings_Split s ⟨#[46]⟩ m w (by omega) hm (by decide)
    rw [← hxs, hcnt] at HS
    have HSL : Hid (SliceS (w.alloc (.cells (xs.map Value.string).toArray 9)) xs (some ⟨w.heap.size, 0, none⟩) xs.length) := by
      refine ⟨Nat.le_refl _, by omega, by simp, fun _ => ⟨_, _, rfl⟩, by omega, fun i hi b off e => ?_, fun i hi => ?_⟩
      · simp only [Option.some.injEq, Addr.mk.injEq, and_true] at e
        obtain ⟨rfl, rfl⟩ := e
        rw [Nat.zero_add, World.cell?_alloc_new]
        simp [hi]
      · have h1 : xs[i].data.toList ∈ datS xs := List.mem_map.2 ⟨_, List.getElem_mem hi, rfl⟩
        rw [hdat] at h1
        have := cut_sizes s _ h1
        rw [← Lib.size_eq] at this
        omega
    have HW := Lib.hid (pwords_any HSL.out _ (Below.refl _ _))
    have HB := Lib.hid ((Below.refl w.heap.size w).alloc (Nat.le_refl _) (.cells (xs.map Value.string).toArray 9))
    have HP : Hid (parseD s.data.toList = if wordsK xs = true then (cutD s.data.toList, 0) else ([], 10)) := by
      show _ = _
      unfold parseD
      rw [if_neg (by omega), words_dat, hdat]
    have HD := Lib.hid hdat
    have HS := Lib.hid HS
    clear hdat hlen hcnt hxs hcl HNn
    generalize (w.alloc (.cells (xs.map Value.string).toArray 9)) = w1 at *
    cases hb : wordsK xs with
    | true =>
      rw [hb] at HW HP
      clear hb
      go_enter Tryz.func29, Tryz.ntmps29
      go_wp2_with (first
        | (go_at_call 54; refine (HC _).mono ?_; rintro e w9 ⟨rfl, rfl⟩)
        | (go_at_call 55; refine HS.out.mono ?_; rintro e w9 ⟨rfl, rfl⟩)
        | (go_at_call 56; refine HW.out.mono ?_; rintro e w2 ⟨rfl, hb2⟩))
      go_ret2
      exact ⟨xs, _, _, by rw [HP.out]; rfl, HSL.out.later hb2, by rw [HP.out]; exact HD.out, HB.out.trans (hb2.mono HB.out.size)⟩
    | false =>
      rw [hb] at HW HP
      clear hb
      go_enter Tryz.func29, Tryz.ntmps29
      go_wp2_with (first
        | (go_at_call 54; refine (HC _).mono ?_; rintro e w9 ⟨rfl, rfl⟩)
        | (go_at_call 55; refine HS.out.mono ?_; rintro e w9 ⟨rfl, rfl⟩)
        | (go_at_call 56; refine HW.out.mono ?_; rintro e w2 ⟨rfl, hb2⟩))
      go_ret2
      exact ⟨[], none, 0, by rw [HP.out]; rfl, no_texts _, by rw [HP.out]; rfl, HB.out.trans (hb2.mono HB.out.size)⟩
end Go.Proofs.YtlniokpekcoodaaGreatDoor

/-
  How great a value is that another one was put into, at a path.
-/
set_option linter.unusedVariables false
set_option linter.unusedSimpArgs false
namespace Go.Proofs.YtlniokpekcoodaaGreatDoor
open Go.RowKit Go.Sort

theorem putR_sum (key : ByteArray) (y : T) : ∀ m : List (ByteArray × T), ((putR key y m).map fun p => p.2.size).sum ≤ (m.map fun p => p.2.size).sum + y.size
  | [] => by simp [putR]
  | p :: r => by
    rcases putR_cases p key with ⟨h, hn⟩ | h | ⟨h, hn⟩
    · rw [putR_lt h]
      have := putR_sum key y r
      simp only [List.map_cons, List.sum_cons]
      omega
    · rw [putR_eq h]
      simp only [List.map_cons, List.sum_cons]
      omega
    · rw [putR_gt h hn]
      simp only [List.map_cons, List.sum_cons]
      omega
theorem pairs_sum (t : T) : (t.pairs.map fun p => p.2.size).sum + 1 ≤ t.size := by
  obtain ⟨k, b, n, s, l, m⟩ := t
  rw [T.pairs, T.size_mk]
  split
  · omega
  · simp; omega
theorem put_size (t : T) (k : ByteArray) (y : T) : (t.put k y).size ≤ t.size + y.size := by
  rw [T.put, T.size_mk]
  have h1 := putR_sum k y t.pairs
  have h2 := pairs_sum t
  simp only [List.map_nil, List.sum_nil]
  omega
theorem putL_size : ∀ (l : List ByteArray) (t x : T), (putL l t x).size ≤ l.length * t.size + x.size
  | [], t, x => by simp [putL]
  | k :: r, t, x => by
    rw [putL]
    have h1 := put_size t k (putL r (inL k t) x)
    have h2 := putL_size r (inL k t) x
    have h3 := in_size k t
    have h4 : r.length * (inL k t).size ≤ r.length * t.size := Nat.mul_le_mul_left _ h3
    rw [List.length_cons, Nat.add_mul]
    omega

end Go.Proofs.YtlniokpekcoodaaGreatDoor
