/-
  Package path's Parse.
-/
import Derived.Test.YtbbpipjadniafaaDoorWordB
import Derived.Test.YtbbpipjadniafaaDoorPathC
set_option linter.unusedVariables false
set_option linter.unusedSimpArgs false
namespace Go.Proofs.YtbbpipjadniafaaDoor
open Go.RowKit

/-- The steps of a path that is written, and what is wrong with it. -/
def parseD (l : List UInt8) : List (List UInt8) × Int := if 16 ≤ (cutD l).length then ([], 5) else if (cutD l).all wordL then (cutD l, 0) else ([], 10)
theorem dat_mk (s : ByteArray) : (⟨s.data.toList.toArray⟩ : ByteArray) = s := Lib.mk_data s
theorem dat_inj {xs : List ByteArray} {L : List (List UInt8)} (h : datS xs = L) : xs = L.map fun l => ⟨l.toArray⟩ := by
  subst h
  unfold datS
  rw [List.map_map]
  conv => lhs; rw [← List.map_id xs]
  exact List.map_congr_left fun s _ => (dat_mk s).symm
theorem split_cut (s : ByteArray) : datS (Lib.splitB ⟨#[46]⟩ 0 (Lib.countB s ⟨#[46]⟩) s) = cutD s.data.toList := by
  have h := Lib.splitB_data ⟨#[46]⟩ 0 (Lib.countB s ⟨#[46]⟩) s
  have hc : Lib.countB s ⟨#[46]⟩ = s.data.toList.count 46 := count_dot _ _ (Nat.le_refl _)
  have hl := cutD_len s.data.toList
  have h2 := split_dot (s.data.toList.count 46) s.data.toList (by omega)
  unfold datS
  rw [h, hc]
  exact h2
theorem words_dat (ks : List ByteArray) : wordsK ks = (datS ks).all wordL := by
  unfold wordsK datS
  rw [List.all_map]
  rfl
theorem cut_sizes (s : ByteArray) : ∀ l ∈ cutD s.data.toList, l.length ≤ s.size := by
  have h : ∀ (l x : List UInt8), x ∈ cutD l → x.length ≤ l.length := by
    intro l
    induction l with
    | nil => intro x hx; simp [cutD] at hx; subst hx; exact Nat.le_refl _
    | cons c r ih =>
      intro x hx
      unfold cutD at hx
      have hne := cutD_ne r
      by_cases hc : c = 46
      · rw [if_pos hc] at hx
        rcases List.mem_cons.1 hx with rfl | hx
        · simp
        · have := ih x hx; simp; omega
      · rw [if_neg hc] at hx
        cases e : cutD r with
        | nil => exact absurd e hne
        | cons a b =>
          rw [e] at hx ih
          rcases List.mem_cons.1 hx with rfl | hx
          · have := ih a List.mem_cons_self; simp; omega
          · have := ih x (List.mem_cons_of_mem _ hx); simp; omega
  intro l hl
  rw [Lib.size_eq]
  exact h _ l hl
/-- What a call of Parse has handed back. -/
def Parsed (w : World) (l : List UInt8) (e : Ending) (w' : World) : Prop :=
  ∃ (ks : List ByteArray) (a : Option Addr) (c : Nat), e = .returned (.tuple #[.slice a ks.length c, .int .i64 (parseD l).2]) ∧ SliceS w' ks a c ∧ datS ks = (parseD l).1 ∧ Below w.heap.size w w'
theorem no_texts (w : World) : SliceS w [] none 0 := ⟨by simp, by simp, fun _ => rfl, fun hp => absurd hp (by simp), by omega, fun i hi => absurd hi (by simp), fun i hi => absurd hi (by simp)⟩

set_option maxRecDepth 100000 in
set_option maxHeartbeats 1000000 in
theorem pParse_any (s : ByteArray) (hs : s.size ≤ 1000000) (m : Int) (w : World) (hm : w.cell? ⟨0, 0, none⟩ = some (.int .i64 m)) :
    Calls Tryd.prog 5 #[.string s] w (Parsed w s.data.toList) := by
  have HC := fun W : World => Tryd.strings_Count_one s 46 W
  have hl := cutD_len s.data.toList
  have HN : Hid (Lib.countByte s.data.toList 46 + 1 = (cutD s.data.toList).length) := by show s.data.toList.count 46 + 1 = _; omega
  obtain ⟨n, hn⟩ : ∃ n, n = Lib.countByte s.data.toList 46 := ⟨_, rfl⟩
  have HNn : Hid (n + 1 = (cutD s.data.toList).length) := by show _ = _; rw [hn]; exact HN.out
  rw [← hn] at HC
  clear hl hn HN
  by_cases h16 : 15 ≤ n
  · have HP : Hid (parseD s.data.toList = ([], 5)) := by show _ = _; unfold parseD; rw [if_pos (by have := HNn.out; omega)]
    have hn2 : n ≤ 1000000 := by
      have h1 := HNn.out
      have h2 := cutD_len s.data.toList
      have h3 := List.count_le_length (a := (46 : UInt8)) (l := s.data.toList)
      have h4 := Lib.size_eq s
      omega
    have hz : ((n : Int) + 1 ≥ 16) := by omega
    clear HNn
    go_enter Tryd.func5, Tryd.ntmps5
    go_wp2_with (go_at_call 17; refine (HC _).mono ?_; rintro e w1 ⟨rfl, rfl⟩)
    go_ret2
    exact ⟨[], none, 0, by rw [HP.out]; rfl, no_texts _, by rw [HP.out]; rfl, Below.refl _ _⟩
  · have hz : ¬ ((n : Int) + 1 ≥ 16) := by omega
    have hcl : (cutD s.data.toList).length ≤ 15 := by have := HNn.out; omega
    obtain ⟨xs, hxs⟩ : ∃ xs, xs = Lib.splitB ⟨#[46]⟩ 0 (Lib.countB s ⟨#[46]⟩) s := ⟨_, rfl⟩
    have hdat : datS xs = cutD s.data.toList := by rw [hxs]; exact split_cut s
    have hlen : xs.length = (cutD s.data.toList).length := by rw [← hdat]; unfold datS; rw [List.length_map]
    have hcnt : Lib.countB s ⟨#[46]⟩ + 1 = xs.length := by
      rw [hlen, cutD_len]
      have : Lib.countB s ⟨#[46]⟩ = s.data.toList.count 46 := count_dot _ _ (Nat.le_refl _)
      omega
    have HS := Tryd.strings_Split s ⟨#[46]⟩ m w (by omega) hm (by decide)
    rw [← hxs, hcnt] at HS
    have HSL : Hid (SliceS (w.alloc (.cells (xs.map Value.string).toArray 9)) xs (some ⟨w.heap.size, 0, none⟩) xs.length) := by
      refine ⟨Nat.le_refl _, by omega, by simp, fun _ => ⟨_, _, rfl⟩, by omega, fun i hi b off e => ?_, fun i hi => ?_⟩
      · simp only [Option.some.injEq, Addr.mk.injEq, and_true] at e
        obtain ⟨rfl, rfl⟩ := e
        rw [Nat.zero_add, World.cell?_alloc_new]
        simp [hi]
      · have h1 : xs[i].data.toList ∈ datS xs := List.mem_map.2 ⟨_, List.getElem_mem hi, rfl⟩
        rw [hdat] at h1
        have := cut_sizes s _ h1
        rw [← Lib.size_eq] at this
        omega
    have HW := Lib.hid (pwords_any HSL.out _ (Below.refl _ _))
    have HB := Lib.hid ((Below.refl w.heap.size w).alloc (Nat.le_refl _) (.cells (xs.map Value.string).toArray 9))
    have HP : Hid (parseD s.data.toList = if wordsK xs = true then (cutD s.data.toList, 0) else ([], 10)) := by
      show _ = _
      unfold parseD
      rw [if_neg (by omega), words_dat, hdat]
    have HD := Lib.hid hdat
    have HS := Lib.hid HS
    clear hdat hlen hcnt hxs hcl HNn
    generalize (w.alloc (.cells (xs.map Value.string).toArray 9)) = w1 at *
    cases hb : wordsK xs with
    | true =>
      rw [hb] at HW HP
      clear hb
      go_enter Tryd.func5, Tryd.ntmps5
      go_wp2_with (first
        | (go_at_call 17; refine (HC _).mono ?_; rintro e w9 ⟨rfl, rfl⟩)
        | (go_at_call 18; refine HS.out.mono ?_; rintro e w9 ⟨rfl, rfl⟩)
        | (go_at_call 19; refine HW.out.mono ?_; rintro e w2 ⟨rfl, hb2⟩))
      go_ret2
      exact ⟨xs, _, _, by rw [HP.out]; rfl, HSL.out.later hb2, by rw [HP.out]; exact HD.out, HB.out.trans (hb2.mono HB.out.size)⟩
    | false =>
      rw [hb] at HW HP
      clear hb
      go_enter Tryd.func5, Tryd.ntmps5
      go_wp2_with (first
        | (go_at_call 17; refine (HC _).mono ?_; rintro e w9 ⟨rfl, rfl⟩)
        | (go_at_call 18; refine HS.out.mono ?_; rintro e w9 ⟨rfl, rfl⟩)
        | (go_at_call 19; refine HW.out.mono ?_; rintro e w2 ⟨rfl, hb2⟩))
      go_ret2
      exact ⟨[], none, 0, by rw [HP.out]; rfl, no_texts _, by rw [HP.out]; rfl, HB.out.trans (hb2.mono HB.out.size)⟩
end Go.Proofs.YtbbpipjadniafaaDoor
