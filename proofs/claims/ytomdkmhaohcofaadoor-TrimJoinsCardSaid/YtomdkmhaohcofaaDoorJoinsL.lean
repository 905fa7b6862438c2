/-
  TrimJoins: the law's contract.
-/
import Derived.Test.YtomdkmhaohcofaaDoorJoinsP
import Derived.Test.YtomdkmhaohcofaaDoorDoorTexts
set_option linter.unusedVariables false
set_option linter.unusedSimpArgs false
namespace Go.Proofs.YtomdkmhaohcofaaDoor
open Go.RowKit

theorem text_cell {w wr : World} {ks : List ByteArray} {b off c : Nat} (h : SliceS w ks (some ⟨b, off, none⟩) c) (hb : Below w.heap.size w wr) (k : Nat) (hk : k < ks.length) : wr.cell? ⟨b, off + k, none⟩ = some (.string ks[k]) := by
  have h1 := h.cell k hk b off rfl
  exact (hb.cell (p := ⟨b, off + k, none⟩) (World.block_lt_of_cell? _ _ h1)).trans h1

theorem flatT_get : ∀ (ts : List Tok) (k : Nat) (h : k < ts.length) (f : Nat), f < 3 → (flatT ts)[k * 3 + f]? = (tokC ts[k]).toList[f]?
  | [], k, h, f, hf => by cases h
  | t :: ts, 0, h, f, hf => by
    show ((tokC t).toList ++ flatT ts)[0 * 3 + f]? = _
    rw [List.getElem?_append_left (by simp [tokC]; omega)]
    simp
  | t :: ts, k + 1, h, f, hf => by
    show ((tokC t).toList ++ flatT ts)[(k + 1) * 3 + f]? = _
    have e : (tokC t).toList.length = 3 := rfl
    rw [List.getElem?_append_right (by omega), e, show (k + 1) * 3 + f - 3 = k * 3 + f by omega, flatT_get ts k (by simpa using h) f hf]
    rfl
theorem own_at {base : Nat} {w : World} {al : Option Addr} {c : Nat} {ts : List Tok} (h : OwnT base w (.slice al ts.length c) ts) (k : Nat) (hk : k < ts.length) : ∃ g, al = some ⟨g, 0, none⟩ ∧ g < w.heap.size ∧ ∀ f u, f < 3 → (tokC ts[k]).toList[f]? = some u → w.cell? ⟨g, k * 3 + f, none⟩ = some u := by
  cases ts with
  | nil => cases hk
  | cons t ts =>
    obtain ⟨g, c', e, _, hl, hc⟩ := own_cells h
    injection e with e1 e2 e3
    exact ⟨g, e1, hl, fun f u hf hu => hc _ _ ((flatT_get _ k hk f hf).trans hu)⟩

theorem pass_stepB {S t a : ByteArray} {want : List Tok} (hS : Pass S.data.toList want) (ht : No2 t.data.toList 123 123) (he : Lib.hasSuffix t.data.toList [123] = false) (ha : ∀ b ∈ a.data.toList, goodB b = true) :
    Pass (S ++ t ++ (⟨#[123, 123]⟩ ++ a ++ ⟨#[125, 125]⟩) : ByteArray).data.toList ((want ++ oneT ⟨false, t.data.toList, S.size⟩) ++ [⟨true, a.data.toList, (S ++ t).size⟩]) := by
  have h := pass_step hS ht he ha
  have e1 : (S ++ t ++ (⟨#[123, 123]⟩ ++ a ++ ⟨#[125, 125]⟩) : ByteArray).data.toList = S.data.toList ++ (t.data.toList ++ (123 :: 123 :: (a.data.toList ++ [125, 125]))) := by simp [ByteArray.data_append]
  rw [e1, ByteArray.size_append, Lib.size_eq S, Lib.size_eq t]
  exact h
theorem pass_textB {S t : ByteArray} {want : List Tok} (hS : Pass S.data.toList want) (ht : No2 t.data.toList 123 123) : splitT (S ++ t).data.toList 0 false = some (want ++ oneT ⟨false, t.data.toList, S.size⟩) := by
  have e1 : (S ++ t).data.toList = S.data.toList ++ t.data.toList := by simp [ByteArray.data_append]
  rw [e1, pass_text hS ht, Lib.size_eq]

theorem byte_bad (c : UInt8) : (decide ((c.toNat : Int) ≤ 32) = true) ∨ (decide ((c.toNat : Int) ≤ 32) = false ∧ ((c.toNat : Int) == 123) = true) ∨ (decide ((c.toNat : Int) ≤ 32) = false ∧ ((c.toNat : Int) == 123) = false ∧ ((c.toNat : Int) == 125) = true)
    ∨ (decide ((c.toNat : Int) ≤ 32) = false ∧ ((c.toNat : Int) == 123) = false ∧ ((c.toNat : Int) == 125) = false ∧ ((c.toNat : Int) == 34) = true) ∨ (decide ((c.toNat : Int) ≤ 32) = false ∧ ((c.toNat : Int) == 123) = false ∧ ((c.toNat : Int) == 125) = false ∧ ((c.toNat : Int) == 34) = false ∧ ((c.toNat : Int) == 45) = true)
    ∨ (decide ((c.toNat : Int) ≤ 32) = false ∧ ((c.toNat : Int) == 123) = false ∧ ((c.toNat : Int) == 125) = false ∧ ((c.toNat : Int) == 34) = false ∧ ((c.toNat : Int) == 45) = false ∧ ((c.toNat : Int) == 47) = true)
    ∨ (decide ((c.toNat : Int) ≤ 32) = false ∧ ((c.toNat : Int) == 123) = false ∧ ((c.toNat : Int) == 125) = false ∧ ((c.toNat : Int) == 34) = false ∧ ((c.toNat : Int) == 45) = false ∧ ((c.toNat : Int) == 47) = false ∧ goodB c = true) := by
  have hg : goodB c = true ↔ (32 < c.toNat ∧ c.toNat ≠ 123 ∧ c.toNat ≠ 125 ∧ c.toNat ≠ 34 ∧ c.toNat ≠ 45 ∧ c.toNat ≠ 47) := by
    have k : ∀ d : UInt8, (c == d) = false ↔ c.toNat ≠ d.toNat := fun d => by
      rw [beq_eq_false_iff_ne]
      exact ⟨fun h e => h (UInt8.toNat_inj.1 e), fun h e => h (by rw [e])⟩
    unfold goodB
    simp only [Bool.and_eq_true, decide_eq_true_eq, Bool.not_eq_true', k]
    constructor
    · rintro ⟨⟨⟨⟨⟨a1, a2⟩, a3⟩, a4⟩, a5⟩, a6⟩; exact ⟨a1, a2, a3, a4, a5, a6⟩
    · rintro ⟨a1, a2, a3, a4, a5, a6⟩; exact ⟨⟨⟨⟨⟨a1, a2⟩, a3⟩, a4⟩, a5⟩, a6⟩
  rw [hg]
  simp only [beq_iff_eq, beq_eq_false_iff_ne, ne_eq, decide_eq_true_eq, decide_eq_false_iff_not]
  omega

/-- The head of the loop that lays the template. -/
def JHead (w : World) (ks bs : List ByteArray) (vs vw vi : Value) (wr : World) : Prop :=
  ∃ (k : Nat) (S : ByteArray) (want : List Tok), k ≤ ks.length ∧ k ≤ bs.length ∧ vi = .int .i64 k ∧ vs = .string S ∧ S.size ≤ k * 304 ∧ want.length ≤ 2 * k ∧ OwnT w.heap.size wr vw want ∧ Below w.heap.size w wr ∧ Hid (Pass S.data.toList want)

set_option maxRecDepth 100000 in
set_option maxHeartbeats 4000000 in
theorem trimJoins_any {w : World} (ks bs : List ByteArray) (ak aa : Option Addr) (ck ca : Nat) (hks : SliceS w ks ak ck) (has : SliceS w bs aa ca) (m : Int) (hm : w.cell? ⟨0, 0, none⟩ = some (.int .i64 m)) (h0 : 0 < w.heap.size) :
    Calls Tryd.prog 5 #[.slice ak ks.length ck, .slice aa bs.length ca] w fun e w' => e = .returned (.bool true) ∧ Below w.heap.size w w' := by
  have HM := Lib.hid hm
  clear hm
  have HKS := Lib.hid hks
  have HAS := Lib.hid has
  have hkbig : ks.length * 16 ≤ 140737488355328 := hks.big
  have habig : bs.length * 16 ≤ 140737488355328 := has.big
  clear hks has
  obtain ⟨i0, hi, hz0, hz1, hz2⟩ := info_tok
  have HI0 := Lib.hid hi
  have HZ0 := Lib.hid hz0
  have HZ1 := Lib.hid hz1
  have HZ2 := Lib.hid hz2
  clear hi hz0 hz1 hz2
  by_cases hk20 : ks.length ≤ 20
  · by_cases ha20 : bs.length ≤ 20
    · go_enter Tryd.func5, Tryd.ntmps5
      go_wp2_with fail
      go_loopw [5, 6, 27] (fun vs vw vi wr => JHead w ks bs vs vw vi wr) (fun _ _ vi _ => ks.length - (intOf vi).toNat)
      case atStart => exact ⟨0, ⟨#[]⟩, [], Nat.zero_le _, Nat.zero_le _, rfl, rfl, Nat.zero_le _, Nat.zero_le _, ⟨by simp [flatT], .inl ⟨rfl, rfl⟩⟩, Below.refl _ _, pass_nil⟩
      case round =>
        obtain ⟨k, S, want, hk, hka, rfl, rfl, hS, hwl, hown, hbel, HP⟩ := hrel
        obtain ⟨al, cl, rfl⟩ := row_form hown
        have HOW := Lib.hid hown
        have HBE := Lib.hid hbel
        have HMR : Hid (wr.cell? ⟨0, 0, none⟩ = some (.int .i64 m)) := (hbel.cell (p := ⟨0, 0, none⟩) h0).trans HM.out
        have h0r : 0 < wr.heap.size := Nat.lt_of_lt_of_le h0 hbel.size
        have hbs : w.heap.size ≤ wr.heap.size := hbel.size
        clear hown hbel

        by_cases hkl : k < ks.length
        · obtain ⟨bk, ok, hake⟩ := HKS.out.ofSome (by omega)
          subst hake
          have hcell : wr.cell? ⟨bk, ok + k, none⟩ = some (.string ks[k]) := text_cell HKS.out HBE.out k hkl
          obtain ⟨t, ht⟩ : ∃ t, ks[k] = t := ⟨_, rfl⟩
          rw [ht] at hcell
          have htz : t.size ≤ 140737488355328 := by rw [← ht]; exact HKS.out.sizes k hkl
          clear ht
          by_cases ht2 : t.size ≤ 200
          · cases hpl : Lib.contains t.data.toList [123, 123] with
            | true =>
              have HPL := Lib.hid hpl
              clear hpl
              go_wp2_with (first
                | (go_at_call 8; refine (mPlain_any _ (by omega) m _ HMR.out).mono ?_; rintro e w1 ⟨he, hw1⟩; have hw2 := hw1.symm; subst hw2; rw [HPL.out] at he; subst he)
                | (go_at_call 10; refine (law6awake_any m _ HMR.out h0r).mono ?_; rintro e w1 ⟨rfl, hb⟩))
              go_ret
              exact ⟨rfl, HBE.out.trans (hb.mono HBE.out.size)⟩
            | false =>
              have HPL := Lib.hid hpl
              clear hpl
              cases hsu : Lib.hasSuffix t.data.toList [123] with
              | true =>
                have HSU := Lib.hid hsu
                clear hsu
                go_wp2_with (first
                  | (go_at_call 8; refine (mPlain_any _ (by omega) m _ HMR.out).mono ?_; rintro e w1 ⟨he, hw1⟩; have hw2 := hw1.symm; subst hw2; rw [HPL.out] at he; subst he)
                  | (go_at_call 9; refine (Tryd.strings_HasSuffix _ _ _ (by omega)).mono ?_; rintro e w1 ⟨he, hw1⟩; have hw2 := hw1.symm; subst hw2; rw [HSU.out] at he; subst he)
                  | (go_at_call 10; refine (law6awake_any m _ HMR.out h0r).mono ?_; rintro e w1 ⟨rfl, hb⟩))
                go_ret
                exact ⟨rfl, HBE.out.trans (hb.mono HBE.out.size)⟩
              | false =>
                have HSU := Lib.hid hsu
                clear hsu
                by_cases hte : t = ⟨#[]⟩
                · have hte1 : (t.toList == []) = true := by rw [hte, Lib.toList_data]; rfl
                  have hte2 : t.toList.isEmpty = true := by rw [hte, Lib.toList_data]; rfl
                  have hte3 : t.toList = [] := by rw [hte, Lib.toList_data]
                  have hte4 : t.data.toList = [] := by rw [hte]
                  have HTE := Lib.hid hte4
                  clear hte hte4 hte3
                  have HWT : Hid (want ++ oneT ⟨false, t.data.toList, S.size⟩ = want) := by
                    show _ = _
                    rw [oneT, if_pos HTE.out, List.append_nil]
                  have hsp : Hid (splitT (S ++ t).data.toList 0 false = some want) := by
                    have := pass_textB HP.out (no2_of HPL.out)
                    rw [HWT.out] at this
                    exact this
                  have hwz : want.length ≤ 2 * k + 1 := by omega
                  have hSz : (S ++ t).size ≤ k * 304 + 200 := by rw [ByteArray.size_append]; omega
                  by_cases hkb : k < bs.length
                  · obtain ⟨ba, oa, haae⟩ := HAS.out.ofSome (by omega)
                    subst haae
                    obtain ⟨a, ha⟩ : ∃ a, bs[k] = a := ⟨_, rfl⟩
                    have haz : a.size ≤ 140737488355328 := by rw [← ha]; exact HAS.out.sizes k hkb
                    have hac : wr.cell? ⟨ba, oa + k, none⟩ = some (.string a) := by
                      have := text_cell HAS.out HBE.out k hkb
                      rw [ha] at this
                      exact this
                    clear ha
                    go_wp2_with (first
                      | (go_at_call 8; refine (mPlain_any _ (by omega) m _ HMR.out).mono ?_; rintro e w1 ⟨he, hw1⟩; have hw2 := hw1.symm; subst hw2; rw [HPL.out] at he; subst he)
                      | (go_at_call 9; refine (Tryd.strings_HasSuffix _ _ _ (by omega)).mono ?_; rintro e w1 ⟨he, hw1⟩; have hw2 := hw1.symm; subst hw2; rw [HSU.out] at he; subst he))
                    obtain ⟨S1, hS1⟩ : ∃ x, S ++ t = x := ⟨_, rfl⟩
                    rw [hS1]
                    rw [hS1] at hSz
                    have HS1 := Lib.hid hS1
                    clear hS1 hsp
                    have z1 : (⟨#[123, 123]⟩ : ByteArray).size = 2 := rfl
                    have z2 : (⟨#[125, 125]⟩ : ByteArray).size = 2 := rfl
                    go_loop [67] (fun vi => ∃ j : Nat, j ≤ a.size ∧ vi = .int .i64 j ∧ Hid (0 < j → a.size ≤ 100) ∧ Hid (∀ i (h : i < a.size), i < j → goodB a[i] = true)) (fun vi => a.size - (intOf vi).toNat)
                    case atStart => exact ⟨0, Nat.zero_le _, rfl, (fun h => absurd h (Nat.lt_irrefl 0)), (fun i h hi => absurd hi (Nat.not_lt_zero i))⟩
                    case round =>
                      obtain ⟨j, hj, rfl, HJ, HG⟩ := hrel
                      by_cases hjl : j < a.size
                      · by_cases ha100 : a.size ≤ 100
                        · rcases byte_bad a[j] with c1 | ⟨c1, c2⟩ | ⟨c1, c2, c3⟩ | ⟨c1, c2, c3, c4⟩ | ⟨c1, c2, c3, c4, c5⟩ | ⟨c1, c2, c3, c4, c5, c6⟩ | ⟨c1, c2, c3, c4, c5, c6, hg⟩
                          · skip
                            go_wp2_with (first
                              | (go_at_call 10; refine (law6awake_any m _ HMR.out h0r).mono ?_; rintro e w1 ⟨rfl, hb⟩))
                            go_ret
                            exact ⟨rfl, HBE.out.trans (hb.mono HBE.out.size)⟩
                          · skip
                            go_wp2_with (first
                              | (go_at_call 10; refine (law6awake_any m _ HMR.out h0r).mono ?_; rintro e w1 ⟨rfl, hb⟩))
                            go_ret
                            exact ⟨rfl, HBE.out.trans (hb.mono HBE.out.size)⟩
                          · skip
                            go_wp2_with (first
                              | (go_at_call 10; refine (law6awake_any m _ HMR.out h0r).mono ?_; rintro e w1 ⟨rfl, hb⟩))
                            go_ret
                            exact ⟨rfl, HBE.out.trans (hb.mono HBE.out.size)⟩
                          · skip
                            go_wp2_with (first
                              | (go_at_call 10; refine (law6awake_any m _ HMR.out h0r).mono ?_; rintro e w1 ⟨rfl, hb⟩))
                            go_ret
                            exact ⟨rfl, HBE.out.trans (hb.mono HBE.out.size)⟩
                          · skip
                            go_wp2_with (first
                              | (go_at_call 10; refine (law6awake_any m _ HMR.out h0r).mono ?_; rintro e w1 ⟨rfl, hb⟩))
                            go_ret
                            exact ⟨rfl, HBE.out.trans (hb.mono HBE.out.size)⟩
                          · skip
                            go_wp2_with (first
                              | (go_at_call 10; refine (law6awake_any m _ HMR.out h0r).mono ?_; rintro e w1 ⟨rfl, hb⟩))
                            go_ret
                            exact ⟨rfl, HBE.out.trans (hb.mono HBE.out.size)⟩
                          · have HG2 : Hid (∀ i (h : i < a.size), i < j + 1 → goodB a[i] = true) := fun i h hi => by
                              by_cases e : i = j
                              · subst e; exact hg
                              · exact HG.out i h (by omega)
                            clear hg
                            go_wp2_with fail
                            go_round
                            case rel => exact ⟨_, _, _, _, ⟨j + 1, by omega, rfl, trivial, HG2.out⟩, rfl, rfl, rfl, by go_num⟩
                            case measure => simp [intOf]; omega
                        · skip
                          go_wp2_with (first
                            | (go_at_call 10; refine (law6awake_any m _ HMR.out h0r).mono ?_; rintro e w1 ⟨rfl, hb⟩))
                          go_ret
                          exact ⟨rfl, HBE.out.trans (hb.mono HBE.out.size)⟩
                      · have ha100 : a.size ≤ 100 := by
                          by_cases e : a.size = 0
                          · omega
                          · exact HJ.out (by omega)
                        have HGD : Hid (∀ b ∈ a.data.toList, goodB b = true) := fun b hb => by
                          obtain ⟨i, hi, e⟩ := List.getElem_of_mem hb
                          have hi2 : i < a.size := by rw [Lib.size_eq]; exact hi
                          have h1 := HG.out i hi2 (by omega)
                          have h2 : a[i] = a.data.toList[i] := by simp [ByteArray.getElem_eq_getElem_data]
                          rw [← e, ← h2]
                          exact h1
                        clear HG HJ
                        have hc1 : (⟨#[123, 123]⟩ ++ a : ByteArray).size ≤ 102 := by rw [ByteArray.size_append]; omega
                        have hc2 : (⟨#[123, 123]⟩ ++ a ++ ⟨#[125, 125]⟩ : ByteArray).size ≤ 104 := by rw [ByteArray.size_append]; omega
                        have hPS : Hid (Pass (S1 ++ (⟨#[123, 123]⟩ ++ a ++ ⟨#[125, 125]⟩) : ByteArray).data.toList (want ++ [⟨true, a.data.toList, S1.size⟩])) := by
                          have := pass_stepB HP.out (no2_of HPL.out) HSU.out HGD.out
                          rw [HWT.out, HS1.out] at this
                          exact this
                        have hS2 : Hid ((S1 ++ (⟨#[123, 123]⟩ ++ a ++ ⟨#[125, 125]⟩) : ByteArray).size ≤ (k + 1) * 304) := by
                          show _ ≤ _
                          rw [ByteArray.size_append]
                          omega
                        have OO : Hid (OwnT w.heap.size (wr.alloc (.cells #[.bool true, .string a, .int .i64 S1.size] 30)) (.slice al want.length cl) want) := World.ownsRow.alloc HOW.out _
                        have N1 : Hid (∀ ad : Addr, some (⟨wr.heap.size, 0, none⟩ : Addr) = some ad → ∀ j' u, [Value.bool true, .string a, .int .i64 S1.size][j']? = some u → (wr.alloc (.cells #[.bool true, .string a, .int .i64 S1.size] 30)).cell? (ad.add j') = some u) := fun ad h j' u hu => by
                          injection h with h
                          subst h
                          exact tok_lit wr #[.bool true, .string a, .int .i64 S1.size] 30 j' u hu
                        have N2 : Hid (∀ u ∈ [Value.bool true, .string a, .int .i64 S1.size], u.oneCell' = true) := fun u hu => by
                          simp at hu
                          rcases hu with rfl | rfl | rfl <;> rfl
                        go_wp2_with (first
                          | (at_builtin; (refine wpList_append_own_any _ rfl (.tmp 102) (.tmp 107) 25 rfl w.heap.size 30 i0 _ 3 32 Tryd.underlying25 HI0.out HZ0.out HZ1.out HZ2.out (by rfl) (by decide) (.slice al want.length cl) want.length _ rfl OO.out (some ⟨wr.heap.size, 0, none⟩) 1 1 [.bool true, .string a, .int .i64 S1.size] rfl rfl (fun h => by cases h) N1.out N2.out (by unfold maxLen; omega) (by omega) (by simp; omega) ?_)
                             intro v9 w8 own9 hg9 hob9
                             obtain ⟨al8, cl8, hv9⟩ := row_form own9
                             subst hv9
                             have OWN : OwnT w.heap.size w8 (.slice al8 (want.length + 1) cl8) (want ++ [⟨true, a.data.toList, S1.size⟩]) := by
                               show World.ownsRow _ _ _ _ _ _ _
                               rw [flatT_snoc, List.length_append]
                               simpa [tokC] using own9
                             have HOW8 := Lib.hid OWN
                             have HBE8 := Lib.hid (Below.grown ((HBE.out.alloc HBE.out.size (.cells #[.bool true, .string a, .int .i64 S1.size] 30))) hg9 (by simp; omega) (fun k hk => ((World.ownsRow.lt OO.out) k hk).1))
                             clear own9 hg9 hob9 OWN))
                        go_roundw
                        case rel => exact ⟨k + 1, _, _, by omega, by omega, by go_num, rfl, hS2.out, by simp; omega, HOW8.out, HBE8.out, hPS.out⟩
                        case measure => simp [intOf]; omega
                  · skip
                    go_wp2_with (first
                      | (go_at_call 8; refine (mPlain_any _ (by omega) m _ HMR.out).mono ?_; rintro e w1 ⟨he, hw1⟩; have hw2 := hw1.symm; subst hw2; rw [HPL.out] at he; subst he)
                      | (go_at_call 9; refine (Tryd.strings_HasSuffix _ _ _ (by omega)).mono ?_; rintro e w1 ⟨he, hw1⟩; have hw2 := hw1.symm; subst hw2; rw [HSU.out] at he; subst he)
                      | (go_at_call 11; refine (msplit_to _ _ hsp.out (by omega) m _ HMR.out h0r).mono ?_; rintro e w2 ⟨v2, he, hb2, ho2⟩
                         obtain ⟨al2, c2, hv2⟩ := row_form ho2
                         subst hv2 he
                         have HB2 := Lib.hid hb2
                         have HO2 := Lib.hid ho2
                         have HW2 : Hid (OwnT w.heap.size w2 (.slice al want.length cl) want) := HOW.out.later hb2
                         have HM2 : Hid (w2.cell? ⟨0, 0, none⟩ = some (.int .i64 m)) := (hb2.cell (p := ⟨0, 0, none⟩) h0r).trans HMR.out
                         have h02 : 0 < w2.heap.size := Nat.lt_of_lt_of_le h0r hb2.size
                         clear hb2 ho2))
                    go_loopw [129] (fun vi wq => ∃ q : Nat, q ≤ want.length ∧ vi = .int .i64 q ∧ Below w2.heap.size w2 wq) (fun vi _ => want.length - (intOf vi).toNat)
                    case atStart => exact ⟨0, Nat.zero_le _, rfl, Below.refl _ _⟩
                    case round =>
                      obtain ⟨q, hq, rfl, hb3⟩ := hrel
                      have HB3 := Lib.hid hb3
                      have HO3 : Hid (OwnT _ wr (.slice al2 want.length c2) want) := HO2.out.later hb3
                      have HW3 : Hid (OwnT _ wr (.slice al want.length cl) want) := HW2.out.later hb3
                      have HM3 : Hid (wr.cell? ⟨0, 0, none⟩ = some (.int .i64 m)) := (hb3.cell (p := ⟨0, 0, none⟩) h02).trans HM2.out
                      have h03 : 0 < wr.heap.size := Nat.lt_of_lt_of_le h02 hb3.size
                      clear hb3
                      by_cases hql : q < want.length
                      · obtain ⟨g2, hal2, hg2, hc2⟩ := own_at HO3.out q hql
                        obtain ⟨g3, hal3, hg3, hc3⟩ := own_at HW3.out q hql
                        subst hal2 hal3
                        obtain ⟨tb, hb⟩ : ∃ x, want[q].act = x := ⟨_, rfl⟩
                        obtain ⟨tS, hS'⟩ : ∃ x : ByteArray, (⟨want[q].S.toArray⟩ : ByteArray) = x := ⟨_, rfl⟩
                        obtain ⟨tn, hn⟩ : ∃ x : Nat, want[q].at' = x := ⟨_, rfl⟩
                        have d0 : wr.cell? ⟨g3, q * 3, none⟩ = some (.bool tb) := hb ▸ hc3 0 _ (by omega) rfl
                        have d1 : wr.cell? ⟨g3, q * 3 + 1, none⟩ = some (.string tS) := hS' ▸ hc3 1 _ (by omega) rfl
                        have d2 : wr.cell? ⟨g3, q * 3 + 2, none⟩ = some (.int .i64 tn) := hn ▸ hc3 2 _ (by omega) rfl
                        have e0 : (wr.alloc (.cells #[.bool tb, .string tS, .int .i64 tn] 30)).cell? ⟨g2, q * 3, none⟩ = some (.bool tb) := (World.cell?_alloc_lt _ _ _ hg2).trans (hb ▸ hc2 0 _ (by omega) rfl)
                        have e1 : (wr.alloc (.cells #[.bool tb, .string tS, .int .i64 tn] 30)).cell? ⟨g2, q * 3 + 1, none⟩ = some (.string tS) := (World.cell?_alloc_lt _ _ _ hg2).trans (hS' ▸ hc2 1 _ (by omega) rfl)
                        have e2 : (wr.alloc (.cells #[.bool tb, .string tS, .int .i64 tn] 30)).cell? ⟨g2, q * 3 + 2, none⟩ = some (.int .i64 tn) := (World.cell?_alloc_lt _ _ _ hg2).trans (hn ▸ hc2 2 _ (by omega) rfl)
                        have f0 : (wr.alloc (.cells #[.bool tb, .string tS, .int .i64 tn] 30)).cell? ⟨wr.heap.size, 0, none⟩ = some (.bool tb) := by rw [World.cell?_alloc_new]; rfl
                        have f1 : (wr.alloc (.cells #[.bool tb, .string tS, .int .i64 tn] 30)).cell? ⟨wr.heap.size, 1, none⟩ = some (.string tS) := by rw [World.cell?_alloc_new]; rfl
                        have f2 : (wr.alloc (.cells #[.bool tb, .string tS, .int .i64 tn] 30)).cell? ⟨wr.heap.size, 2, none⟩ = some (.int .i64 tn) := by rw [World.cell?_alloc_new]; rfl
                        clear hc2 hc3 hb hS' hn
                        have hqi : (q : Int) + 1 ≤ want.length := by omega
                        have hq0 : (0 : Int) ≤ q := by omega
                        go_wp2_with fail
                        go_quiet (fail)
                        go_wp2_with fail
                        go_roundw
                        case rel => exact ⟨q + 1, by omega, by go_num, bdrewN (HB3.out.alloc HB3.out.size _) nq⟩
                        case measure => simp [intOf]; omega
                      · go_wp2_with (go_at_call 10; refine (law6awake_any m _ HM3.out h03).mono ?_; rintro e w6 ⟨rfl, hb6⟩)
                        go_ret
                        exact ⟨rfl, HBE.out.trans ((HB2.out.trans ((HB3.out.trans (hb6.mono HB3.out.size)).mono HB2.out.size)).mono HBE.out.size)⟩
                · have hnl : t.data.toList ≠ [] := fun e => hte (by rw [← Lib.mk_data t, e])
                  have hne : (t.toList == []) = false := by
                    have := str_ne hte
                    rw [Lib.toList_data ⟨#[]⟩] at this
                    exact this
                  have hne2 : t.toList.isEmpty = false := by
                    cases hx : t.toList with
                    | nil => rw [hx] at hne; cases hne
                    | cons _ _ => rfl
                  obtain ⟨want1, hwant1⟩ : ∃ x, want ++ [(⟨false, t.data.toList, S.size⟩ : Tok)] = x := ⟨_, rfl⟩
                  have hw1 : want.length + 1 = want1.length := by rw [← hwant1]; simp
                  have HW1L := Lib.hid hw1
                  have hwz : want1.length ≤ 2 * k + 1 := by omega
                  clear hw1
                  have HWT : Hid (want ++ oneT ⟨false, t.data.toList, S.size⟩ = want1) := by
                    show _ = _
                    rw [oneT, if_neg hnl]
                    exact hwant1
                  have hsp : Hid (splitT (S ++ t).data.toList 0 false = some want1) := by
                    have := pass_textB HP.out (no2_of HPL.out)
                    rw [HWT.out] at this
                    exact this
                  have HWA := Lib.hid hwant1
                  clear hwant1 hnl
                  have OO : Hid (OwnT w.heap.size (wr.alloc (.cells #[.bool false, .string t, .int .i64 S.size] 30)) (.slice al want.length cl) want) := World.ownsRow.alloc HOW.out _
                  have N1 : Hid (∀ ad : Addr, some (⟨wr.heap.size, 0, none⟩ : Addr) = some ad → ∀ j' u, [Value.bool false, .string t, .int .i64 S.size][j']? = some u → (wr.alloc (.cells #[.bool false, .string t, .int .i64 S.size] 30)).cell? (ad.add j') = some u) := fun ad h j' u hu => by
                    injection h with h
                    subst h
                    exact tok_lit wr #[.bool false, .string t, .int .i64 S.size] 30 j' u hu
                  have N2 : Hid (∀ u ∈ [Value.bool false, .string t, .int .i64 S.size], u.oneCell' = true) := fun u hu => by
                    simp at hu
                    rcases hu with rfl | rfl | rfl <;> rfl
                  have hSz : (S ++ t).size ≤ k * 304 + 200 := by rw [ByteArray.size_append]; omega
                  by_cases hkb : k < bs.length
                  · obtain ⟨ba, oa, haae⟩ := HAS.out.ofSome (by omega)
                    subst haae
                    obtain ⟨a, ha⟩ : ∃ a, bs[k] = a := ⟨_, rfl⟩
                    have haz : a.size ≤ 140737488355328 := by rw [← ha]; exact HAS.out.sizes k hkb
                    have HAE := Lib.hid ha
                    clear ha
                    go_wp2_with (first
                      | (go_at_call 8; refine (mPlain_any _ (by omega) m _ HMR.out).mono ?_; rintro e w1 ⟨he, hw1⟩; have hw2 := hw1.symm; subst hw2; rw [HPL.out] at he; subst he)
                      | (go_at_call 9; refine (Tryd.strings_HasSuffix _ _ _ (by omega)).mono ?_; rintro e w1 ⟨he, hw1⟩; have hw2 := hw1.symm; subst hw2; rw [HSU.out] at he; subst he)
                      | (at_builtin; (refine wpList_append_own_any _ rfl (.tmp 47) (.tmp 52) 25 rfl w.heap.size 30 i0 _ 3 32 Tryd.underlying25 HI0.out HZ0.out HZ1.out HZ2.out (by rfl) (by decide) (.slice al want.length cl) want.length _ rfl OO.out (some ⟨wr.heap.size, 0, none⟩) 1 1 [.bool false, .string t, .int .i64 S.size] rfl rfl (fun h => by cases h) N1.out N2.out (by unfold maxLen; omega) (by omega) (by simp; omega) ?_)
                         intro v9 w9 own9 hg9 hob9
                         obtain ⟨al9, cl9, hv9⟩ := row_form own9
                         subst hv9
                         have OWN : OwnT w.heap.size w9 (.slice al9 (want.length + 1) cl9) (want ++ [⟨false, t.data.toList, S.size⟩]) := by
                           show World.ownsRow _ _ _ _ _ _ _
                           rw [flatT_snoc, List.length_append]
                           simpa [tokC] using own9
                         have HOW9 := Lib.hid OWN
                         have HBE9 := Lib.hid (Below.grown ((HBE.out.alloc HBE.out.size (.cells #[.bool false, .string t, .int .i64 S.size] 30))) hg9 (by simp; omega) (fun k hk => ((World.ownsRow.lt OO.out) k hk).1))
                         have HOWA : Hid (OwnT w.heap.size w9 (.slice al9 want1.length cl9) want1) := by
                           have := OWN
                           rw [HWA.out, HW1L.out] at this
                           exact this
                         clear own9 hg9 hob9 OWN HOW9
                         rw [HW1L.out]
                         have HMA : Hid (w9.cell? ⟨0, 0, none⟩ = some (.int .i64 m)) := (HBE9.out.cell (p := ⟨0, 0, none⟩) h0).trans HM.out
                         have h0a : 0 < w9.heap.size := Nat.lt_of_lt_of_le h0 HBE9.out.size
                         have hbsa : w.heap.size ≤ w9.heap.size := HBE9.out.size
                         clear OO N1 N2
                         have hac : w9.cell? ⟨ba, oa + k, none⟩ = some (.string a) := by
                           have := text_cell HAS.out HBE9.out k hkb
                           rw [HAE.out] at this
                           exact this))
                    obtain ⟨S1, hS1⟩ : ∃ x, S ++ t = x := ⟨_, rfl⟩
                    rw [hS1]
                    rw [hS1] at hSz
                    have HS1 := Lib.hid hS1
                    clear hS1 hsp
                    have z1 : (⟨#[123, 123]⟩ : ByteArray).size = 2 := rfl
                    have z2 : (⟨#[125, 125]⟩ : ByteArray).size = 2 := rfl
                    go_loop [67] (fun vi => ∃ j : Nat, j ≤ a.size ∧ vi = .int .i64 j ∧ Hid (0 < j → a.size ≤ 100) ∧ Hid (∀ i (h : i < a.size), i < j → goodB a[i] = true)) (fun vi => a.size - (intOf vi).toNat)
                    case atStart => exact ⟨0, Nat.zero_le _, rfl, (fun h => absurd h (Nat.lt_irrefl 0)), (fun i h hi => absurd hi (Nat.not_lt_zero i))⟩
                    case round =>
                      obtain ⟨j, hj, rfl, HJ, HG⟩ := hrel
                      by_cases hjl : j < a.size
                      · by_cases ha100 : a.size ≤ 100
                        · rcases byte_bad a[j] with c1 | ⟨c1, c2⟩ | ⟨c1, c2, c3⟩ | ⟨c1, c2, c3, c4⟩ | ⟨c1, c2, c3, c4, c5⟩ | ⟨c1, c2, c3, c4, c5, c6⟩ | ⟨c1, c2, c3, c4, c5, c6, hg⟩
                          · skip
                            go_wp2_with (first
                              | (go_at_call 10; refine (law6awake_any m _ HMA.out h0a).mono ?_; rintro e w1 ⟨rfl, hb⟩))
                            go_ret
                            exact ⟨rfl, HBE9.out.trans (hb.mono HBE9.out.size)⟩
                          · skip
                            go_wp2_with (first
                              | (go_at_call 10; refine (law6awake_any m _ HMA.out h0a).mono ?_; rintro e w1 ⟨rfl, hb⟩))
                            go_ret
                            exact ⟨rfl, HBE9.out.trans (hb.mono HBE9.out.size)⟩
                          · skip
                            go_wp2_with (first
                              | (go_at_call 10; refine (law6awake_any m _ HMA.out h0a).mono ?_; rintro e w1 ⟨rfl, hb⟩))
                            go_ret
                            exact ⟨rfl, HBE9.out.trans (hb.mono HBE9.out.size)⟩
                          · skip
                            go_wp2_with (first
                              | (go_at_call 10; refine (law6awake_any m _ HMA.out h0a).mono ?_; rintro e w1 ⟨rfl, hb⟩))
                            go_ret
                            exact ⟨rfl, HBE9.out.trans (hb.mono HBE9.out.size)⟩
                          · skip
                            go_wp2_with (first
                              | (go_at_call 10; refine (law6awake_any m _ HMA.out h0a).mono ?_; rintro e w1 ⟨rfl, hb⟩))
                            go_ret
                            exact ⟨rfl, HBE9.out.trans (hb.mono HBE9.out.size)⟩
                          · skip
                            go_wp2_with (first
                              | (go_at_call 10; refine (law6awake_any m _ HMA.out h0a).mono ?_; rintro e w1 ⟨rfl, hb⟩))
                            go_ret
                            exact ⟨rfl, HBE9.out.trans (hb.mono HBE9.out.size)⟩
                          · have HG2 : Hid (∀ i (h : i < a.size), i < j + 1 → goodB a[i] = true) := fun i h hi => by
                              by_cases e : i = j
                              · subst e; exact hg
                              · exact HG.out i h (by omega)
                            clear hg
                            go_wp2_with fail
                            go_round
                            case rel => exact ⟨_, _, _, _, ⟨j + 1, by omega, rfl, trivial, HG2.out⟩, rfl, rfl, rfl, by go_num⟩
                            case measure => simp [intOf]; omega
                        · skip
                          go_wp2_with (first
                            | (go_at_call 10; refine (law6awake_any m _ HMA.out h0a).mono ?_; rintro e w1 ⟨rfl, hb⟩))
                          go_ret
                          exact ⟨rfl, HBE9.out.trans (hb.mono HBE9.out.size)⟩
                      · have ha100 : a.size ≤ 100 := by
                          by_cases e : a.size = 0
                          · omega
                          · exact HJ.out (by omega)
                        have HGD : Hid (∀ b ∈ a.data.toList, goodB b = true) := fun b hb => by
                          obtain ⟨i, hi, e⟩ := List.getElem_of_mem hb
                          have hi2 : i < a.size := by rw [Lib.size_eq]; exact hi
                          have h1 := HG.out i hi2 (by omega)
                          have h2 : a[i] = a.data.toList[i] := by simp [ByteArray.getElem_eq_getElem_data]
                          rw [← e, ← h2]
                          exact h1
                        clear HG HJ
                        have hc1 : (⟨#[123, 123]⟩ ++ a : ByteArray).size ≤ 102 := by rw [ByteArray.size_append]; omega
                        have hc2 : (⟨#[123, 123]⟩ ++ a ++ ⟨#[125, 125]⟩ : ByteArray).size ≤ 104 := by rw [ByteArray.size_append]; omega
                        have hPS : Hid (Pass (S1 ++ (⟨#[123, 123]⟩ ++ a ++ ⟨#[125, 125]⟩) : ByteArray).data.toList (want1 ++ [⟨true, a.data.toList, S1.size⟩])) := by
                          have := pass_stepB HP.out (no2_of HPL.out) HSU.out HGD.out
                          rw [HWT.out, HS1.out] at this
                          exact this
                        have hS2 : Hid ((S1 ++ (⟨#[123, 123]⟩ ++ a ++ ⟨#[125, 125]⟩) : ByteArray).size ≤ (k + 1) * 304) := by
                          show _ ≤ _
                          rw [ByteArray.size_append]
                          omega
                        have OO : Hid (OwnT w.heap.size (w9.alloc (.cells #[.bool true, .string a, .int .i64 S1.size] 30)) (.slice al9 want1.length cl9) want1) := World.ownsRow.alloc HOWA.out _
                        have N1 : Hid (∀ ad : Addr, some (⟨w9.heap.size, 0, none⟩ : Addr) = some ad → ∀ j' u, [Value.bool true, .string a, .int .i64 S1.size][j']? = some u → (w9.alloc (.cells #[.bool true, .string a, .int .i64 S1.size] 30)).cell? (ad.add j') = some u) := fun ad h j' u hu => by
                          injection h with h
                          subst h
                          exact tok_lit w9 #[.bool true, .string a, .int .i64 S1.size] 30 j' u hu
                        have N2 : Hid (∀ u ∈ [Value.bool true, .string a, .int .i64 S1.size], u.oneCell' = true) := fun u hu => by
                          simp at hu
                          rcases hu with rfl | rfl | rfl <;> rfl
                        go_wp2_with (first
                          | (at_builtin; (refine wpList_append_own_any _ rfl (.tmp 102) (.tmp 107) 25 rfl w.heap.size 30 i0 _ 3 32 Tryd.underlying25 HI0.out HZ0.out HZ1.out HZ2.out (by rfl) (by decide) (.slice al9 want1.length cl9) want1.length _ rfl OO.out (some ⟨w9.heap.size, 0, none⟩) 1 1 [.bool true, .string a, .int .i64 S1.size] rfl rfl (fun h => by cases h) N1.out N2.out (by unfold maxLen; omega) (by omega) (by simp; omega) ?_)
                             intro v9 w8 own9 hg9 hob9
                             obtain ⟨al8, cl8, hv9⟩ := row_form own9
                             subst hv9
                             have OWN : OwnT w.heap.size w8 (.slice al8 (want1.length + 1) cl8) (want1 ++ [⟨true, a.data.toList, S1.size⟩]) := by
                               show World.ownsRow _ _ _ _ _ _ _
                               rw [flatT_snoc, List.length_append]
                               simpa [tokC] using own9
                             have HOW8 := Lib.hid OWN
                             have HBE8 := Lib.hid (Below.grown ((HBE9.out.alloc HBE9.out.size (.cells #[.bool true, .string a, .int .i64 S1.size] 30))) hg9 (by simp; omega) (fun k hk => ((World.ownsRow.lt OO.out) k hk).1))
                             clear own9 hg9 hob9 OWN))
                        go_roundw
                        case rel => exact ⟨k + 1, _, _, by omega, by omega, by go_num, rfl, hS2.out, by simp; omega, HOW8.out, HBE8.out, hPS.out⟩
                        case measure => simp [intOf]; omega
                  · skip
                    go_wp2_with (first
                      | (go_at_call 8; refine (mPlain_any _ (by omega) m _ HMR.out).mono ?_; rintro e w1 ⟨he, hw1⟩; have hw2 := hw1.symm; subst hw2; rw [HPL.out] at he; subst he)
                      | (go_at_call 9; refine (Tryd.strings_HasSuffix _ _ _ (by omega)).mono ?_; rintro e w1 ⟨he, hw1⟩; have hw2 := hw1.symm; subst hw2; rw [HSU.out] at he; subst he)
                      | (at_builtin; (refine wpList_append_own_any _ rfl (.tmp 47) (.tmp 52) 25 rfl w.heap.size 30 i0 _ 3 32 Tryd.underlying25 HI0.out HZ0.out HZ1.out HZ2.out (by rfl) (by decide) (.slice al want.length cl) want.length _ rfl OO.out (some ⟨wr.heap.size, 0, none⟩) 1 1 [.bool false, .string t, .int .i64 S.size] rfl rfl (fun h => by cases h) N1.out N2.out (by unfold maxLen; omega) (by omega) (by simp; omega) ?_)
                         intro v9 w9 own9 hg9 hob9
                         obtain ⟨al9, cl9, hv9⟩ := row_form own9
                         subst hv9
                         have OWN : OwnT w.heap.size w9 (.slice al9 (want.length + 1) cl9) (want ++ [⟨false, t.data.toList, S.size⟩]) := by
                           show World.ownsRow _ _ _ _ _ _ _
                           rw [flatT_snoc, List.length_append]
                           simpa [tokC] using own9
                         have HOW9 := Lib.hid OWN
                         have HBE9 := Lib.hid (Below.grown ((HBE.out.alloc HBE.out.size (.cells #[.bool false, .string t, .int .i64 S.size] 30))) hg9 (by simp; omega) (fun k hk => ((World.ownsRow.lt OO.out) k hk).1))
                         have HOWA : Hid (OwnT w.heap.size w9 (.slice al9 want1.length cl9) want1) := by
                           have := OWN
                           rw [HWA.out, HW1L.out] at this
                           exact this
                         clear own9 hg9 hob9 OWN HOW9
                         rw [HW1L.out]
                         have HMA : Hid (w9.cell? ⟨0, 0, none⟩ = some (.int .i64 m)) := (HBE9.out.cell (p := ⟨0, 0, none⟩) h0).trans HM.out
                         have h0a : 0 < w9.heap.size := Nat.lt_of_lt_of_le h0 HBE9.out.size
                         have hbsa : w.heap.size ≤ w9.heap.size := HBE9.out.size
                         clear OO N1 N2)
                      | (go_at_call 11; refine (msplit_to _ _ hsp.out (by omega) m _ HMA.out h0a).mono ?_; rintro e w2 ⟨v2, he, hb2, ho2⟩
                         obtain ⟨al2, c2, hv2⟩ := row_form ho2
                         subst hv2 he
                         have HB2 := Lib.hid hb2
                         have HO2 := Lib.hid ho2
                         have HW2 : Hid (OwnT w.heap.size w2 (.slice al9 want1.length cl9) want1) := HOWA.out.later hb2
                         have HM2 : Hid (w2.cell? ⟨0, 0, none⟩ = some (.int .i64 m)) := (hb2.cell (p := ⟨0, 0, none⟩) h0a).trans HMA.out
                         have h02 : 0 < w2.heap.size := Nat.lt_of_lt_of_le h0a hb2.size
                         clear hb2 ho2))
                    go_loopw [129] (fun vi wq => ∃ q : Nat, q ≤ want1.length ∧ vi = .int .i64 q ∧ Below w2.heap.size w2 wq) (fun vi _ => want1.length - (intOf vi).toNat)
                    case atStart => exact ⟨0, Nat.zero_le _, rfl, Below.refl _ _⟩
                    case round =>
                      obtain ⟨q, hq, rfl, hb3⟩ := hrel
                      have HB3 := Lib.hid hb3
                      have HO3 : Hid (OwnT _ wr (.slice al2 want1.length c2) want1) := HO2.out.later hb3
                      have HW3 : Hid (OwnT _ wr (.slice al9 want1.length cl9) want1) := HW2.out.later hb3
                      have HM3 : Hid (wr.cell? ⟨0, 0, none⟩ = some (.int .i64 m)) := (hb3.cell (p := ⟨0, 0, none⟩) h02).trans HM2.out
                      have h03 : 0 < wr.heap.size := Nat.lt_of_lt_of_le h02 hb3.size
                      clear hb3
                      by_cases hql : q < want1.length
                      · obtain ⟨g2, hal2, hg2, hc2⟩ := own_at HO3.out q hql
                        obtain ⟨g3, hal3, hg3, hc3⟩ := own_at HW3.out q hql
                        subst hal2 hal3
                        obtain ⟨tb, hb⟩ : ∃ x, want1[q].act = x := ⟨_, rfl⟩
                        obtain ⟨tS, hS'⟩ : ∃ x : ByteArray, (⟨want1[q].S.toArray⟩ : ByteArray) = x := ⟨_, rfl⟩
                        obtain ⟨tn, hn⟩ : ∃ x : Nat, want1[q].at' = x := ⟨_, rfl⟩
                        have d0 : wr.cell? ⟨g3, q * 3, none⟩ = some (.bool tb) := hb ▸ hc3 0 _ (by omega) rfl
                        have d1 : wr.cell? ⟨g3, q * 3 + 1, none⟩ = some (.string tS) := hS' ▸ hc3 1 _ (by omega) rfl
                        have d2 : wr.cell? ⟨g3, q * 3 + 2, none⟩ = some (.int .i64 tn) := hn ▸ hc3 2 _ (by omega) rfl
                        have e0 : (wr.alloc (.cells #[.bool tb, .string tS, .int .i64 tn] 30)).cell? ⟨g2, q * 3, none⟩ = some (.bool tb) := (World.cell?_alloc_lt _ _ _ hg2).trans (hb ▸ hc2 0 _ (by omega) rfl)
                        have e1 : (wr.alloc (.cells #[.bool tb, .string tS, .int .i64 tn] 30)).cell? ⟨g2, q * 3 + 1, none⟩ = some (.string tS) := (World.cell?_alloc_lt _ _ _ hg2).trans (hS' ▸ hc2 1 _ (by omega) rfl)
                        have e2 : (wr.alloc (.cells #[.bool tb, .string tS, .int .i64 tn] 30)).cell? ⟨g2, q * 3 + 2, none⟩ = some (.int .i64 tn) := (World.cell?_alloc_lt _ _ _ hg2).trans (hn ▸ hc2 2 _ (by omega) rfl)
                        have f0 : (wr.alloc (.cells #[.bool tb, .string tS, .int .i64 tn] 30)).cell? ⟨wr.heap.size, 0, none⟩ = some (.bool tb) := by rw [World.cell?_alloc_new]; rfl
                        have f1 : (wr.alloc (.cells #[.bool tb, .string tS, .int .i64 tn] 30)).cell? ⟨wr.heap.size, 1, none⟩ = some (.string tS) := by rw [World.cell?_alloc_new]; rfl
                        have f2 : (wr.alloc (.cells #[.bool tb, .string tS, .int .i64 tn] 30)).cell? ⟨wr.heap.size, 2, none⟩ = some (.int .i64 tn) := by rw [World.cell?_alloc_new]; rfl
                        clear hc2 hc3 hb hS' hn
                        have hqi : (q : Int) + 1 ≤ want1.length := by omega
                        have hq0 : (0 : Int) ≤ q := by omega
                        go_wp2_with fail
                        go_quiet (fail)
                        go_wp2_with fail
                        go_roundw
                        case rel => exact ⟨q + 1, by omega, by go_num, bdrewN (HB3.out.alloc HB3.out.size _) nq⟩
                        case measure => simp [intOf]; omega
                      · go_wp2_with (go_at_call 10; refine (law6awake_any m _ HM3.out h03).mono ?_; rintro e w6 ⟨rfl, hb6⟩)
                        go_ret
                        exact ⟨rfl, HBE9.out.trans ((HB2.out.trans ((HB3.out.trans (hb6.mono HB3.out.size)).mono HB2.out.size)).mono HBE9.out.size)⟩
          · skip
            go_wp2_with (first
              | (go_at_call 10; refine (law6awake_any m _ HMR.out h0r).mono ?_; rintro e w1 ⟨rfl, hb⟩))
            go_ret
            exact ⟨rfl, HBE.out.trans (hb.mono HBE.out.size)⟩
        · skip
          have hsp : Hid (splitT S.data.toList 0 false = some want) := pass_end HP.out
          go_wp2_with (first
            | (go_at_call 11; refine (msplit_to _ _ hsp.out (by omega) m _ HMR.out h0r).mono ?_; rintro e w2 ⟨v2, he, hb2, ho2⟩
               obtain ⟨al2, c2, hv2⟩ := row_form ho2
               subst hv2 he
               have HB2 := Lib.hid hb2
               have HO2 := Lib.hid ho2
               have HW2 : Hid (OwnT w.heap.size w2 (.slice al want.length cl) want) := HOW.out.later hb2
               have HM2 : Hid (w2.cell? ⟨0, 0, none⟩ = some (.int .i64 m)) := (hb2.cell (p := ⟨0, 0, none⟩) h0r).trans HMR.out
               have h02 : 0 < w2.heap.size := Nat.lt_of_lt_of_le h0r hb2.size
               clear hb2 ho2))
          go_loopw [129] (fun vi wq => ∃ q : Nat, q ≤ want.length ∧ vi = .int .i64 q ∧ Below w2.heap.size w2 wq) (fun vi _ => want.length - (intOf vi).toNat)
          case atStart => exact ⟨0, Nat.zero_le _, rfl, Below.refl _ _⟩
          case round =>
            obtain ⟨q, hq, rfl, hb3⟩ := hrel
            have HB3 := Lib.hid hb3
            have HO3 : Hid (OwnT _ wr (.slice al2 want.length c2) want) := HO2.out.later hb3
            have HW3 : Hid (OwnT _ wr (.slice al want.length cl) want) := HW2.out.later hb3
            have HM3 : Hid (wr.cell? ⟨0, 0, none⟩ = some (.int .i64 m)) := (hb3.cell (p := ⟨0, 0, none⟩) h02).trans HM2.out
            have h03 : 0 < wr.heap.size := Nat.lt_of_lt_of_le h02 hb3.size
            clear hb3
            by_cases hql : q < want.length
            · obtain ⟨g2, hal2, hg2, hc2⟩ := own_at HO3.out q hql
              obtain ⟨g3, hal3, hg3, hc3⟩ := own_at HW3.out q hql
              subst hal2 hal3
              obtain ⟨tb, hb⟩ : ∃ x, want[q].act = x := ⟨_, rfl⟩
              obtain ⟨tS, hS'⟩ : ∃ x : ByteArray, (⟨want[q].S.toArray⟩ : ByteArray) = x := ⟨_, rfl⟩
              obtain ⟨tn, hn⟩ : ∃ x : Nat, want[q].at' = x := ⟨_, rfl⟩
              have d0 : wr.cell? ⟨g3, q * 3, none⟩ = some (.bool tb) := hb ▸ hc3 0 _ (by omega) rfl
              have d1 : wr.cell? ⟨g3, q * 3 + 1, none⟩ = some (.string tS) := hS' ▸ hc3 1 _ (by omega) rfl
              have d2 : wr.cell? ⟨g3, q * 3 + 2, none⟩ = some (.int .i64 tn) := hn ▸ hc3 2 _ (by omega) rfl
              have e0 : (wr.alloc (.cells #[.bool tb, .string tS, .int .i64 tn] 30)).cell? ⟨g2, q * 3, none⟩ = some (.bool tb) := (World.cell?_alloc_lt _ _ _ hg2).trans (hb ▸ hc2 0 _ (by omega) rfl)
              have e1 : (wr.alloc (.cells #[.bool tb, .string tS, .int .i64 tn] 30)).cell? ⟨g2, q * 3 + 1, none⟩ = some (.string tS) := (World.cell?_alloc_lt _ _ _ hg2).trans (hS' ▸ hc2 1 _ (by omega) rfl)
              have e2 : (wr.alloc (.cells #[.bool tb, .string tS, .int .i64 tn] 30)).cell? ⟨g2, q * 3 + 2, none⟩ = some (.int .i64 tn) := (World.cell?_alloc_lt _ _ _ hg2).trans (hn ▸ hc2 2 _ (by omega) rfl)
              have f0 : (wr.alloc (.cells #[.bool tb, .string tS, .int .i64 tn] 30)).cell? ⟨wr.heap.size, 0, none⟩ = some (.bool tb) := by rw [World.cell?_alloc_new]; rfl
              have f1 : (wr.alloc (.cells #[.bool tb, .string tS, .int .i64 tn] 30)).cell? ⟨wr.heap.size, 1, none⟩ = some (.string tS) := by rw [World.cell?_alloc_new]; rfl
              have f2 : (wr.alloc (.cells #[.bool tb, .string tS, .int .i64 tn] 30)).cell? ⟨wr.heap.size, 2, none⟩ = some (.int .i64 tn) := by rw [World.cell?_alloc_new]; rfl
              clear hc2 hc3 hb hS' hn
              have hqi : (q : Int) + 1 ≤ want.length := by omega
              have hq0 : (0 : Int) ≤ q := by omega
              go_wp2_with fail
              go_quiet (fail)
              go_wp2_with fail
              go_roundw
              case rel => exact ⟨q + 1, by omega, by go_num, bdrewN (HB3.out.alloc HB3.out.size _) nq⟩
              case measure => simp [intOf]; omega
            · go_wp2_with (go_at_call 10; refine (law6awake_any m _ HM3.out h03).mono ?_; rintro e w6 ⟨rfl, hb6⟩)
              go_ret
              exact ⟨rfl, HBE.out.trans ((HB2.out.trans ((HB3.out.trans (hb6.mono HB3.out.size)).mono HB2.out.size)).mono HBE.out.size)⟩
    · go_enter Tryd.func5, Tryd.ntmps5
      go_wp2_with (go_at_call 10; refine (law6awake_any m _ HM.out h0).mono ?_; rintro e w1 ⟨rfl, hb⟩)
      go_ret
      exact ⟨rfl, hb⟩
  · go_enter Tryd.func5, Tryd.ntmps5
    go_wp2_with (go_at_call 10; refine (law6awake_any m _ HM.out h0).mono ?_; rintro e w1 ⟨rfl, hb⟩)
    go_ret
    exact ⟨rfl, hb⟩

end Go.Proofs.YtomdkmhaohcofaaDoor
