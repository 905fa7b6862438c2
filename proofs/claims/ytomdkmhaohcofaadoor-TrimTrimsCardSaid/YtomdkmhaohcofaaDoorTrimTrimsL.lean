/-
  TrimTrims: the law's contract.
-/
import Derived.Test.YtomdkmhaohcofaaDoorTrimLaw
set_option linter.unusedVariables false
set_option linter.unusedSimpArgs false
namespace Go.Proofs.YtomdkmhaohcofaaDoor
open Go.RowKit

def catS (ts : List Tok) : List UInt8 := ts.flatMap (·.S)
theorem flatT_get : ∀ (ts : List Tok) (k : Nat) (h : k < ts.length) (f : Nat), f < 3 → (flatT ts)[k * 3 + f]? = (tokC ts[k]).toList[f]?
  | [], k, h, f, hf => by cases h
  | t :: ts, 0, h, f, hf => by
    show ((tokC t).toList ++ flatT ts)[0 * 3 + f]? = _
    rw [List.getElem?_append_left (by simp [tokC]; omega)]
    simp
  | t :: ts, k + 1, h, f, hf => by
    show ((tokC t).toList ++ flatT ts)[(k + 1) * 3 + f]? = _
    have e : (tokC t).toList.length = 3 := rfl
    rw [List.getElem?_append_right (by omega), e, show (k + 1) * 3 + f - 3 = k * 3 + f by omega, flatT_get ts k (by simpa using h) f hf]
    rfl

def trimsT (a b : List UInt8) : List Tok := oneT ⟨false, Lib.trimRightS a [32, 9, 10], 0⟩ ++ oneT ⟨false, Lib.trimLeftS b [32, 9, 10], a.length + (2 + 11 + 2) + (b.length - (Lib.trimLeftS b [32, 9, 10]).length)⟩

theorem app_mk (a b : List UInt8) : (⟨a.toArray⟩ : ByteArray) ++ ⟨b.toArray⟩ = ⟨(a ++ b).toArray⟩ := by
  apply ByteArray.ext
  rw [ByteArray.data_append]
  simp
theorem catS_take (ts : List Tok) (k : Nat) (h : k < ts.length) : (catS (ts.take k)).length + ts[k].S.length ≤ (catS ts).length := by
  have h0 := List.take_append_drop k ts
  rw [List.drop_eq_getElem_cons h] at h0
  have h1 : ∀ x y : List Tok, ∀ t, catS (x ++ t :: y) = catS x ++ (t.S ++ catS y) := fun x y t => by simp [catS]
  have h2 := h1 (ts.take k) (ts.drop (k + 1)) ts[k]
  rw [h0] at h2
  rw [h2]
  simp

theorem catS_oneT (s : List UInt8) (n : Nat) : catS (oneT ⟨false, s, n⟩) = s := by
  unfold oneT
  split
  · rename_i h
    exact h.symm
  · simp [catS]
theorem catS_trims (a b : List UInt8) : catS (trimsT a b) = Lib.trimRightS a [32, 9, 10] ++ Lib.trimLeftS b [32, 9, 10] := by
  unfold trimsT
  rw [show ∀ x y : List Tok, catS (x ++ y) = catS x ++ catS y from fun x y => by simp [catS], catS_oneT, catS_oneT]
theorem trimsT_plain (a b : List UInt8) : ∀ t ∈ trimsT a b, t.act = false := fun t ht => by
  unfold trimsT oneT at ht
  rw [List.mem_append] at ht
  rcases ht with ht | ht
  · split at ht
    · cases ht
    · rw [List.mem_singleton] at ht
      rw [ht]
  · split at ht
    · cases ht
    · rw [List.mem_singleton] at ht
      rw [ht]
theorem trimsT_len (a b : List UInt8) : (trimsT a b).length ≤ 2 := by
  unfold trimsT oneT
  split <;> split <;> simp

theorem trims_split {a b : List UInt8} (h : No2 a 123 123) (he : Lib.hasSuffix a [123] = false) (hb : No2 b 123 123) :
    splitT (a ++ 123 :: 123 :: 45 :: 32 :: 47 :: 42 :: 32 :: 120 :: 32 :: 42 :: 47 :: 32 :: 45 :: 125 :: 125 :: b) 0 false = some (trimsT a b) := by
  have h1 := cut_first (t := 45 :: 32 :: 47 :: 42 :: 32 :: 120 :: 32 :: 42 :: 47 :: 32 :: 45 :: 125 :: 125 :: b) h (fun j hj e => absurd e (noEnd he j hj))
  have h2 : lenG 0 0 (45 :: 32 :: 47 :: 42 :: 32 :: 120 :: 32 :: 42 :: 47 :: 32 :: 45 :: 125 :: 125 :: b) = (11 : Nat) := lenG_plain [45, 32, 47, 42, 32, 120, 32, 42, 47, 32, 45] b 0 (by decide)
  rw [split_more h1 h2]
  have e1 : readA (List.take 11 (45 :: 32 :: 47 :: 42 :: 32 :: 120 :: 32 :: 42 :: 47 :: 32 :: 45 :: 125 :: 125 :: b)) = ([47, 42, 32, 120, 32, 42, 47], true, true) :=
    (by decide : readA [45, 32, 47, 42, 32, 120, 32, 42, 47, 32, 45] = ([47, 42, 32, 120, 32, 42, 47], true, true))
  have e2 : List.drop (11 + 2) (45 :: 32 :: 47 :: 42 :: 32 :: 120 :: 32 :: 42 :: 47 :: 32 :: 45 :: 125 :: 125 :: b) = b := rfl
  rw [e1, e2]
  simp only
  rw [split_last (cut_none hb), left_ft, left_tf]
  have e3 : ∀ n, actT [47, 42, 32, 120, 32, 42, 47] n = [] := fun n => rfl
  rw [e3]
  simp [trimsT]

theorem own_at {base : Nat} {w : World} {al : Option Addr} {c : Nat} {ts : List Tok} (h : OwnT base w (.slice al ts.length c) ts) (k : Nat) (hk : k < ts.length) : ∃ g, al = some ⟨g, 0, none⟩ ∧ ∀ f u, f < 3 → (tokC ts[k]).toList[f]? = some u → w.cell? ⟨g, k * 3 + f, none⟩ = some u := by
  cases ts with
  | nil => cases hk
  | cons t ts =>
    obtain ⟨g, c', e, _, _, hc⟩ := own_cells h
    injection e with e1 e2 e3
    exact ⟨g, e1, fun f u hf hu => hc _ _ ((flatT_get _ k hk f hf).trans hu)⟩

set_option maxRecDepth 100000 in
set_option maxHeartbeats 1000000 in
theorem trimTrims_any (s t : ByteArray) (hs47 : s.size ≤ 140737488355328) (ht47 : t.size ≤ 140737488355328) (m : Int) (w : World) (hm : w.cell? ⟨0, 0, none⟩ = some (.int .i64 m)) (h0 : 0 < w.heap.size) :
    Calls Tryd.prog 4 #[.string s, .string t] w fun e w' => e = .returned (.bool true) ∧ Below w.heap.size w w' := by
  have HM := Lib.hid hm
  clear hm
  by_cases hsz : s.size + t.size ≤ 1000
  · cases hp : Lib.contains s.data.toList [123, 123] with
    | true =>
      have HP := Lib.hid hp
      clear hp
      go_enter Tryd.func4, Tryd.ntmps4
      go_wp2_with (first
        | ((with_reducible refine (mPlain_any s (by omega) m _ HM.out).mono ?_); rintro e w1 ⟨he, rfl⟩; rw [HP.out] at he; subst he)
        | (go_at_call 10; refine (law6awake_any m _ HM.out h0).mono ?_; rintro e w1 ⟨rfl, hb⟩))
      go_ret
      exact ⟨rfl, hb⟩
    | false =>
      have HP := Lib.hid hp
      clear hp
      cases ht : Lib.contains t.data.toList [123, 123] with
      | true =>
        have HT := Lib.hid ht
        clear ht
        go_enter Tryd.func4, Tryd.ntmps4
        go_wp2_with (first
          | ((with_reducible refine (mPlain_any s (by omega) m _ HM.out).mono ?_); rintro e w1 ⟨he, rfl⟩; rw [HP.out] at he; subst he)
          | ((with_reducible refine (mPlain_any t (by omega) m _ HM.out).mono ?_); rintro e w1 ⟨he, rfl⟩; rw [HT.out] at he; subst he)
          | (go_at_call 10; refine (law6awake_any m _ HM.out h0).mono ?_; rintro e w1 ⟨rfl, hb⟩))
        go_ret
        exact ⟨rfl, hb⟩
      | false =>
        have HT := Lib.hid ht
        clear ht
        cases hq : Lib.hasSuffix s.data.toList [123] with
        | true =>
          have HQ := Lib.hid hq
          clear hq
          go_enter Tryd.func4, Tryd.ntmps4
          go_wp2_with (first
            | ((with_reducible refine (mPlain_any s (by omega) m _ HM.out).mono ?_); rintro e w1 ⟨he, rfl⟩; rw [HP.out] at he; subst he)
            | ((with_reducible refine (mPlain_any t (by omega) m _ HM.out).mono ?_); rintro e w1 ⟨he, rfl⟩; rw [HT.out] at he; subst he)
            | (go_at_call 9; refine (Tryd.strings_HasSuffix _ _ _ (by omega)).mono ?_; rintro e w1 ⟨he, rfl⟩; rw [HQ.out] at he; subst he)
            | (go_at_call 10; refine (law6awake_any m _ HM.out h0).mono ?_; rintro e w1 ⟨rfl, hb⟩))
          go_ret
          exact ⟨rfl, hb⟩
        | false =>
          have HQ := Lib.hid hq
          clear hq
          have hq1 : Hid (splitT (s ++ ⟨#[123, 123, 45, 32, 47, 42, 32, 120, 32, 42, 47, 32, 45, 125, 125]⟩ ++ t : ByteArray).data.toList 0 false = some (trimsT s.data.toList t.data.toList)) := by
            show _ = _
            rw [← trims_split (no2_of HP.out) HQ.out (no2_of HT.out)]
            congr 1
            simp [ByteArray.data_append]
          have hz1 : (s ++ ⟨#[123, 123, 45, 32, 47, 42, 32, 120, 32, 42, 47, 32, 45, 125, 125]⟩ ++ t : ByteArray).size ≤ 65536 := by
            have e1 : (⟨#[123, 123, 45, 32, 47, 42, 32, 120, 32, 42, 47, 32, 45, 125, 125]⟩ : ByteArray).size = 15 := rfl
            simp only [ByteArray.size_append]
            omega
          have hlen := trimsT_len s.data.toList t.data.toList
          obtain ⟨ts, hts⟩ : ∃ ts, trimsT s.data.toList t.data.toList = ts := ⟨_, rfl⟩
          have hact := trimsT_plain s.data.toList t.data.toList
          have hcat : (⟨(catS ts).toArray⟩ : ByteArray) = ⟨(Lib.trimRightS s.data.toList [32, 9, 10]).toArray⟩ ++ ⟨(Lib.trimLeftS t.data.toList [32, 9, 10]).toArray⟩ := by
            rw [← hts, catS_trims]
            apply ByteArray.ext
            simp [ByteArray.data_append]
          have hxs : (⟨(Lib.trimRightS s.data.toList [32, 9, 10]).toArray⟩ : ByteArray).size ≤ s.size := by
            rw [Lib.size_eq, Lib.size_eq]
            exact trimRightS_le _ _
          have hys : (⟨(Lib.trimLeftS t.data.toList [32, 9, 10]).toArray⟩ : ByteArray).size ≤ t.size := by
            rw [Lib.size_eq, Lib.size_eq]
            exact trimLeftS_le _ _
          have HLE : Hid (∀ k (h : k < ts.length), (⟨(catS (ts.take k)).toArray⟩ : ByteArray).size + (⟨ts[k].S.toArray⟩ : ByteArray).size ≤ 1000) := fun k h => by
            have h1 := catS_take ts k h
            have h2 : (catS ts).length ≤ s.size + t.size := by
              rw [← hts, catS_trims, List.length_append, Lib.size_eq, Lib.size_eq]
              exact Nat.add_le_add (trimRightS_le _ _) (trimLeftS_le _ _)
            rw [Lib.size_eq, Lib.size_eq]
            simp only
            omega
          rw [hts] at hq1 hlen hact
          clear hts
          have HAC := Lib.hid hact
          have HCAT := Lib.hid hcat
          clear hact hcat
          go_enter Tryd.func4, Tryd.ntmps4
          go_wp2_with (first
            | ((with_reducible refine (mPlain_any s (by omega) m _ HM.out).mono ?_); rintro e w1 ⟨he, rfl⟩; rw [HP.out] at he; subst he)
            | ((with_reducible refine (mPlain_any t (by omega) m _ HM.out).mono ?_); rintro e w1 ⟨he, rfl⟩; rw [HT.out] at he; subst he)
            | (go_at_call 9; refine (Tryd.strings_HasSuffix _ _ _ (by omega)).mono ?_; rintro e w1 ⟨he, rfl⟩; rw [HQ.out] at he; subst he)
            | ((with_reducible refine (msplit_to _ _ hq1.out hz1 m _ HM.out h0).mono ?_); rintro e w2 ⟨v2, he, hb, ho⟩
               obtain ⟨al2, c2, hv2⟩ := row_form ho
               subst hv2 he
               have HB2 := Lib.hid hb
               have HO2 := Lib.hid ho
               have HM2 : Hid (w2.cell? ⟨0, 0, none⟩ = some (.int .i64 m)) := (hb.cell (p := ⟨0, 0, none⟩) h0).trans HM.out
               have h02 : 0 < w2.heap.size := Nat.lt_of_lt_of_le h0 hb.size
               clear hb ho)
            | (go_at_call 12; refine (trimRight_any _ _ (by omega)).mono ?_; rintro e w3 ⟨rfl, hb⟩
               have HB3 := Lib.hid hb
               have HM3 : Hid (w3.cell? ⟨0, 0, none⟩ = some (.int .i64 m)) := (hb.cell (p := ⟨0, 0, none⟩) h02).trans HM2.out
               have h03 : 0 < w3.heap.size := Nat.lt_of_lt_of_le h02 hb.size
               have HO3 : Hid (OwnT w1.heap.size w3 (.slice al2 ts.length c2) ts) := HO2.out.later hb
               clear hb)
            | (go_at_call 13; refine (trimLeft_any _ _).mono ?_; rintro e w4 ⟨rfl, hb⟩
               have HB4 := Lib.hid hb
               have HM4 : Hid (w4.cell? ⟨0, 0, none⟩ = some (.int .i64 m)) := (hb.cell (p := ⟨0, 0, none⟩) h03).trans HM3.out
               have h04 : 0 < w4.heap.size := Nat.lt_of_lt_of_le h03 hb.size
               have HO4 : Hid (OwnT w1.heap.size w4 (.slice al2 ts.length c2) ts) := HO3.out.later hb
               clear hb))
          go_loopw [9, 47] (fun vg vi wr => ∃ k : Nat, k ≤ ts.length ∧ vi = .int .i64 k ∧ vg = .string ⟨(catS (ts.take k)).toArray⟩ ∧ Below w4.heap.size w4 wr) (fun _ vi _ => ts.length - (intOf vi).toNat)
          case atStart => exact ⟨0, Nat.zero_le _, rfl, rfl, Below.refl _ _⟩
          case round =>
            obtain ⟨k, hk, rfl, rfl, hb⟩ := hrel
            have HB5 := Lib.hid hb
            have HO5 : Hid (OwnT w1.heap.size wr (.slice al2 ts.length c2) ts) := HO4.out.later hb
            have HM5 : Hid (wr.cell? ⟨0, 0, none⟩ = some (.int .i64 m)) := (hb.cell (p := ⟨0, 0, none⟩) h04).trans HM4.out
            have h05 : 0 < wr.heap.size := Nat.lt_of_lt_of_le h04 hb.size
            clear hb
            by_cases hkl : k < ts.length
            · obtain ⟨g, hal, hcells⟩ := own_at HO5.out k hkl
              subst hal
              have k0 : wr.cell? ⟨g, k * 3, none⟩ = some (.bool false) := by
                have := hcells 0 (.bool ts[k].act) (by omega) rfl
                rw [HAC.out _ (List.getElem_mem hkl)] at this
                exact this
              have k1 := hcells 1 (.string ⟨ts[k].S.toArray⟩) (by omega) rfl
              have k2 := hcells 2 (.int .i64 ts[k].at') (by omega) rfl
              clear hcells
              have HN : Hid ((⟨(catS (ts.take k)).toArray⟩ : ByteArray) ++ ⟨ts[k].S.toArray⟩ = ⟨(catS (ts.take (k + 1))).toArray⟩) := by
                show _ = _
                rw [List.take_succ_eq_append_getElem hkl, (fun x t => by simp [catS] : ∀ (x : List Tok) t, catS (x ++ [t]) = catS x ++ t.S) (ts.take k) ts[k], app_mk]
              have hszs : (⟨(catS (ts.take k)).toArray⟩ : ByteArray).size + (⟨ts[k].S.toArray⟩ : ByteArray).size ≤ 1000 := HLE.out k hkl
              go_wp2_with fail
              go_roundw
              case rel => exact ⟨k + 1, by omega, by go_num, by rw [HN.out], HB5.out.alloc HB5.out.size _⟩
              case measure => simp [intOf]; omega
            · have hke : Hid ((⟨(catS (ts.take k)).toArray⟩ : ByteArray) = ⟨(Lib.trimRightS s.data.toList [32, 9, 10]).toArray⟩ ++ ⟨(Lib.trimLeftS t.data.toList [32, 9, 10]).toArray⟩) := by
                show _ = _
                rw [List.take_of_length_le (by omega)]
                exact HCAT.out
              obtain ⟨got, hgot⟩ : ∃ got, (⟨(catS (ts.take k)).toArray⟩ : ByteArray) = got := ⟨_, rfl⟩
              have HK : Hid (got = ⟨(Lib.trimRightS s.data.toList [32, 9, 10]).toArray⟩ ++ ⟨(Lib.trimLeftS t.data.toList [32, 9, 10]).toArray⟩) := hgot.symm.trans hke.out
              rw [hgot]
              clear hgot hke
              have HK2 := HK.out
              subst HK2
              go_wp2_with (go_at_call 10; refine (law6awake_any m _ HM5.out h05).mono ?_; rintro e w6 ⟨rfl, hb⟩
                           have HB6 := Lib.hid hb
                           clear hb)
              go_ret
              exact ⟨rfl, HB2.out.trans ((HB3.out.trans ((HB4.out.trans ((HB5.out.trans (HB6.out.mono HB5.out.size)).mono HB4.out.size)).mono HB3.out.size)).mono HB2.out.size)⟩
  · go_enter Tryd.func4, Tryd.ntmps4
    go_wp2_with (first
      | (go_at_call 10; refine (law6awake_any m _ HM.out h0).mono ?_; rintro e w1 ⟨rfl, hb⟩))
    go_ret
    exact ⟨rfl, hb⟩

end Go.Proofs.YtomdkmhaohcofaaDoor
