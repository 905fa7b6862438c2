/-
  The reference's Quoted: does a set's word begin with a quote?
-/
import Derived.Test.YtlniokpekcoodaaGreatDoorSplitSM
import Derived.Test.YtlniokpekcoodaaGreatDoorValSet
import Derived.Test.YtlniokpekcoodaaGreatDoorCPrintM
import Derived.Lib.ItoaLen
import Derived.Test.YtlniokpekcoodaaGreatDoorRCompareM
import Derived.Test.YtlniokpekcoodaaGreatDoorValRight
import Derived.Test.YtlniokpekcoodaaGreatDoorTwoP
set_option linter.unusedVariables false
set_option linter.unusedSimpArgs false
namespace Go.Proofs.YtlniokpekcoodaaGreatDoor
open Go.RowKit

set_option maxRecDepth 100000 in
set_option maxHeartbeats 4000000 in
theorem r11Quoted_any {s p q : ByteArray} {found : Bool} (h : Split s p q found) (hs : s.size ≤ 1000000) (w : World) :
    Calls Tryz.prog 9 #[.string s] w fun e w' => e = .returned (.bool (found && quotedB q.data.toList)) ∧ w' = w := by
  cases found with
  | false =>
    obtain ⟨-, -, hn⟩ := h.none
    have HN := Lib.hid hn
    clear h hn
    go_enter Tryz.func9, Tryz.ntmps9
    go_wp2_with fail
    go_loop [3] (fun vi => ∃ k : Nat, k ≤ s.size ∧ vi = .int .i64 k) (fun vi => s.size - (intOf vi).toNat)
    case atStart => exact ⟨0, Nat.zero_le _, rfl⟩
    case round =>
      obtain ⟨k, hk, rfl⟩ := hrel
      by_cases hkl : k + 1 < s.size
      · have hk1 : k < s.size := by omega
        have hne : ((s[k].toNat : Int) == 61) = false := by
          rw [beq_eq_false_iff_ne]
          exact fun e => HN.out k hk1 (byteIs (by have : (61 : UInt8).toNat = 61 := rfl; omega))
        go_wp2_with fail
        go_round
        case rel => exact ⟨k + 1, by omega, by go_num⟩
        case measure => simp [intOf]; omega
      · go_wp2_with fail
        go_ret
        exact ⟨rfl, rfl⟩
  | true =>
    obtain ⟨hsz, hf1, hf2, hf3, -, -⟩ := h.facts
    have F1 := Lib.hid hf1
    have F2 := Lib.hid hf2
    have F3 := Lib.hid hf3
    obtain ⟨r, hr⟩ : ∃ r, r = (true && quotedB q.data.toList) := ⟨_, rfl⟩
    rw [← hr]
    have HR := Lib.hid hr
    have HSZ := Lib.hid hsz
    have hpz : p.size + 1 ≤ s.size := by omega
    clear h hf1 hf2 hf3 hr hsz
    go_enter Tryz.func9, Tryz.ntmps9
    go_wp2_with fail
    go_loop [3] (fun vi => ∃ k : Nat, k ≤ p.size ∧ vi = .int .i64 k) (fun vi => p.size - (intOf vi).toNat)
    case atStart => exact ⟨0, Nat.zero_le _, rfl⟩
    case round =>
      obtain ⟨k, hk, rfl⟩ := hrel
      by_cases hkl : k + 1 < s.size
      · have hk1 : k < s.size := by omega
        by_cases hkp : k < p.size
        · have hne : ((s[k].toNat : Int) == 61) = false := by
            rw [beq_eq_false_iff_ne]
            exact fun e => F1.out k hk1 hkp (byteIs (by have : (61 : UInt8).toNat = 61 := rfl; omega))
          go_wp2_with fail
          go_round
          case rel => exact ⟨k + 1, by omega, by go_num⟩
          case measure => simp [intOf]; omega
        · obtain rfl : k = p.size := by omega
          have hq0 : 0 < q.size := by have := HSZ.out; omega
          have heq : ((s[p.size].toNat : Int) == 61) = true := by rw [F2.out hk1]; rfl
          have hqe : s[p.size + 1] = q[0] := F3.out 0 hq0 (by omega)
          have HQ : Hid (r = (((q[0].toNat : Int) == 34) || ((q[0].toNat : Int) == 39))) := by
            show _ = _
            rw [HR.out, Bool.true_and, quoted_head q hq0]
          rw [← hqe] at HQ
          clear hqe
          have hk2 : p.size + 1 < s.size := hkl
          cases h34 : ((s[p.size + 1].toNat : Int) == 34) with
          | true =>
            rw [h34] at HQ
            go_wp2_with fail
            go_ret
            exact ⟨by rw [HQ.out]; rfl, rfl⟩
          | false =>
            rw [h34] at HQ
            cases h39 : ((s[p.size + 1].toNat : Int) == 39) with
            | true =>
              rw [h39] at HQ
              go_wp2_with fail
              go_ret
              exact ⟨by rw [HQ.out]; rfl, rfl⟩
            | false =>
              rw [h39] at HQ
              go_wp2_with fail
              go_ret
              exact ⟨by rw [HQ.out]; rfl, rfl⟩
      · have hq0 : q.size = 0 := by have := HSZ.out; omega
        have hr0 : r = false := by
          have : q.data.toList = [] := List.eq_nil_of_length_eq_zero (by rw [← Lib.size_eq]; exact hq0)
          rw [HR.out, this]
          rfl
        have HR0 := Lib.hid hr0
        clear hr0
        go_wp2_with fail
        go_ret
        exact ⟨by rw [HR0.out]; rfl, rfl⟩

end Go.Proofs.YtlniokpekcoodaaGreatDoor

/-
  The example of package values' document, run.
-/
set_option linter.unusedVariables false
set_option linter.unusedSimpArgs false
namespace Go.Proofs.YtlniokpekcoodaaGreatDoor
open Go.RowKit Go.Sort

theorem lies_head {w : World} {R : Nat → Prop} {k : Int} {b : Bool} {n : Int} {s : ByteArray} {l : List T} {m : List (ByteArray × T)} {cs : Array Value} (h : Lies w R (.mk k b n s l m) cs) :
    ∃ (la : Option Addr) (lc : Nat) (ma : Option Addr) (mc : Nat) (cm : Nat → Array Value), cs = #[.int .i64 k, .bool b, .int .i64 n, .string s, .slice la l.length lc, .slice ma m.length mc] ∧ SliceP w R m ma mc cm := by
  cases h with
  | mk k b n s l m la lc ma mc cl cm hk hn hs hl hm rl rm ks il im => exact ⟨_, _, _, _, cm, rfl, hm, rm, ks, im⟩

def strX : T := .mk 3 false 0 ⟨#[120]⟩ [] []
def int1 : T := .mk 2 false 1 ⟨#[]⟩ [] []
def inCx : T := .mk 5 false 0 ⟨#[]⟩ [] [(⟨#[99]⟩, strX)]
def inBx : T := .mk 5 false 0 ⟨#[]⟩ [] [(⟨#[98]⟩, inCx)]
def oneA : T := .mk 5 false 0 ⟨#[]⟩ [] [(⟨#[97]⟩, int1)]
def exT : T := .mk 5 false 0 ⟨#[]⟩ [] [(⟨#[97]⟩, int1), (⟨#[98]⟩, inCx)]
theorem ex_map : T.mkMap [(⟨#[97]⟩, int1)] = oneA := by kernel_rfl
theorem ex_put : putL (stepsD [98, 46, 99]) T.none5 strX = inBx := by kernel_rfl
theorem ex_cut1 : cutB ⟨#[98]⟩ oneA.pairs = [(⟨#[97]⟩, int1)] := by kernel_rfl
theorem ex_cut2 : cutH ⟨#[98]⟩ oneA.pairs = T.nil := by kernel_rfl
theorem ex_cut3 : cutA ⟨#[98]⟩ oneA.pairs = [] := by kernel_rfl
theorem ex_over2 : T.over T.nil inCx = inCx := by
  unfold inCx
  rw [over_map, overR_cons, overR_nil]
  dsimp only
  unfold strX
  rw [over_other _ _ _ _ _ _ (by decide)]
  kernel_rfl
theorem ex_over : T.over oneA inBx = exT := by
  unfold inBx
  rw [over_map, overR_cons, overR_nil]
  dsimp only
  rw [ex_cut1, ex_cut2, ex_cut3, if_neg (show ¬ inCx.kind = 0 by decide), ex_over2]
  rfl
theorem strX_parts : strX.parts = 0 := by rw [strX, T.parts_mk]; kernel_rfl
theorem int1_parts : int1.parts = 0 := by rw [int1, T.parts_mk]; kernel_rfl
theorem inCx_parts : inCx.parts = 0 := by
  rw [inCx, T.parts_mk]
  simp only [List.map_cons, List.map_nil, strX_parts]
  kernel_rfl
theorem exT_parts : exT.parts = 0 := by
  rw [exT, T.parts_mk]
  simp only [List.map_cons, List.map_nil, inCx_parts, int1_parts]
  kernel_rfl
theorem exT_depth : exT.depth = 3 := by simp [exT, inCx, int1, strX, T.depth_mk]
theorem exT_size : exT.size = 4 := by simp [exT, inCx, int1, strX, T.size_mk]
theorem exT_check : exT.check = 0 := by
  rw [T.check, exT_depth, exT_size, exT_parts]
  rfl
theorem ex_set : setR oneA true [98, 46, 99] strX 0 = (exT, 0) := by
  have hp : (parseD [98, 46, 99]).2 = 0 := by kernel_rfl
  rw [setR, if_neg (by simp), if_neg (by rw [hp]; simp), if_neg (by simp), ex_put, ex_over, overC, if_pos exT_check]
theorem oneA_size : oneA.size = 2 := by simp [oneA, int1, T.size_mk]
theorem ex_get : exT.get ⟨#[98]⟩ = some inCx := by kernel_rfl

theorem ex_vSet (w : World) (m : Int) (hm : w.cell? ⟨0, 0, none⟩ = some (.int .i64 m)) (h0 : 0 < w.heap.size) (w1 : World) (R : Nat → Prop) (cs : Array Value) (hb : Below w.heap.size w w1) (h : Lies w1 R oneA cs) :
    Calls Tryz.prog 10 #[.agg cs, .string ⟨#[98, 46, 99, 61, 120]⟩] w1 (SetIn w1 (exT, 0)) := by
  have := vSet_any h (by rw [oneA_size]; omega) w1 (Below.refl _ _) ⟨#[98, 46, 99, 61, 120]⟩ ⟨#[98, 46, 99]⟩ ⟨#[120]⟩ true (by decide) (by unfold CutAt; kernel_rfl) m ((hb.cell (p := ⟨0, 0, none⟩) h0).trans hm) (Nat.lt_of_lt_of_le h0 hb.size)
    3 false 0 ⟨#[120]⟩ 0 (by decide) (by decide) (by decide) (by decide) (fun _ w2 _ => vWord_bare ⟨#[120]⟩ (by kernel_rfl) 3 false 0 ⟨#[120]⟩ 0 w2 (fun w3 _ => cParse_str ⟨#[120]⟩ (by decide) (by kernel_rfl) (by kernel_rfl) w3))
  rw [show setR oneA true (⟨#[98, 46, 99]⟩ : ByteArray).data.toList (.mk 3 false 0 ⟨#[120]⟩ [] []) 0 = (exT, 0) from ex_set] at this
  exact this

set_option maxRecDepth 100000 in
set_option maxHeartbeats 4000000 in
theorem l11awake_any (w : World) (m : Int) (hm : w.cell? ⟨0, 0, none⟩ = some (.int .i64 m)) (h0 : 0 < w.heap.size) : Calls Tryz.prog 8 #[] w fun e w' => e = .returned (.bool true) ∧ Below w.heap.size w w' := by
  have SE := Lib.hid (fun w1 R cs => ex_vSet w m hm h0 w1 R cs)
  have MP : Hid (∀ w1 : World, Calls Tryz.prog 25 #[.slice (some ⟨w1.heap.size, 0, none⟩) 1 1] (w1.alloc (.cells #[.string ⟨#[97]⟩, .int .i64 2, .bool false, .int .i64 1, .string ⟨#[]⟩, .slice none 0 0, .slice none 0 0] 51)) (MadeMap (w1.alloc (.cells #[.string ⟨#[97]⟩, .int .i64 2, .bool false, .int .i64 1, .string ⟨#[]⟩, .slice none 0 0, .slice none 0 0] 51)) [(⟨#[97]⟩, int1)])) := fun w1 =>
    tMap_few (one_pair (base := 0) (leafV w1 2 false 1 ⟨#[]⟩ (by decide) (by decide) (by decide)) ⟨#[97]⟩ (by decide) (fun _ _ => Nat.zero_le _) (Nat.zero_le _)) (by decide) (by decide) _ (Below.refl _ _)
  clear hm
  go_enter Tryz.func8, Tryz.ntmps8
  go_upto_region 2 with (first
    | (go_at_call 26; refine (tInt_any 1 _).mono ?_; rintro e w1 ⟨rfl, hb1⟩; have HB1 := Lib.hid hb1; clear hb1)
    | (go_at_call 25; refine (MP.out w1).mono ?_; rintro e w2 ⟨ds, rfl, hL2, hb2⟩
       rw [ex_map] at hL2
       have HL2 := Lib.hid hL2
       have HB2 := Lib.hid (bstep HB1.out (bunbox hb2 (Nat.le_refl _) (by simp)) HB1.out.size)
       clear hL2 hb2)
    | (go_at_call 10; refine (SE.out w2 _ _ HB2.out HL2.out).mono ?_; rintro e w3 ⟨es, rfl, hL3, hb3⟩
       obtain ⟨la, lc, ma, mc, cm, rfl, -⟩ := lies_head hL3
       have HL3 := Lib.hid hL3
       have HB3 := Lib.hid (bstep HB2.out hb3 HB2.out.size)
       clear hL3 hb3))
  have b3 := Box6.new w3 #[.int .i64 5, .bool false, .int .i64 0, .string ⟨#[]⟩, .slice la 0 lc, .slice ma 2 mc] 25
  have hb4 := HB3.out.alloc HB3.out.size (.cells #[.int .i64 5, .bool false, .int .i64 0, .string ⟨#[]⟩, .slice la 0 lc, .slice ma 2 mc] 25)
  have hl4 := HL3.out.later ((Below.refl w3.heap.size w3).alloc (Nat.le_refl _) (.cells #[.int .i64 5, .bool false, .int .i64 0, .string ⟨#[]⟩, .slice la 0 lc, .slice ma 2 mc] 25))
  have hs4 : w3.heap.size < (w3.alloc (.cells #[.int .i64 5, .bool false, .int .i64 0, .string ⟨#[]⟩, .slice la 0 lc, .slice ma 2 mc] 25)).heap.size := by simp
  generalize w3.alloc (.cells #[.int .i64 5, .bool false, .int .i64 0, .string ⟨#[]⟩, .slice la 0 lc, .slice ma 2 mc] 25) = v4 at b3 hb4 hl4 hs4 ⊢
  have HB4 := Lib.hid hb4
  have B3 := Lib.hid b3
  have HS4 := Lib.hid hs4
  have GE := tGet_any hl4 ⟨#[98]⟩ v4 (Below.refl _ _)
  rw [ex_get] at GE
  have HG := Lib.hid GE
  obtain ⟨x0, x1, x2, x3, x4, x5⟩ := b3.six
  clear b3 hb4 hl4 hs4 GE
  go_upto_region 3 with (go_at_call 27; refine HG.out.mono ?_; rintro e w5 ⟨gs, rfl, hG, hb5⟩; obtain ⟨la', lc', ma', mc', cm', rfl, hP⟩ := lies_head (show Lies w5 _ inCx gs from hG); have HB5 := Lib.hid hb5; have HP := Lib.hid hP; clear hG hb5 hP)
  have b6 := Box6.new w5 #[.int .i64 5, .bool false, .int .i64 0, .string ⟨#[]⟩, .slice la' 0 lc', .slice ma' 1 mc'] 25
  have hb6 := HB5.out.alloc HB5.out.size (.cells #[.int .i64 5, .bool false, .int .i64 0, .string ⟨#[]⟩, .slice la' 0 lc', .slice ma' 1 mc'] 25)
  have hp6 := HP.out.later ((Below.refl w5.heap.size w5).alloc (Nat.le_refl _) (.cells #[.int .i64 5, .bool false, .int .i64 0, .string ⟨#[]⟩, .slice la' 0 lc', .slice ma' 1 mc'] 25))
  generalize w5.alloc (.cells #[.int .i64 5, .bool false, .int .i64 0, .string ⟨#[]⟩, .slice la' 0 lc', .slice ma' 1 mc'] 25) = v6 at b6 hb6 hp6 ⊢
  obtain ⟨y0, y1, y2, y3, y4, y5⟩ := b6.six
  clear x0 x1 x2 x3 x4 x5
  obtain ⟨x0, x1, x2, x3, x4, x5⟩ := (B3.out.later hb6 HS4.out).six
  have HB6 := Lib.hid (bstep HB4.out hb6 HB4.out.size)
  have hcell : ∃ (bl o : Nat), ma' = some ⟨bl, o, none⟩ ∧ v6.cell? ⟨bl, o + 4, none⟩ = some (.string ⟨#[120]⟩) := by
    obtain ⟨bl, o, e, -⟩ := hp6.hdr.some (by simp)
    have hr := hp6.rows 0 (by simp) bl o e
    obtain ⟨la2, lc2, ma2, mc2, cm2, hcm, -⟩ := lies_head (show Lies v6 _ strX (cm' 0) from hp6.each 0 (by simp))
    rw [hcm] at hr
    exact ⟨bl, o, e, (Row.seven hr).2.2.2.2.1⟩
  obtain ⟨bl, o, rfl, hc⟩ := hcell
  clear b6 hb6 hp6
  go_wp2_with fail
  go_ret
  exact ⟨rfl, HB6.out⟩

end Go.Proofs.YtlniokpekcoodaaGreatDoor

/-
  The reference's Digits.
-/
set_option linter.unusedVariables false
set_option linter.unusedSimpArgs false
namespace Go.Proofs.YtlniokpekcoodaaGreatDoor
open Go.RowKit

end Go.Proofs.YtlniokpekcoodaaGreatDoor

/-
  ValuesLast: the law's contract.
-/
set_option linter.unusedVariables false
set_option linter.unusedSimpArgs false
namespace Go.Proofs.YtlniokpekcoodaaGreatDoor
open Go.RowKit

/-- The first words, joined by dots. -/
def joinB (ks : List ByteArray) : Nat → ByteArray
  | 0 => ⟨#[]⟩
  | j + 1 => (if j = 0 then joinB ks j else joinB ks j ++ ⟨#[46]⟩) ++ ks.getD j ⟨#[]⟩
theorem joinD_snoc (a : List UInt8) : ∀ L : List (List UInt8), L ≠ [] → joinD (L ++ [a]) = joinD L ++ 46 :: a
  | [], h => absurd rfl h
  | [b], _ => by rw [List.singleton_append, joinD_cons, joinD_one, joinD_one]
  | b :: c :: r, _ => by
    have := joinD_snoc a (c :: r) (by simp)
    rw [List.cons_append, List.cons_append, joinD_cons, ← List.cons_append, this, joinD_cons]
    simp
theorem getD_at {ks : List ByteArray} {j : Nat} (h : j < ks.length) : ks.getD j ⟨#[]⟩ = ks[j] := by rw [List.getD_eq_getElem?_getD, List.getElem?_eq_getElem h]; rfl
theorem joinB_data (ks : List ByteArray) : ∀ j, j + 1 ≤ ks.length → (joinB ks (j + 1)).data.toList = joinD (datS (ks.take (j + 1)))
  | 0, h => by
    have h0 : 0 < ks.length := h
    rw [joinB, if_pos rfl, joinB, getD_at h0, List.take_succ_eq_append_getElem h0]
    simp [datS, joinD_one, ByteArray.data_append]
  | j + 1, h => by
    have ih := joinB_data ks j (by omega)
    have hj : j + 1 < ks.length := h
    rw [joinB, if_neg (by omega), getD_at hj, List.take_succ_eq_append_getElem hj]
    have hlen : (datS (ks.take (j + 1))).length = j + 1 := by unfold datS; rw [List.length_map, List.length_take]; omega
    have hne : datS (ks.take (j + 1)) ≠ [] := by
      intro e
      rw [e] at hlen
      simp at hlen
    have e : datS (ks.take (j + 1) ++ [ks[j + 1]]) = datS (ks.take (j + 1)) ++ [ks[j + 1].data.toList] := by unfold datS; rw [List.map_append]; rfl
    rw [e, joinD_snoc _ _ hne, ← ih]
    simp [ByteArray.data_append]
theorem joinB_size (ks : List ByteArray) : ∀ j, (∀ i (h : i < ks.length), i < j → ks[i].size ≤ 256) → j ≤ ks.length → (joinB ks j).size ≤ 257 * j
  | 0, _, _ => Nat.le_refl 0
  | j + 1, h, hl => by
    have ih := joinB_size ks j (fun i hi hj => h i hi (by omega)) (by omega)
    have hj := h j (by omega) (by omega)
    rw [joinB, getD_at (by omega)]
    have e1 : (⟨#[46]⟩ : ByteArray).size = 1 := rfl
    split <;> simp only [ByteArray.size_append] <;> omega
theorem joinB_path {ks : List ByteArray} (hw : ∀ i (h : i < ks.length), wordL ks[i].data.toList = true) (h0 : ks ≠ []) (hl : ks.length ≤ 15) : PathOf ks (joinB ks ks.length) := by
  obtain ⟨n, hn⟩ : ∃ n, ks.length = n + 1 := ⟨ks.length - 1, by have := List.length_pos_iff.2 h0; omega⟩
  refine ⟨?_, fun k hk => ?_, h0, hl⟩
  · rw [hn, joinB_data ks n (by omega), List.take_of_length_le (by omega)]
  · obtain ⟨i, hi, rfl⟩ := List.mem_iff_getElem.1 hk
    exact hw i hi

theorem good_sz {t : T} (h : t.good = true) : t.size ≤ 4096 := by
  unfold T.good at h
  simp only [Bool.and_eq_true, decide_eq_true_eq] at h
  have h2 := h.2
  unfold T.check at h2
  by_cases h16 : 16 < t.depth
  · rw [if_pos h16] at h2; omega
  · rw [if_neg h16] at h2
    by_cases h4 : 4096 < t.size
    · rw [if_pos h4] at h2; omega
    · omega
end Go.Proofs.YtlniokpekcoodaaGreatDoor

/-
  The reference's Parse: words that are no numbers.
-/
set_option linter.unusedVariables false
set_option linter.unusedSimpArgs false
namespace Go.Proofs.YtlniokpekcoodaaGreatDoor
open Go.RowKit

theorem ret_held {P : Program} {fn : Func} {R : Ending → World → Prop} {a : Act} {w : World} {p q : Tmp} {ty : TypeId} {d : TypeDesc} (g : Nat) (vs : Array Value) (h : fn.results = #[.cell p ty, .tmp q]) (hdef : a.defers = []) (hp : a.tmps.getD p undef = .pointer (some ⟨g, 0, none⟩))
    (hd : (match d with | .struct _ | .array _ _ => true | _ => false) = true) (hu : P.underlying ty = some d) (hi : (P.info? ty).map (·.size) = some vs.size) (hc : ∀ i (hi : i < vs.size), w.cell? ⟨g, i, none⟩ = some vs[i])
    (hR : R (.returned (.tuple #[.agg vs, a.tmps.getD q undef])) w) : bodyPost P fn R .ret a w := by
  have hp' : a.tmps[p]?.getD undef = .pointer (some ⟨g, 0, none⟩) := by simpa using hp
  refine bodyPost_ret (v := .tuple #[.agg vs, a.tmps.getD q undef]) ?_ hdef hR
  simp [results, h, hp', asAddr, run_loadVar_cells _ g ty vs d hd hu hc (by simpa using hi)]
theorem new_cells (w : World) (cs : Array Value) (t : TypeId) : ∀ i (hi : i < cs.size), (w.alloc (.cells cs t)).cell? ⟨w.heap.size, i, none⟩ = some cs[i] := fun i hi => by
  rw [World.cell?_alloc_new]
  exact Array.getElem?_eq_getElem hi
theorem own_below (w : World) (cs : Array Value) (t : TypeId) : Below w.heap.size w (w.alloc (.cells cs t)) := (Below.refl _ _).alloc (Nat.le_refl _) _
theorem six_size (k : Int) (b : Bool) (n : Int) (s : ByteArray) : (Tryz.prog.info? 25).map (·.size) = some (six k b n s).size := Tryz.sizeV

theorem r4Parse_none (w : World) : Calls Tryz.prog 23 #[.string ⟨#[]⟩] w (ParseTo w (six 0 false 0 ⟨#[]⟩) 0) := by
  obtain ⟨dd, hu, hdd⟩ := Tryz.structV
  have DD := Lib.hid hdd
  have HU := Lib.hid hu
  clear hdd hu
  go_enter Tryz.func23, Tryz.ntmps23
  go_wp2_with fail
  exact ret_held w.heap.size (six 0 false 0 ⟨#[]⟩) Tryz.results23 rfl rfl DD.out HU.out (six_size _ _ _ _) (new_cells w (six 0 false 0 ⟨#[]⟩) 25) ⟨rfl, own_below _ _ _⟩
theorem r4Parse_tilde (w : World) : Calls Tryz.prog 23 #[.string ⟨#[126]⟩] w (ParseTo w (six 0 false 0 ⟨#[]⟩) 0) := by
  obtain ⟨dd, hu, hdd⟩ := Tryz.structV
  have DD := Lib.hid hdd
  have HU := Lib.hid hu
  clear hdd hu
  go_enter Tryz.func23, Tryz.ntmps23
  go_wp2_with fail
  exact ret_held w.heap.size (six 0 false 0 ⟨#[]⟩) Tryz.results23 rfl rfl DD.out HU.out (six_size _ _ _ _) (new_cells w (six 0 false 0 ⟨#[]⟩) 25) ⟨rfl, own_below _ _ _⟩
theorem r4Parse_null (w : World) : Calls Tryz.prog 23 #[.string ⟨#[110, 117, 108, 108]⟩] w (ParseTo w (six 0 false 0 ⟨#[]⟩) 0) := by
  obtain ⟨dd, hu, hdd⟩ := Tryz.structV
  have DD := Lib.hid hdd
  have HU := Lib.hid hu
  clear hdd hu
  go_enter Tryz.func23, Tryz.ntmps23
  go_wp2_with fail
  exact ret_held w.heap.size (six 0 false 0 ⟨#[]⟩) Tryz.results23 rfl rfl DD.out HU.out (six_size _ _ _ _) (new_cells w (six 0 false 0 ⟨#[]⟩) 25) ⟨rfl, own_below _ _ _⟩
theorem r4Parse_true (w : World) : Calls Tryz.prog 23 #[.string ⟨#[116, 114, 117, 101]⟩] w (ParseTo w (six 1 true 0 ⟨#[]⟩) 0) := by
  obtain ⟨dd, hu, hdd⟩ := Tryz.structV
  have DD := Lib.hid hdd
  have HU := Lib.hid hu
  clear hdd hu
  go_enter Tryz.func23, Tryz.ntmps23
  go_wp2_with fail
  exact ret_held w.heap.size (six 1 true 0 ⟨#[]⟩) Tryz.results23 rfl rfl DD.out HU.out (six_size _ _ _ _) (new_cells w (six 1 true 0 ⟨#[]⟩) 25) ⟨rfl, own_below _ _ _⟩
theorem r4Parse_false (w : World) : Calls Tryz.prog 23 #[.string ⟨#[102, 97, 108, 115, 101]⟩] w (ParseTo w (six 1 false 0 ⟨#[]⟩) 0) := by
  obtain ⟨dd, hu, hdd⟩ := Tryz.structV
  have DD := Lib.hid hdd
  have HU := Lib.hid hu
  clear hdd hu
  go_enter Tryz.func23, Tryz.ntmps23
  go_wp2_with fail
  exact ret_held w.heap.size (six 1 false 0 ⟨#[]⟩) Tryz.results23 rfl rfl DD.out HU.out (six_size _ _ _ _) (new_cells w (six 1 false 0 ⟨#[]⟩) 25) ⟨rfl, own_below _ _ _⟩

end Go.Proofs.YtlniokpekcoodaaGreatDoor
