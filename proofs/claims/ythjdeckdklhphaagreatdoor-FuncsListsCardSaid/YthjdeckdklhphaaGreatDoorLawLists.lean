/-
  FuncsLists: the law's contract.
-/
import Derived.Test.YthjdeckdklhphaaGreatDoorFnCalLM
import Derived.Test.YthjdeckdklhphaaGreatDoorSpecsLM
import Derived.Test.YthjdeckdklhphaaGreatDoorTwoP
import Derived.Test.YthjdeckdklhphaaGreatDoorRSame
import Derived.Test.YthjdeckdklhphaaGreatDoorFnLaidM
import Derived.Test.YthjdeckdklhphaaGreatDoorOpenM
set_option linter.unusedVariables false
set_option linter.unusedSimpArgs false
namespace Go.Proofs.YthjdeckdklhphaaGreatDoor
open Go.RowKit Go.Maps

theorem row_box6L {w : World} {g : Nat} {c0 c1 c2 c3 c4 c5 : Value} (h : Row w g 0 #[c0, c1, c2, c3, c4, c5]) : Box6 w g #[c0, c1, c2, c3, c4, c5] := fun j hj => by
  have := h j hj
  rw [Nat.zero_add] at this
  rw [this]
  exact (Array.getElem?_eq_getElem _).symm
theorem lies_setRowL {w : World} {B g : Nat} {t : T} {cs : Array Value} (vs : List Value) (h : Lies w (fun b => B ≤ b ∧ b ≠ g) t cs) : Lies (setRow w g 0 vs) (fun b => B ≤ b) t cs :=
  (h.keep (fun b hb => setRow_heap _ _ _ _ _ hb.2)).weaken fun b hb => hb.1
theorem good_sizeL {t : T} (h : t.good = true) : t.size ≤ 4096 := by
  unfold T.good at h
  simp only [Bool.and_eq_true, decide_eq_true_eq] at h
  have h2 := h.2
  unfold T.check at h2
  by_cases h16 : 16 < t.depth
  · rw [if_pos h16] at h2; omega
  · rw [if_neg h16] at h2
    by_cases h4 : 4096 < t.size
    · rw [if_pos h4] at h2; omega
    · omega
theorem sizes_sumL : ∀ {ts : List T}, (∀ t ∈ ts, t.good = true) → (ts.map T.size).sum ≤ 4096 * ts.length
  | [], _ => Nat.le_refl _
  | t :: r, h => by
    have h1 := good_sizeL (h t List.mem_cons_self)
    have h2 := sizes_sumL fun x hx => h x (List.mem_cons_of_mem _ hx)
    rw [List.map_cons, List.sum_cons, List.length_cons]
    omega
theorem list_sizeL {ts : List T} (h : ts.all T.good = true) (hl : ts.length ≤ 8) : (T.listOf ts).size ≤ 40000 := by
  have := sizes_sumL (List.all_eq_true.1 h)
  rw [T.listOf, T.size_mk]
  simp only [List.map_nil, List.sum_nil]
  omega
/-- The pairs of keys and places; the arguments that they make. -/
def kp (ks : List ByteArray) : List (ByteArray × T) := (List.range ks.length).map fun i => (ks.getD i ⟨#[]⟩, numT i)
theorem kp_len (ks : List ByteArray) : (kp ks).length = ks.length := by simp [kp]
theorem kp_at (ks : List ByteArray) (j : Nat) (h : j < (kp ks).length) : (kp ks)[j] = (ks.getD j ⟨#[]⟩, numT j) := by simp [kp]
theorem kp_key {ks : List ByteArray} {j : Nat} (h : j < ks.length) : ks.getD j ⟨#[]⟩ = ks[j] := by rw [List.getD_eq_getElem?_getD, List.getElem?_eq_getElem h]; rfl
theorem kp_put (ks : List ByteArray) (j : Nat) (h : j < ks.length) : putAll ((kp ks).take (j + 1)) = putR ks[j] (numT j) (putAll ((kp ks).take j)) := by
  have h2 : j < (kp ks).length := by rw [kp_len]; exact h
  rw [putAll_take _ j h2, kp_at, kp_key h]
def argsT (ks : List ByteArray) : Nat → List T
  | 0 => []
  | j + 1 => argsT ks j ++ [keyT (ks.getD j ⟨#[]⟩), numT j]
theorem args_len (ks : List ByteArray) : ∀ j, (argsT ks j).length = 2 * j
  | 0 => rfl
  | j + 1 => by rw [argsT, List.length_append, args_len ks j]; simp; omega
theorem args_at (ks : List ByteArray) : ∀ (n j : Nat), j < n → (argsT ks n)[2 * j]? = some (keyT (ks.getD j ⟨#[]⟩)) ∧ (argsT ks n)[2 * j + 1]? = some (numT j)
  | 0, j, h => absurd h (Nat.not_lt_zero j)
  | n + 1, j, h => by
    have hl := args_len ks n
    rw [argsT]
    by_cases hj : j < n
    · rw [List.getElem?_append_left (by omega), List.getElem?_append_left (by omega)]
      exact args_at ks n j hj
    · obtain rfl : j = n := by omega
      rw [List.getElem?_append_right (by omega), List.getElem?_append_right (by omega), hl]
      simp
theorem lies_numF (w : World) (R : Nat → Prop) (n : Int) (h0 : -9223372036854775808 ≤ n) (h1 : n ≤ 9223372036854775807) : Lies w R (numT n) #[.int .i64 2, .bool false, .int .i64 n, .string ⟨#[]⟩, .slice none 0 0, .slice none 0 0] :=
  .mk 2 false n ⟨#[]⟩ [] [] none 0 none 0 (fun _ => #[]) (fun _ => #[]) (by decide) (WalkArith.wf_i64 ⟨h0, h1⟩) (by decide) ⟨by simp, by simp, fun _ => rfl, fun h => absurd h (by simp), by simp⟩ ⟨by simp, by simp, fun _ => rfl, fun h => absurd h (by simp), by simp⟩
    (fun i h => absurd h (by simp)) (fun i h => absurd h (by simp)) (fun i h => absurd h (by simp)) (fun i h => absurd h (by simp)) (fun i h => absurd h (by simp))
theorem sliceS_laterL {w w' : World} {ks : List ByteArray} {a : Option Addr} {cap : Nat} (h : SliceS w ks a cap) (hb : Below w.heap.size w w') : SliceS w' ks a cap :=
  ⟨h.le, h.big, h.ofNone, h.ofSome, h.max, fun i hi b off e => cells_frame hb (h.cell i hi b off e), h.sizes⟩
theorem kp_take (ks : List ByteArray) : (kp ks).take ks.length = kp ks := List.take_of_length_le (by rw [kp_len]; exact Nat.le_refl _)
theorem dict_args {ks : List ByteArray} {TL : List T} (h : TL = argsT ks ks.length) : TL.length = 2 * (kp ks).length ∧ (∀ j (h : j < (kp ks).length) (h1 : 2 * j < TL.length), TL[2 * j] = keyT (kp ks)[j].1) ∧ (∀ j (h : j < (kp ks).length) (h1 : 2 * j + 1 < TL.length), TL[2 * j + 1] = (kp ks)[j].2) := by
  subst h
  refine ⟨by rw [args_len, kp_len], fun j h h1 => ?_, fun j h h1 => ?_⟩
  · have := (args_at ks ks.length j (by rw [kp_len] at h; exact h)).1
    rw [List.getElem?_eq_getElem h1] at this
    rw [Option.some.inj this, kp_at]
  · have := (args_at ks ks.length j (by rw [kp_len] at h; exact h)).2
    rw [List.getElem?_eq_getElem h1] at this
    rw [Option.some.inj this, kp_at]
theorem dict_right {ks : List ByteArray} (hl : ks.length ≤ 8) (hk : ∀ i (h : i < ks.length), keyB ks[i] = true) : Asc (putAll (kp ks)) ∧ (putAll (kp ks)).length ≤ 8 ∧ (T.mk 5 false 0 ⟨#[]⟩ [] (putAll (kp ks))).check = 0 ∧ (T.mk 5 false 0 ⟨#[]⟩ [] (putAll (kp ks))).size ≤ 100 := by
  have ha : Asc (putAll (kp ks)) := by have := putAll_asc (kp ks) ks.length; rwa [kp_take] at this
  have hle : (putAll (kp ks)).length ≤ ks.length := by have := putAll_len (kp ks) ks.length; rwa [kp_take] at this
  have hq : ∀ q ∈ putAll (kp ks), keyB q.1 = true ∧ ∃ n, q.2 = numT n := fun q hq => by
    have h1 : q ∈ kp ks := putAll_mem ks.length (by rw [kp_take]; exact hq)
    obtain ⟨i, hi, rfl⟩ := List.getElem_of_mem h1
    have hi2 : i < ks.length := by rw [kp_len] at hi; exact hi
    rw [kp_at, kp_key hi2]
    exact ⟨hk i hi2, _, rfl⟩
  refine ⟨ha, by omega, dict_check ha (by omega) hq, ?_⟩
  rw [T.size_mk, sizes_ones fun q hqq => by obtain ⟨n, e⟩ := (hq q hqq).2; rw [e, numT_size]]
  simp
  omega
theorem both_find {D : DataW Unit} {m : Prs} (h : Both D m) {x : ByteArray} {c : Int} (hat : ∀ zd, D.atKey (.string x.data.toList) zd = .lit (.int .i64 c)) : ((T.mk 5 false 0 ⟨#[]⟩ [] m).get x).getD T.nil = numT c := by
  have hf : findR x m = some (numT c) := by
    rcases h.each x with ⟨c', h1, h2⟩ | ⟨h1, _⟩
    · have e := (h1 (.map [])).symm.trans (hat (.map []))
      injection e with e
      injection e with _ e
      rw [h2, e]
    · have e := (atKey_of_not_has h1 (.map [])).symm.trans (hat (.map []))
      cases e
  rw [T.get_find]
  show (findR x m).getD T.nil = _
  rw [hf]
  rfl
theorem lawSI : Keyed Tryz.prog 9 := string_keyed Tryz.underlying9
theorem good_strL {t : T} (h : t.good = true) : t.str.size ≤ 65536 := by
  obtain ⟨k, b, n, s, l, m⟩ := t
  have hp := good_parts h
  rw [T.parts_mk] at hp
  by_cases h1 : kindBad k b n s.toList.isEmpty l.length m.length = true
  · rw [if_pos h1] at hp; cases hp
  · rw [if_neg h1] at hp
    by_cases h2 : textB s = false
    · rw [if_pos h2] at hp; cases hp
    · have h3 : textB s = true := by simpa using h2
      unfold textB at h3
      simp only [Bool.and_eq_true, decide_eq_true_eq] at h3
      exact h3.1
theorem isT_self {ts : List T} (j : Nat) (h : j < ts.length) : ts.any (isT ts[j]) = true := List.any_eq_true.2 ⟨ts[j], List.getElem_mem h, by unfold isT; rw [(T.ord ts[j]).refl]; rfl⟩

set_option maxRecDepth 100000 in
set_option maxHeartbeats 16000000 in
theorem funcsLists_any {w : World} {R : Nat → Prop} {ts : List T} {a : Option Addr} {cap : Nat} {cl : Nat → Array Value} {ks : List ByteArray} {sa : Option Addr} {sc : Nat} (h : SliceV w R ts a cap cl) (hS : SliceS w ks sa sc) (hF : FnTab w) :
    Calls Tryz.prog 3 #[.slice a ts.length cap, .slice sa ks.length sc] w fun e w' => e = .returned (.bool true) ∧ Below w.heap.size w w' := by
  have FT : Hid (∀ w1, Below w.heap.size w w1 → FnTab w1) := fun w1 hb => hF.later hb
  have AW : Hid (∀ w1, Below w.heap.size w w1 → Calls Tryz.prog 5 #[] w1 fun e w' => e = .returned (.bool true) ∧ Below w1.heap.size w1 w') := fun w1 hb => l8awake_any w1 (hF.later hb)
  have RG := Lib.hid (fun w1 hb => right_any h w1 hb)
  have hl := h.hdr
  have hle := hl.le
  have hbig := hl.big
  have hkle := hS.le
  have hkbig := hS.big
  have H := Lib.hid h
  have HS := Lib.hid hS
  clear h hS hF hl
  by_cases hl0 : ts.length = 0
  case pos =>
    have g1 : ((ts.length : Int) == 0) = true := by rw [hl0]; rfl
    go_enter Tryz.func3, Tryz.ntmps3
    go_wp2_with (go_at_call 5; refine (AW.out _ (Below.refl _ _)).mono ?_; rintro e w2 ⟨rfl, hb2⟩)
    go_ret
    exact ⟨rfl, hb2⟩
  have g1 : ((ts.length : Int) == 0) = false := by rw [beq_eq_false_iff_ne]; omega
  by_cases hl8 : ts.length ≤ 8
  case neg =>
    have g2 : decide ((8 : Int) < (ts.length : Int)) = true := decide_eq_true (by omega)
    have g3 : ((ts.length : Int) > 8) := by omega
    go_enter Tryz.func3, Tryz.ntmps3
    go_wp2_with (go_at_call 5; refine (AW.out _ (Below.refl _ _)).mono ?_; rintro e w2 ⟨rfl, hb2⟩)
    go_ret
    exact ⟨rfl, hb2⟩
  have g2 : decide ((8 : Int) < (ts.length : Int)) = false := decide_eq_false (by omega)
  have g3 : ¬ ((ts.length : Int) > 8) := by omega
  obtain ⟨gb, hgb⟩ : ∃ gb, gb = ts.all T.good := ⟨_, rfl⟩
  rw [← hgb] at RG
  cases gb with
  | false =>
    clear hgb
    go_enter Tryz.func3, Tryz.ntmps3
    go_wp2_with (first
      | (go_at_call 4; refine (RG.out _ (Below.refl _ _)).mono ?_; rintro e u1 ⟨rfl, hb⟩; have HB2 := Lib.hid hb; clear hb)
      | (go_at_call 5; refine (AW.out _ HB2.out).mono ?_; rintro e w2 ⟨rfl, hb2⟩))
    go_ret
    exact ⟨rfl, bstep HB2.out hb2 HB2.out.size⟩
  | true =>
  by_cases hk8 : ks.length ≤ 8
  case neg =>
    have g4 : decide ((8 : Int) < (ks.length : Int)) = true := decide_eq_true (by omega)
    have g5 : ((ks.length : Int) > 8) := by omega
    clear hgb
    go_enter Tryz.func3, Tryz.ntmps3
    go_wp2_with (first
      | (go_at_call 4; refine (RG.out _ (Below.refl _ _)).mono ?_; rintro e u1 ⟨rfl, hb⟩; have HB2 := Lib.hid hb; clear hb)
      | (go_at_call 5; refine (AW.out _ HB2.out).mono ?_; rintro e w2 ⟨rfl, hb2⟩))
    go_ret
    exact ⟨rfl, bstep HB2.out hb2 HB2.out.size⟩
  have g4 : decide ((8 : Int) < (ks.length : Int)) = false := decide_eq_false (by omega)
  have g5 : ¬ ((ks.length : Int) > 8) := by omega
  have hlz := list_sizeL hgb.symm hl8
  have CL := Lib.hid (fun w1 hb => call_list H.out (by omega) (by omega) w1 hb (FT.out w1 hb))
  have hchk : (T.listOf ts).check = 0 ∨ (T.listOf ts).check = 5 ∨ (T.listOf ts).check = 6 := list_check hgb.symm
  have HGB := Lib.hid hgb
  clear hgb hlz
  rcases hchk with hc | hc
  case inr =>
    rcases hc with hc | hc
    · rw [hc] at CL
      clear hc
      go_enter Tryz.func3, Tryz.ntmps3
      go_wp2_with (first
        | (go_at_call 4; refine (RG.out _ (Below.refl _ _)).mono ?_; rintro e u1 ⟨rfl, hb⟩; have HB2 := Lib.hid hb; clear hb)
        | (go_at_call 6; refine (CL.out _ HB2.out).mono ?_; rintro e w3 ⟨ds, rfl, hl, hb⟩; have hl2 : ds = zeroV := (hl.resolve_left (fun h => absurd h.1 (by decide))).2; subst hl2; have HBA := Lib.hid ((bstep HB2.out hb HB2.out.size).alloc (bstep HB2.out hb HB2.out.size).size (.cells zeroV 28)); clear hb hl)
        | (go_at_call 5; refine (AW.out _ (HBA.out)).mono ?_; rintro e w2 ⟨rfl, hb2⟩))
      go_ret
      exact ⟨rfl, bstep HBA.out hb2 HBA.out.size⟩
    · rw [hc] at CL
      clear hc
      go_enter Tryz.func3, Tryz.ntmps3
      go_wp2_with (first
        | (go_at_call 4; refine (RG.out _ (Below.refl _ _)).mono ?_; rintro e u1 ⟨rfl, hb⟩; have HB2 := Lib.hid hb; clear hb)
        | (go_at_call 6; refine (CL.out _ HB2.out).mono ?_; rintro e w3 ⟨ds, rfl, hl, hb⟩; have hl2 : ds = zeroV := (hl.resolve_left (fun h => absurd h.1 (by decide))).2; subst hl2; have HBA := Lib.hid ((bstep HB2.out hb HB2.out.size).alloc (bstep HB2.out hb HB2.out.size).size (.cells zeroV 28)); clear hb hl)
        | (go_at_call 5; refine (AW.out _ (HBA.out)).mono ?_; rintro e w2 ⟨rfl, hb2⟩))
      go_ret
      exact ⟨rfl, bstep HBA.out hb2 HBA.out.size⟩
  rw [hc] at CL
  clear hc
  go_enter Tryz.func3, Tryz.ntmps3
  go_upto_region 3 with (go_at_call 4; refine (RG.out _ (Below.refl _ _)).mono ?_; rintro e u1 ⟨rfl, hb⟩; have HB2 := Lib.hid hb; clear hb)
  go_upto_region 6 with (go_at_call 6; refine (CL.out _ HB2.out).mono ?_; rintro e w3 ⟨ds, rfl, hl, hb⟩; have hl2 : Lies w3 (fun b => u1.heap.size < b) (T.listOf ts) ds := (hl.resolve_right (fun h => h.1 rfl)).2; obtain ⟨c0, c1, c2, c3, c4, c4l, c4c, c5, c5l, c5c, rfl⟩ := hl2.six; have HL3 := Lib.hid hl2; clear hl2; have HB3 := Lib.hid hb; clear hb hl)
  have b3 := Box6.new w3 #[.int .i64 c0, .bool c1, .int .i64 c2, .string c3, .slice c4 c4l c4c, .slice c5 c5l c5c] 28
  have hb3 := HB3.out.alloc HB3.out.size (.cells #[.int .i64 c0, .bool c1, .int .i64 c2, .string c3, .slice c4 c4l c4c, .slice c5 c5l c5c] 28)
  have hl3 := HL3.out.later ((Below.refl w3.heap.size w3).alloc (Nat.le_refl _) (.cells #[.int .i64 c0, .bool c1, .int .i64 c2, .string c3, .slice c4 c4l c4c, .slice c5 c5l c5c] 28))
  have hs3 : w3.heap.size < (w3.alloc (.cells #[.int .i64 c0, .bool c1, .int .i64 c2, .string c3, .slice c4 c4l c4c, .slice c5 c5l c5c] 28)).heap.size := by simp
  generalize w3.alloc (.cells #[.int .i64 c0, .bool c1, .int .i64 c2, .string c3, .slice c4 c4l c4c, .slice c5 c5l c5c] 28) = v3 at b3 hb3 hl3 hs3 ⊢
  have BX5 := Lib.hid b3
  have HL5 := Lib.hid hl3
  have HS5 := Lib.hid hs3
  have HV3 := Lib.hid (bstep HB2.out hb3 HB2.out.size)
  clear b3 hb3 hl3 hs3 HB3 HL3
  obtain ⟨x0, x1, x2, x3, x4, x5⟩ := BX5.out.six
  go_upto_region 7 with (go_at_call 6; refine (call_len HL5.out _ _ (FT.out _ (HV3.out.alloc HV3.out.size _)) (Box6.new _ _ _) (by simp)).mono ?_; rintro e w4 ⟨rfl, hb⟩; have HB4 := Lib.hid (bunbox hb (Nat.le_refl _) (by simp)); clear hb)
  have b4 := Box6.new w4 #[.int .i64 2, .bool false, .int .i64 (ts.length : Int), .string ⟨#[]⟩, .slice none 0 0, .slice none 0 0] 28
  have hb4 := HB4.out.alloc HB4.out.size (.cells #[.int .i64 2, .bool false, .int .i64 (ts.length : Int), .string ⟨#[]⟩, .slice none 0 0, .slice none 0 0] 28)
  generalize w4.alloc (.cells #[.int .i64 2, .bool false, .int .i64 (ts.length : Int), .string ⟨#[]⟩, .slice none 0 0, .slice none 0 0] 28) = v4 at b4 hb4 ⊢
  obtain ⟨y0, y1, y2, y3, y4, y5⟩ := b4.six
  have HB4' := Lib.hid hb4
  have HV4 := Lib.hid (bstep HV3.out hb4 HV3.out.size)
  have BX5b := Lib.hid (BX5.out.later hb4 HS5.out)
  have hs4 := Nat.lt_of_lt_of_le HS5.out hb4.size
  have HS5b := Lib.hid hs4
  have HL5b := Lib.hid (HL5.out.later hb4)
  have hnn : ((ts.length : Int) != (ts.length : Int)) = false := by simp
  clear b4 hb4 hs4 x0 x1 x2 x3 x4 x5
  go_wp2_with fail
  go_loopw [79] (fun vi wr => ∃ j : Nat, j ≤ ts.length ∧ vi = .int .i64 j ∧ Below v4.heap.size v4 wr) (fun vi _ => ts.length - (intOf vi).toNat)
  case atStart => exact ⟨0, Nat.zero_le _, rfl, Below.refl _ _⟩
  case round =>
    clear y0 y1 y2 y3 y4 y5
    obtain ⟨j, hj, rfl, hbr⟩ := hrel
    have HBR := Lib.hid hbr
    have hwr := bstep HV4.out hbr HV4.out.size
    have HWR := Lib.hid hwr
    clear hbr
    by_cases hjl : j < ts.length
    · have HE := Lib.hid (H.out.each j hjl)
      have hj2 : decide ((j : Int) < (ts.length : Int)) = true := decide_eq_true (by omega)
      obtain ⟨bl, ol, e0, e1, e2, e3, e4, e4l, e4c, e5, e5l, e5c, rfl, hcl, r0, r1, r2, r3, r4, r5⟩ := openL hwr H.out.hdr H.out.rows hjl (H.out.each j hjl)
      rw [hcl] at HE
      clear hcl hwr
      have GS := Lib.hid (good_strL (List.all_eq_true.1 HGB.out.symm ts[j] (List.getElem_mem hjl)))
      have ANY := Lib.hid (isT_self j hjl)
      obtain ⟨xj, hxj⟩ : ∃ xj, xj = ts[j] := ⟨_, rfl⟩
      have GETL : Hid (∀ (v5 wb : World) (sb : Nat), Below v4.heap.size v4 v5 → Below v5.heap.size v5 wb → TwoV wb sb (.int .i64 c0) (.bool c1) (.int .i64 c2) (.string c3) (.slice c4 c4l c4c) (.slice c5 c5l c5c) (.int .i64 2) (.bool false) (.int .i64 (j : Int)) (.string ⟨#[]⟩) (.slice none 0 0) (.slice none 0 0) → Calls Tryz.prog 6 #[.string ⟨#[103, 101, 116]⟩, .slice (some ⟨sb, 0, none⟩) 2 2] wb (CallE wb 0 xj)) := fun v5 wb sb h5 hb hT => by
        rw [hxj]
        have hb5 := bstep h5 hb h5.size
        exact call_getL HL5b.out j hjl GS.out sb wb hb5 (FT.out _ (bstep HV4.out hb5 HV4.out.size)) hT
      have HASL : Hid (∀ (wb : World) (sb : Nat), Below v4.heap.size v4 wb → TwoV wb sb (.int .i64 e0) (.bool e1) (.int .i64 e2) (.string e3) (.slice e4 e4l e4c) (.slice e5 e5l e5c) (.int .i64 c0) (.bool c1) (.int .i64 c2) (.string c3) (.slice c4 c4l c4c) (.slice c5 c5l c5c) → Calls Tryz.prog 6 #[.string ⟨#[104, 97, 115]⟩, .slice (some ⟨sb, 0, none⟩) 2 2] wb fun e w' => e = .returned (.tuple #[.agg #[.int .i64 1, .bool true, .int .i64 0, .string ⟨#[]⟩, .slice none 0 0, .slice none 0 0], .int .i64 0]) ∧ Below wb.heap.size wb w') := fun wb sb hb hT => by
        have := call_has (HL5b.out.later hb) (HE.out.later (bstep HV4.out hb HV4.out.size)) sb wb (Below.refl _ _) (FT.out _ (bstep HV4.out hb HV4.out.size)) hT
        rw [ANY.out] at this
        exact this
      rw [← hxj] at HE
      clear hxj ANY GS
      go_upto_region 12 with fail
      have b10 := Box6.new wr #[.int .i64 e0, .bool e1, .int .i64 e2, .string e3, .slice e4 e4l e4c, .slice e5 e5l e5c] 28
      have hb10 := HBR.out.alloc HBR.out.size (.cells #[.int .i64 e0, .bool e1, .int .i64 e2, .string e3, .slice e4 e4l e4c, .slice e5 e5l e5c] 28)
      have hs10 : wr.heap.size < (wr.alloc (.cells #[.int .i64 e0, .bool e1, .int .i64 e2, .string e3, .slice e4 e4l e4c, .slice e5 e5l e5c] 28)).heap.size := by simp
      generalize wr.alloc (.cells #[.int .i64 e0, .bool e1, .int .i64 e2, .string e3, .slice e4 e4l e4c, .slice e5 e5l e5c] 28) = v5 at b10 hb10 hs10 ⊢
      have B10 := Lib.hid b10
      have HV5 := Lib.hid hb10
      have HS10 := Lib.hid hs10
      clear b10 hb10 hs10 r0 r1 r2 r3 r4 r5
      obtain ⟨x0, x1, x2, x3, x4, x5⟩ := (BX5b.out.later HV5.out HS5b.out).six
      have CG : Hid (∀ (wb : World) (sb : Nat), Below v5.heap.size v5 wb → TwoV wb sb (.int .i64 c0) (.bool c1) (.int .i64 c2) (.string c3) (.slice c4 c4l c4c) (.slice c5 c5l c5c) (.int .i64 2) (.bool false) (.int .i64 (j : Int)) (.string ⟨#[]⟩) (.slice none 0 0) (.slice none 0 0) → Calls Tryz.prog 6 #[.string ⟨#[103, 101, 116]⟩, .slice (some ⟨sb, 0, none⟩) 2 2] wb (CallE wb 0 xj)) := fun wb sb hb hT => GETL.out v5 wb sb HV5.out hb hT
      refine wp_region_specsN v5 9 8 (fun i => match i with | 0 => 85 | 1 => 86 | 2 => 87 | 3 => 88 | 4 => 89 | 5 => 84 | 6 => 90 | 7 => 91 | 8 => 11 | 9 => 12 | _ => 0) (fun i => decide (i = 7)) (fun i x wx => match i with | 0 => x = .agg #[.int .i64 c0, .bool c1, .int .i64 c2, .string c3, .slice c4 c4l c4c, .slice c5 c5l c5c] | 1 => x = .int .i64 j | 2 => x = .agg #[.int .i64 2, .bool false, .int .i64 j, .string ⟨#[]⟩, .slice none 0 0, .slice none 0 0] | 7 => x = .int .i64 0 | 3 => ∃ sb : Nat, x = .slice (some ⟨sb, 0, none⟩) 2 2 ∧ TwoV wx sb (.int .i64 c0) (.bool c1) (.int .i64 c2) (.string c3) (.slice c4 c4l c4c) (.slice c5 c5l c5c) (.int .i64 2) (.bool false) (.int .i64 (j : Int)) (.string ⟨#[]⟩) (.slice none 0 0) (.slice none 0 0) | 4 => ∃ (f0 : Int) (f1 : Bool) (f2 : Int) (f3 : ByteArray) (f4 : Option Addr) (f4l f4c : Nat) (f5 : Option Addr) (f5l f5c : Nat), x = .tuple #[.agg #[.int .i64 f0, .bool f1, .int .i64 f2, .string f3, .slice f4 f4l f4c, .slice f5 f5l f5c], .int .i64 0] ∧ Lies wx (fun b => v5.heap.size ≤ b) xj #[.int .i64 f0, .bool f1, .int .i64 f2, .string f3, .slice f4 f4l f4c, .slice f5 f5l f5c] | 5 => ∃ (f0 : Int) (f1 : Bool) (f2 : Int) (f3 : ByteArray) (f4 : Option Addr) (f4l f4c : Nat) (f5 : Option Addr) (f5l f5c : Nat), x = .tuple #[.agg #[.int .i64 f0, .bool f1, .int .i64 f2, .string f3, .slice f4 f4l f4c, .slice f5 f5l f5c], .int .i64 0] ∧ Lies wx (fun b => v5.heap.size ≤ b) xj #[.int .i64 f0, .bool f1, .int .i64 f2, .string f3, .slice f4 f4l f4c, .slice f5 f5l f5c] | 6 => ∃ (f0 : Int) (f1 : Bool) (f2 : Int) (f3 : ByteArray) (f4 : Option Addr) (f4l f4c : Nat) (f5 : Option Addr) (f5l f5c : Nat), x = .agg #[.int .i64 f0, .bool f1, .int .i64 f2, .string f3, .slice f4 f4l f4c, .slice f5 f5l f5c] ∧ Lies wx (fun b => v5.heap.size ≤ b) xj #[.int .i64 f0, .bool f1, .int .i64 f2, .string f3, .slice f4 f4l f4c, .slice f5 f5l f5c] | 8 => ∃ g : Nat, x = .pointer (some ⟨g, 0, none⟩) ∧ ZB wx g ∧ v5.heap.size ≤ g | _ => True) (fun i x yv wx => match i with | 4 => ∀ g, yv = .pointer (some ⟨g, 0, none⟩) → ∃ (f0 : Int) (f1 : Bool) (f2 : Int) (f3 : ByteArray) (f4 : Option Addr) (f4l f4c : Nat) (f5 : Option Addr) (f5l f5c : Nat), x = .tuple #[.agg #[.int .i64 f0, .bool f1, .int .i64 f2, .string f3, .slice f4 f4l f4c, .slice f5 f5l f5c], .int .i64 0] ∧ Lies wx (fun b => v5.heap.size ≤ b ∧ b ≠ g) xj #[.int .i64 f0, .bool f1, .int .i64 f2, .string f3, .slice f4 f4l f4c, .slice f5 f5l f5c] | 5 => ∀ g, yv = .pointer (some ⟨g, 0, none⟩) → ∃ (f0 : Int) (f1 : Bool) (f2 : Int) (f3 : ByteArray) (f4 : Option Addr) (f4l f4c : Nat) (f5 : Option Addr) (f5l f5c : Nat), x = .tuple #[.agg #[.int .i64 f0, .bool f1, .int .i64 f2, .string f3, .slice f4 f4l f4c, .slice f5 f5l f5c], .int .i64 0] ∧ Lies wx (fun b => v5.heap.size ≤ b ∧ b ≠ g) xj #[.int .i64 f0, .bool f1, .int .i64 f2, .string f3, .slice f4 f4l f4c, .slice f5 f5l f5c] | 6 => ∀ g, yv = .pointer (some ⟨g, 0, none⟩) → ∃ (f0 : Int) (f1 : Bool) (f2 : Int) (f3 : ByteArray) (f4 : Option Addr) (f4l f4c : Nat) (f5 : Option Addr) (f5l f5c : Nat), x = .agg #[.int .i64 f0, .bool f1, .int .i64 f2, .string f3, .slice f4 f4l f4c, .slice f5 f5l f5c] ∧ Lies wx (fun b => v5.heap.size ≤ b ∧ b ≠ g) xj #[.int .i64 f0, .bool f1, .int .i64 f2, .string f3, .slice f4 f4l f4c, .slice f5 f5l f5c] | _ => True) (fun i x => match i with | 0 => x = .agg #[.int .i64 c0, .bool c1, .int .i64 c2, .string c3, .slice c4 c4l c4c, .slice c5 c5l c5c] | 1 => x = .int .i64 j | 2 => x = .agg #[.int .i64 2, .bool false, .int .i64 j, .string ⟨#[]⟩, .slice none 0 0, .slice none 0 0] | 7 => x = .int .i64 0 | 4 => ∃ (f0 : Int) (f1 : Bool) (f2 : Int) (f3 : ByteArray) (f4 : Option Addr) (f4l f4c : Nat) (f5 : Option Addr) (f5l f5c : Nat), x = .tuple #[.agg #[.int .i64 f0, .bool f1, .int .i64 f2, .string f3, .slice f4 f4l f4c, .slice f5 f5l f5c], .int .i64 0] | 5 => ∃ (f0 : Int) (f1 : Bool) (f2 : Int) (f3 : ByteArray) (f4 : Option Addr) (f4l f4c : Nat) (f5 : Option Addr) (f5l f5c : Nat), x = .tuple #[.agg #[.int .i64 f0, .bool f1, .int .i64 f2, .string f3, .slice f4 f4l f4c, .slice f5 f5l f5c], .int .i64 0] | 6 => ∃ (f0 : Int) (f1 : Bool) (f2 : Int) (f3 : ByteArray) (f4 : Option Addr) (f4l f4c : Nat) (f5 : Option Addr) (f5l f5c : Nat), x = .agg #[.int .i64 f0, .bool f1, .int .i64 f2, .string f3, .slice f4 f4l f4c, .slice f5 f5l f5c] | 8 => ∃ g : Nat, x = .pointer (some ⟨g, 0, none⟩) ∧ v5.heap.size ≤ g | 9 => x = .int .i64 0 | _ => True) (fun x wx => ∃ (g : Nat) (f0 : Int) (f1 : Bool) (f2 : Int) (f3 : ByteArray) (f4 : Option Addr) (f4l f4c : Nat) (f5 : Option Addr) (f5l f5c : Nat), x = .pointer (some ⟨g, 0, none⟩) ∧ Hid (Box6 wx g #[.int .i64 f0, .bool f1, .int .i64 f2, .string f3, .slice f4 f4l f4c, .slice f5 f5l f5c]) ∧ Hid (Lies wx (fun b => v5.heap.size ≤ b) xj #[.int .i64 f0, .bool f1, .int .i64 f2, .string f3, .slice f4 f4l f4c, .slice f5 f5l f5c]) ∧ v5.heap.size ≤ g ∧ g < wx.heap.size ∧ Below v5.heap.size v5 wx) (by kernel_rfl) (by kernel_rfl) ?s1 (by decide) (by decide) (Below.refl _ _) ?s2 ?n1 ?n2 (fun _ _ _ => trivial) ?s3 ?s4 ?s5 ?s6 ?s7 ?s8 ?s9
      case n1 =>
        intro i x y w1 w2 hi hb hN
        match i, hN with
        | 4, h => exact fun g e => by obtain ⟨f0, f1, f2, f3, f4, f4l, f4c, f5, f5l, f5c, e2, hl⟩ := h g e; exact ⟨f0, f1, f2, f3, f4, f4l, f4c, f5, f5l, f5c, e2, hl.later hb⟩
        | 5, h => exact fun g e => by obtain ⟨f0, f1, f2, f3, f4, f4l, f4c, f5, f5l, f5c, e2, hl⟩ := h g e; exact ⟨f0, f1, f2, f3, f4, f4l, f4c, f5, f5l, f5c, e2, hl.later hb⟩
        | 6, h => exact fun g e => by obtain ⟨f0, f1, f2, f3, f4, f4l, f4c, f5, f5l, f5c, e2, hl⟩ := h g e; exact ⟨f0, f1, f2, f3, f4, f4l, f4c, f5, f5l, f5c, e2, hl.later hb⟩
        | 0, _ | 1, _ | 2, _ | 3, _ | 7, _ | 8, _ => trivial
        | (k + 9), _ => trivial
      case n2 =>
        intro i x y w1 hL
        obtain rfl : i = 7 := of_decide_eq_true hL
        trivial
      case s1 => intro i hi; rcases (by omega : i = 0 ∨ i = 1 ∨ i = 2 ∨ i = 3 ∨ i = 4 ∨ i = 5 ∨ i = 6 ∨ i = 7 ∨ i = 8 ∨ i = 9) with rfl | rfl | rfl | rfl | rfl | rfl | rfl | rfl | rfl | rfl <;> exact Nat.lt_of_lt_of_le (by decide : _ < 197) (Nat.le_refl 197)
      case s2 =>
        intro i x w1 w2 hb hU
        match i, hU with
        | 3, ⟨sb, e, hT⟩ => exact ⟨sb, e, hT.later hb⟩
        | 4, ⟨f0, f1, f2, f3, f4, f4l, f4c, f5, f5l, f5c, e, hl⟩ => exact ⟨f0, f1, f2, f3, f4, f4l, f4c, f5, f5l, f5c, e, hl.later hb⟩
        | 5, ⟨f0, f1, f2, f3, f4, f4l, f4c, f5, f5l, f5c, e, hl⟩ => exact ⟨f0, f1, f2, f3, f4, f4l, f4c, f5, f5l, f5c, e, hl.later hb⟩
        | 6, ⟨f0, f1, f2, f3, f4, f4l, f4c, f5, f5l, f5c, e, hl⟩ => exact ⟨f0, f1, f2, f3, f4, f4l, f4c, f5, f5l, f5c, e, hl.later hb⟩
        | 8, ⟨g, e, hz, hg⟩ => exact ⟨g, e, hz.later hb, hg⟩
        | 0, h | 1, h | 2, h | 7, h => exact h
        | (k + 9), _ => trivial
      case s3 =>
        intro i x w1 hi hU
        match i, hU with
        | 3, _ => trivial
        | 4, ⟨f0, f1, f2, f3, f4, f4l, f4c, f5, f5l, f5c, e, hl⟩ => exact ⟨f0, f1, f2, f3, f4, f4l, f4c, f5, f5l, f5c, e⟩
        | 5, ⟨f0, f1, f2, f3, f4, f4l, f4c, f5, f5l, f5c, e, hl⟩ => exact ⟨f0, f1, f2, f3, f4, f4l, f4c, f5, f5l, f5c, e⟩
        | 6, ⟨f0, f1, f2, f3, f4, f4l, f4c, f5, f5l, f5c, e, hl⟩ => exact ⟨f0, f1, f2, f3, f4, f4l, f4c, f5, f5l, f5c, e⟩
        | 8, ⟨g, e, hz, hg⟩ => exact ⟨g, e, hg⟩
        | 0, h | 1, h | 2, h | 7, h => exact h
        | (k + 9), _ => omega
      case s4 =>
        intro i x w1 hi hL hU
        obtain rfl : i = 7 := of_decide_eq_true hL
        exact hU
      case s5 =>
        intro i o ac wb K' ho hi hL hA hB hdep hK
        have sv5 : ac.tmps[5]?.getD undef = .pointer (some ⟨w3.heap.size, 0, none⟩) := hA.sl (t := 5) (by decide)
        have sv9 : ac.tmps[9]?.getD undef = .int .i64 j := hA.sl (t := 9) (by decide)
        have x0 := cells_frame hB x0
        have x1 := cells_frame hB x1
        have x2 := cells_frame hB x2
        have x3 := cells_frame hB x3
        have x4 := cells_frame hB x4
        have x5 := cells_frame hB x5
        have hL : i ≠ 7 := of_decide_eq_false hL
        rcases (by omega : i = 0 ∨ i = 1 ∨ i = 2 ∨ i = 3 ∨ i = 4 ∨ i = 5 ∨ i = 6 ∨ i = 8) with rfl | rfl | rfl | rfl | rfl | rfl | rfl | rfl
        · simp at ho
          subst ho
          clear hdep hA
          go_simp
          exact hK _ wb (Below.refl _ _) rfl (fun _ _ _ _ => trivial) (fun e => absurd e (by decide))
        · simp at ho
          subst ho
          clear hdep hA
          go_simp
          exact hK _ wb (Below.refl _ _) rfl (fun _ _ _ _ => trivial) (fun e => absurd e (by decide))
        · simp at ho
          subst ho
          have z1 : ac.tmps[86]?.getD undef = .int .i64 j := hdep { on := 1, ground := .data } (by simp) rfl
          clear hdep hA
          go_simp
          refine (tInt_any _ _).mono ?_
          rintro e w5 ⟨rfl, hb5⟩
          exact hK _ w5 hb5 rfl (fun _ _ _ _ => trivial) (fun e => absurd e (by decide))
        · simp at ho
          subst ho
          have z0 : ac.tmps[85]?.getD undef = .agg #[.int .i64 c0, .bool c1, .int .i64 c2, .string c3, .slice c4 c4l c4c, .slice c5 c5l c5c] := hdep { on := 0, ground := .data } (by simp) rfl
          have z2 : ac.tmps[87]?.getD undef = .agg #[.int .i64 2, .bool false, .int .i64 j, .string ⟨#[]⟩, .slice none 0 0, .slice none 0 0] := hdep { on := 2, ground := .data } (by simp) rfl
          clear hdep hA
          go_simp
          exact hK _ _ ((Below.refl _ _).alloc (Nat.le_refl _) _) ⟨wb.heap.size, rfl, TwoV.new wb (.int .i64 c0) (.bool c1) (.int .i64 c2) (.string c3) (.slice c4 c4l c4c) (.slice c5 c5l c5c) (.int .i64 2) (.bool false) (.int .i64 (j : Int)) (.string ⟨#[]⟩) (.slice none 0 0) (.slice none 0 0) 28⟩ (fun _ _ _ _ => trivial) (fun e => absurd e (by decide))
        · simp at ho
          subst ho
          obtain ⟨sb, z3, hT⟩ := hdep { on := 3, ground := .data } (by simp) rfl
          have z3 : ac.tmps[88]?.getD undef = .slice (some ⟨sb, 0, none⟩) 2 2 := z3
          clear hdep hA
          go_simp
          refine (CG.out wb sb hB hT).mono ?_
          rintro e w5 ⟨es, rfl, hl, hb5⟩
          have hl : Lies w5 (fun b => wb.heap.size < b) xj es := by
            rcases hl with ⟨_, h⟩ | ⟨h, _⟩
            · exact h
            · exact absurd rfl h
          obtain ⟨f0, f1, f2, f3, f4, f4l, f4c, f5, f5l, f5c, rfl⟩ := hl.six
          have hsB := hB.size
          refine hK _ w5 hb5 ⟨f0, f1, f2, f3, f4, f4l, f4c, f5, f5l, f5c, rfl, hl.weaken fun b hb => by omega⟩ (fun _ y hy _ g e => ⟨f0, f1, f2, f3, f4, f4l, f4c, f5, f5l, f5c, rfl, hl.weaken fun b hb => ?_⟩) (fun e => absurd e (by decide))
          obtain ⟨g2, hy2, hz2, _⟩ := hy
          rw [e] at hy2
          injection hy2 with hy2
          injection hy2 with hy2
          injection hy2 with hy2
          have := hz2.lt
          omega
        · simp at ho
          subst ho
          obtain ⟨f0, f1, f2, f3, f4, f4l, f4c, f5, f5l, f5c, z7, hl⟩ := hdep { on := 4, ground := .data } (by simp) rfl
          have z7 : ac.tmps[89]?.getD undef = .tuple #[.agg #[.int .i64 f0, .bool f1, .int .i64 f2, .string f3, .slice f4 f4l f4c, .slice f5 f5l f5c], .int .i64 0] := z7
          clear hdep hA
          go_simp
          refine hK _ wb (Below.refl _ _) ⟨f0, f1, f2, f3, f4, f4l, f4c, f5, f5l, f5c, rfl, hl⟩ (fun _ y hy hd g e => ?_) (fun e => absurd e (by decide))
          obtain ⟨h0, h1, h2, h3, h4, h4l, h4c, h5, h5l, h5c, e2, hl2⟩ := hd { on := 4, ground := .data } (by simp) rfl g e
          have e3 := (show ac.tmps[89]?.getD undef = _ from e2).symm.trans z7
          cases e3
          exact ⟨f0, f1, f2, f3, f4, f4l, f4c, f5, f5l, f5c, rfl, hl2⟩
        · simp at ho
          subst ho
          obtain ⟨f0, f1, f2, f3, f4, f4l, f4c, f5, f5l, f5c, z7, hl⟩ := hdep { on := 5, ground := .data } (by simp) rfl
          have z7 : ac.tmps[84]?.getD undef = .tuple #[.agg #[.int .i64 f0, .bool f1, .int .i64 f2, .string f3, .slice f4 f4l f4c, .slice f5 f5l f5c], .int .i64 0] := z7
          clear hdep hA
          go_simp
          refine hK _ wb (Below.refl _ _) ⟨f0, f1, f2, f3, f4, f4l, f4c, f5, f5l, f5c, rfl, hl⟩ (fun _ y hy hd g e => ?_) (fun e => absurd e (by decide))
          obtain ⟨h0, h1, h2, h3, h4, h4l, h4c, h5, h5l, h5c, e2, hl2⟩ := hd { on := 5, ground := .data } (by simp) rfl g e
          have e3 := (show ac.tmps[84]?.getD undef = _ from e2).symm.trans z7
          cases e3
          exact ⟨f0, f1, f2, f3, f4, f4l, f4c, f5, f5l, f5c, rfl, hl2⟩
        · simp at ho
          subst ho
          clear hdep hA
          go_simp
          refine hK _ _ ((Below.refl _ _).alloc (Nat.le_refl _) _) ⟨wb.heap.size, rfl, ZB.new wb, hB.size⟩ (fun e => absurd rfl e) (fun _ j z hj hz => ?_)
          match j, hz with
          | 4, ⟨f0, f1, f2, f3, f4, f4l, f4c, f5, f5l, f5c, e, hl⟩ => exact fun g eg => by injection eg with eg; injection eg with eg; injection eg with eg; exact ⟨f0, f1, f2, f3, f4, f4l, f4c, f5, f5l, f5c, e, (hl.bound.later ((Below.refl _ _).alloc (Nat.le_refl _) _)).weaken fun b hb => ⟨hb.1, by omega⟩⟩
          | 5, ⟨f0, f1, f2, f3, f4, f4l, f4c, f5, f5l, f5c, e, hl⟩ => exact fun g eg => by injection eg with eg; injection eg with eg; injection eg with eg; exact ⟨f0, f1, f2, f3, f4, f4l, f4c, f5, f5l, f5c, e, (hl.bound.later ((Below.refl _ _).alloc (Nat.le_refl _) _)).weaken fun b hb => ⟨hb.1, by omega⟩⟩
          | 6, ⟨f0, f1, f2, f3, f4, f4l, f4c, f5, f5l, f5c, e, hl⟩ => exact fun g eg => by injection eg with eg; injection eg with eg; injection eg with eg; exact ⟨f0, f1, f2, f3, f4, f4l, f4c, f5, f5l, f5c, e, (hl.bound.later ((Below.refl _ _).alloc (Nat.le_refl _) _)).weaken fun b hb => ⟨hb.1, by omega⟩⟩
          | 0, _ | 1, _ | 2, _ | 3, _ | 7, _ | 8, _ => trivial
          | (k + 9), _ => trivial
      case s6 =>
        intro i o ac wb K' ho hi hL hA hdep hK
        obtain rfl : i = 7 := of_decide_eq_true hL
        simp at ho
        subst ho
        obtain ⟨f0, f1, f2, f3, f4, f4l, f4c, f5, f5l, f5c, z7⟩ := hdep { on := 5, ground := .data } (by simp) rfl
        have z7 : ac.tmps[84]?.getD undef = .tuple #[.agg #[.int .i64 f0, .bool f1, .int .i64 f2, .string f3, .slice f4 f4l f4c, .slice f5 f5l f5c], .int .i64 0] := z7
        clear hdep hA
        go_simp
        exact hK _ rfl
      case s7 =>
        intro o ac wb K' ho hA hB hU hNN hK
        simp at ho
        subst ho
        obtain ⟨g, z10, hzb, hg⟩ := hU 8 (by omega) (by decide)
        obtain ⟨f0, f1, f2, f3, f4, f4l, f4c, f5, f5l, f5c, z8, hl⟩ := hNN 6 (by omega) (by decide) g z10
        have z8 : ac.tmps[90]?.getD undef = .agg #[.int .i64 f0, .bool f1, .int .i64 f2, .string f3, .slice f4 f4l f4c, .slice f5 f5l f5c] := z8
        have z10' : ac.tmps[11]?.getD undef = .pointer (some ⟨g, 0, none⟩) := z10
        have zc : ∀ j, wb.cell? ⟨g, j, none⟩ = (#[.int .i64 0, .bool false, .int .i64 0, .string ⟨#[]⟩, .slice none 0 0, .slice none 0 0] : Array Value)[j]? := hzb.cell
        have zf := hzb.frozen
        have hbx : Box6 (setRow wb g 0 [.int .i64 f0, .bool f1, .int .i64 f2, .string f3, .slice f4 f4l f4c, .slice f5 f5l f5c]) g #[.int .i64 f0, .bool f1, .int .i64 f2, .string f3, .slice f4 f4l f4c, .slice f5 f5l f5c] := row_box6L (zb_rows hzb [.int .i64 f0, .bool f1, .int .i64 f2, .string f3, .slice f4 f4l f4c, .slice f5 f5l f5c] rfl)
        have hlt := hzb.lt
        have hlz := Lib.hid hl
        clear hU hA hNN hl
        go_simp
        exact hK _ ⟨g, f0, f1, f2, f3, f4, f4l, f4c, f5, f5l, f5c, z10, hbx, lies_setRowL [.int .i64 f0, .bool f1, .int .i64 f2, .string f3, .slice f4 f4l f4c, .slice f5 f5l f5c] hlz.out, hg, by show _ < (setRow wb g 0 [.int .i64 f0, .bool f1, .int .i64 f2, .string f3, .slice f4 f4l f4c, .slice f5 f5l f5c]).heap.size; rw [setRow_size]; exact hlt, setRow_below g hg [.int .i64 f0, .bool f1, .int .i64 f2, .string f3, .slice f4 f4l f4c, .slice f5 f5l f5c] wb 0 hB⟩
      case s8 =>
        intro o ac wb K' ho hA hVV hK
        simp at ho
        subst ho
        have z9 : ac.tmps[91]?.getD undef = .int .i64 0 := hVV 7 (by omega)
        clear hVV hA
        go_simp
        exact hK _ rfl
      case s9 =>
        intro ac wn hA hVV hF
        obtain ⟨g, f0, f1, f2, f3, f4, f4l, f4c, f5, f5l, f5c, z10, hbx, hf, hg, hgl, hbn⟩ := hF
        have z11 := hVV 9 (by omega)
        have hs : slots 10 (fun i => match i with | 0 => 85 | 1 => 86 | 2 => 87 | 3 => 88 | 4 => 89 | 5 => 84 | 6 => 90 | 7 => 91 | 8 => 11 | 9 => 12 | _ => 0) = [85, 86, 87, 88, 89, 84, 90, 91, 11, 12] := by rfl
        rw [hs] at hA
        have hac := hA.act (fun t ht => by
          have h8 : t = 85 ∨ t = 86 ∨ t = 87 ∨ t = 88 ∨ t = 89 ∨ t = 84 ∨ t = 90 ∨ t = 91 ∨ t = 11 ∨ t = 12 := by simpa using ht
          rcases h8 with rfl | rfl | rfl | rfl | rfl | rfl | rfl | rfl | rfl | rfl <;> exact Nat.lt_of_lt_of_le (by decide : _ < 197) (Nat.le_refl 197))
        rw [List.foldl_cons, List.foldl_cons, List.foldl_cons, List.foldl_cons, List.foldl_cons, List.foldl_cons, List.foldl_cons, List.foldl_cons, List.foldl_cons, List.foldl_cons, List.foldl_nil] at hac
        have z10 : sl ac 11 = .pointer (some ⟨g, 0, none⟩) := z10
        have z11 : sl ac 12 = .int .i64 0 := z11
        rw [z10, z11] at hac
        generalize sl ac 85 = x85 at hac
        generalize sl ac 86 = x86 at hac
        generalize sl ac 87 = x87 at hac
        generalize sl ac 88 = x88 at hac
        generalize sl ac 89 = x89 at hac
        generalize sl ac 84 = x84 at hac
        generalize sl ac 90 = x90 at hac
        generalize sl ac 91 = x91 at hac
        clear hA hs hVV z10 z11
        subst hac
        simp only [Act.put, List.setIfInBounds_toArray, List.set_cons_succ, List.set_cons_zero]
        have HVn := Lib.hid (bstep HV5.out hbn HV5.out.size)
        have HBN := Lib.hid hbn
        have HGL := Lib.hid hgl
        have SM : Hid (∀ v6 : World, Below wn.heap.size wn v6 → Calls Tryz.prog 8 #[.agg #[.int .i64 e0, .bool e1, .int .i64 e2, .string e3, .slice e4 e4l e4c, .slice e5 e5l e5c], .agg #[.int .i64 f0, .bool f1, .int .i64 f2, .string f3, .slice f4 f4l f4c, .slice f5 f5l f5c]] v6 fun e w' => e = .returned (.bool true) ∧ Below v6.heap.size v6 w') := fun v6 hb => by
          have := rSame_any (HE.out.later (bstep HV4.out HVn.out HV4.out.size)) hf.out v6 hb
          rw [T.same_self] at this
          exact this
        clear x0 x1 x2 x3 x4 x5 hbn hgl
        obtain ⟨x0, x1, x2, x3, x4, x5⟩ := (B10.out.later HBN.out HS10.out).six
        obtain ⟨z0, z1, z2, z3, z4, z5⟩ := (BX5b.out.later HVn.out HS5b.out).six
        go_upto_region 14 with (go_at_call 6; refine (HASL.out _ _ (HVn.out.alloc HVn.out.size _) (TwoV.new _ _ _ _ _ _ _ _ _ _ _ _ _ _)).mono ?_; rintro e w6 ⟨rfl, hb⟩; have HB6 := Lib.hid (bunbox hb (Nat.le_refl _) (by simp)); clear hb)
        have b13 := Box6.new w6 #[.int .i64 1, .bool true, .int .i64 0, .string ⟨#[]⟩, .slice none 0 0, .slice none 0 0] 28
        have hb13 := HB6.out.alloc HB6.out.size (.cells #[.int .i64 1, .bool true, .int .i64 0, .string ⟨#[]⟩, .slice none 0 0, .slice none 0 0] 28)
        have hs13 : w6.heap.size < (w6.alloc (.cells #[.int .i64 1, .bool true, .int .i64 0, .string ⟨#[]⟩, .slice none 0 0, .slice none 0 0] 28)).heap.size := by simp
        generalize w6.alloc (.cells #[.int .i64 1, .bool true, .int .i64 0, .string ⟨#[]⟩, .slice none 0 0, .slice none 0 0] 28) = v6 at b13 hb13 hs13 ⊢
        have B13 := Lib.hid b13
        have HV6 := Lib.hid hb13
        have HS13 := Lib.hid hs13
        clear b13 hb13 hs13 x0 x1 x2 x3 x4 x5 z0 z1 z2 z3 z4 z5
        have HV6b := Lib.hid (bstep HVn.out HV6.out HVn.out.size)
        obtain ⟨x0, x1, x2, x3, x4, x5⟩ := (B10.out.later (bstep HBN.out HV6.out HBN.out.size) HS10.out).six
        obtain ⟨z0, z1, z2, z3, z4, z5⟩ := (hbx.out.later HV6.out HGL.out).six
        go_wp2_with (go_at_call 8; refine (SM.out _ HV6.out).mono ?_; rintro e w7 ⟨rfl, hb⟩; have HB7 := Lib.hid hb; obtain ⟨p0, p1, p2, p3, p4, p5⟩ := (B13.out.later hb HS13.out).six; clear hb)
        go_roundw
        case rel => exact ⟨j + 1, by omega, by go_num, bstep HV6b.out HB7.out HV6b.out.size⟩
        case measure => simp [intOf]; omega
    · obtain rfl : j = ts.length := by omega
      clear hj hwr
      obtain ⟨wz, hwz⟩ : ∃ wz, wz = wr := ⟨_, rfl⟩
      subst hwz
      have hmm := @run_makeMap Tryz.prog
      have HW2 := HWR
      obtain ⟨i0, hi, hz0, hz1, hz2⟩ := info_parts Tryz.infoV
      go_wp2_with fail
      go_loopw [15, 120] (fun va vi wx => ∃ (j : Nat) (TL : List T) (DL : List (Array Value)) (al : Option Addr) (cl2 : Nat), j ≤ ks.length ∧ vi = .int .i64 j ∧ va = .slice al TL.length cl2 ∧ Hid (TL = argsT ks j) ∧ Hid (OwnL (wz.heap.size + 1) wx (.slice al TL.length cl2) TL DL) ∧ Hid (∀ i (h : i < ks.length), i < j → keyB ks[i] = true) ∧ Hid (∃ D : DataW Unit, wx.ownsMap Tryz.prog 9 (plainElem Tryz.prog 3) wz.heap.size j D ∧ Both D (putAll ((kp ks).take j))) ∧ Below wz.heap.size wz wx ∧ wz.heap.size < wx.heap.size) (fun _ vi _ => ks.length - (intOf vi).toNat)
      case atStart => exact ⟨0, [], [], none, 0, Nat.zero_le _, rfl, rfl, rfl, OwnL.nil _ _, fun i h hi => absurd hi (Nat.not_lt_zero i), ⟨_, World.ownsMap_made _ _ _ _, Both.nil⟩, (Below.refl _ _).alloc (Nat.le_refl _) _, by simp⟩
      case round =>
        obtain ⟨j, TL, DL, al, cl2, hj, rfl, rfl, HTL, HOL, HKY, HMP, hbx, hsx⟩ := hrel
        have HBX := Lib.hid hbx
        have HWX := Lib.hid (bstep HW2.out hbx HW2.out.size)
        have HSX := Lib.hid (sliceS_laterL HS.out HWX.out)
        have hTL := Nat.le_of_eq (show TL.length = 2 * j by rw [HTL.out, args_len])
        clear hbx
        by_cases hjl : j < ks.length
        · obtain ⟨bb, oo, rfl⟩ := HSX.out.ofSome (by omega)
          have r0 := HSX.out.cell j hjl bb oo rfl
          have hkz := HSX.out.sizes j hjl
          have hj2 : decide ((j : Int) < (ks.length : Int)) = true := decide_eq_true (by omega)
          have KK := Lib.hid (kp_put ks j hjl)
          have KG := Lib.hid (kp_key hjl)
          have KY1 : Hid (keyB ks[j] = true → ∀ i (h : i < ks.length), i < j + 1 → keyB ks[i] = true) := fun hk i h hi => by
            by_cases e : i = j
            · subst e; exact hk
            · exact HKY.out i h (by omega)
          obtain ⟨key, hkey⟩ : ∃ key, key = ks[j] := ⟨_, rfl⟩
          rw [← hkey] at r0 hkz KK KG KY1
          clear hkey
          have RK := Lib.hid (fun w1 => rKey_any key hkz w1)
          cases hkb : keyB key with
          | false =>
            rw [hkb] at RK
            clear hkb
            go_wp2_with (first
              | (go_at_call 9; refine (RK.out _).mono ?_; rintro e w9 ⟨rfl, hw9⟩; obtain rfl := hw9)
              | (go_at_call 5; refine (AW.out _ HWX.out).mono ?_; rintro e w2a ⟨rfl, hb2⟩))
            go_ret
            exact ⟨rfl, bstep HWX.out hb2 HWX.out.size⟩
          | true =>
            rw [hkb] at RK
            have HK1 := Lib.hid (KY1.out hkb)
            clear hkb KY1
            go_upto_region 24 with (go_at_call 9; refine (RK.out _).mono ?_; rintro e w9 ⟨rfl, hw9⟩; obtain rfl := hw9)
            have HTX := Lib.hid hTL
            obtain ⟨DM, hown, hbo⟩ := HMP.out
            have HOWN := Lib.hid hown
            have HBO := Lib.hid hbo
            clear r0 hTL hown hbo
            go_wp2_with fail
            refine (tStr_any _ _).mono ?_
            rintro e w4a ⟨rfl, hb4a⟩
            have HA4 := Lib.hid hb4a
            clear hb4a
            go_wp2_with fail
            refine (tInt_any _ _).mono ?_
            rintro e w5a ⟨rfl, hb5a⟩
            have HA5 := Lib.hid (bstep HA4.out hb5a HA4.out.size)
            clear hb5a
            have own5 := (HOL.out.later HA5.out).later ((Below.refl w5a.heap.size w5a).alloc (Nat.le_refl _) (.cells #[.int .i64 3, .bool false, .int .i64 0, .string key, .slice none 0 0, .slice none 0 0, .int .i64 2, .bool false, .int .i64 (j : Int), .string ⟨#[]⟩, .slice none 0 0, .slice none 0 0] 28))
            have OW5 := Lib.hid own5
            clear own5
            have hne6 : some wz.heap.size ≠ (Value.slice al TL.length cl2).ownBlock := fun e => by have := (HOL.out.block e.symm).1; omega
            have HM5 := Lib.hid (((HOWN.out.kept (grown_of_below HA5.out none) (by simp)).alloc (.cells #[.int .i64 3, .bool false, .int .i64 0, .string key, .slice none 0 0, .slice none 0 0, .int .i64 2, .bool false, .int .i64 (j : Int), .string ⟨#[]⟩, .slice none 0 0, .slice none 0 0] 28)))
            have HNE6 := Lib.hid hne6
            clear hne6
            go_wp2_with (first
              | (at_builtin; refine wpList_append_own_at _ rfl (.tmp 131) (.tmp 136) 22 rfl (wz.heap.size + 1) 28 i0 _ 6 88 Tryz.underlying22 hi hz0 hz1 hz2 (by rfl) (by decide) (.slice al TL.length cl2) TL.length _ rfl OW5.out.own ⟨w5a.heap.size, 0, none⟩ 2 2 [.int .i64 3, .bool false, .int .i64 0, .string key, .slice none 0 0, .slice none 0 0, .int .i64 2, .bool false, .int .i64 (j : Int), .string ⟨#[]⟩, .slice none 0 0, .slice none 0 0] rfl rfl (fun j u hu => lit_cells w5a _ _ j u hu) (fun u hu => by
                  simp only [List.mem_cons, List.not_mem_nil, or_false] at hu
                  rcases hu with rfl | rfl | rfl | rfl | rfl | rfl | rfl | rfl | rfl | rfl | rfl | rfl <;> rfl) (by unfold maxLen; have := HTX.out; omega) (by have := HTX.out; omega) (by have := HA5.out.size; simp; omega) ?_; intro v6 w6a own6 hg6 _ hob6; have HM6 := Lib.hid (HM5.out.kept hg6 HNE6.out))
              | (at_mapUpdate; refine wpList_mapUpdate_own _ rfl _ _ _ 34 rfl 9 3 lawSI Tryz.underlying34 _ wz.heap.size j DM rfl HM6.out (by unfold maxLen; omega) _ _ _ rfl rfl (WideMaps.keyOf_string_mk Tryz.underlying9 (by unfold maxLen; omega)) _ [] (plainElem_int Tryz.underlying3 (WalkArith.wf_i64 (by omega))) ?_; intro w7a hown7 hg7))
            have OL6 := OW5.out.two (lies_key _ _ key hkz) (lies_numF _ _ (j : Int) (by omega) (by omega)) own6
            obtain ⟨a6, c6, rfl⟩ := row_formD own6
            have OL7 := OL6.kept hg7 (by
              cases hb6 : (Value.slice a6 (TL.length + 2) c6).ownBlock with
              | none => exact .inl rfl
              | some g => exact .inr (fun e => by injection e with e; have := (OL6.block hb6).1; omega))
            have hT2 : TL ++ [keyT key, numT (j : Int)] = argsT ks (j + 1) := by rw [argsT, KG.out, HTL.out]
            have hlen2 : (TL ++ [keyT key, numT (j : Int)]).length = TL.length + 2 := by rw [List.length_append]; rfl
            have hM7 : ∃ D : DataW Unit, w7a.ownsMap Tryz.prog 9 (plainElem Tryz.prog 3) wz.heap.size (j + 1) D ∧ Both D (putAll ((kp ks).take (j + 1))) := ⟨_, hown7, by rw [KK.out]; exact HBO.out.put key j⟩
            have hb5 := (bstep HBX.out HA5.out HBX.out.size).alloc (bstep HBX.out HA5.out HBX.out.size).size (.cells #[.int .i64 3, .bool false, .int .i64 0, .string key, .slice none 0 0, .slice none 0 0, .int .i64 2, .bool false, .int .i64 (j : Int), .string ⟨#[]⟩, .slice none 0 0, .slice none 0 0] 28)
            have hb6 := hb5.grown hg6 hb5.size (fun g hg => by have := (HOL.out.block hg).1; omega)
            have hb7 := hb6.grown hg7 hb6.size (fun g hg => by injection hg with hg; omega)
            have hs7 : wz.heap.size < w7a.heap.size := by have h1 := hg6.size; have h2 := hg7.size; have h3 := HA5.out.size; simp at h1; omega
            have HT2 := Lib.hid hT2
            have HL2 := Lib.hid hlen2
            have HO7 := Lib.hid OL7
            have HM7 := Lib.hid hM7
            have HB7 := Lib.hid hb7
            have HK2 := HK1
            generalize TL ++ [keyT key, numT (j : Int)] = TL2 at HT2 HL2 HO7
            clear OL6 OL7 hT2 hlen2 hM7 hb5 hb6 hb7 hown7 hg7 own6 hg6 hob6
            go_wp2_with fail
            go_roundw
            case rel => exact ⟨j + 1, TL2, _, a6, c6, by omega, by go_num, by rw [HL2.out], HT2, by rw [HL2.out]; exact HO7, HK2, HM7, HB7.out, hs7⟩
            case measure => simp [intOf]; omega
        · obtain rfl : j = ks.length := by omega
          obtain ⟨a9, c9, e9, hSV⟩ := HOL.out.done (by omega)
          obtain ⟨rfl, rfl⟩ : al = a9 ∧ cl2 = c9 := by injection e9 with q1 q2 q3; exact ⟨q1, q3⟩
          obtain ⟨da1, da2, da3⟩ := dict_args HTL.out
          obtain ⟨dr1, dr2, dr3, dr4⟩ := dict_right hk8 (fun i h => HKY.out i h h)
          have CD := Lib.hid (call_dict hSV (kp ks) da1 (by rw [kp_len]; omega) da2 da3 (by omega) wr (Below.refl _ _) (FT.out _ HWX.out))
          rw [dr3] at CD
          obtain ⟨DM, hown, hbo⟩ := HMP.out
          rw [kp_take] at hbo
          have HOWN := Lib.hid hown
          generalize putAll (kp ks) = mp at CD hbo dr1 dr2 dr4
          have HBO := Lib.hid hbo
          have HSZ := Lib.hid hbo.size
          have hkk : decide ((ks.length : Int) < (ks.length : Int)) = false := decide_eq_false (by omega)
          clear e9 hSV da1 da2 da3 dr1 dr3 dr4 hown hbo
          go_upto_region 27 with (go_at_call 6; refine CD.out.mono ?_; rintro e w3b ⟨ds, rfl, hl, hb⟩; have hl2 : Lies w3b (fun b => wr.heap.size < b) (.mk 5 false 0 ⟨#[]⟩ [] mp) ds := (hl.resolve_right (fun h => h.1 rfl)).2; obtain ⟨d0, d1, d2, d3, d4, d4l, d4c, d5, d5l, d5c, rfl⟩ := hl2.six; have HLM := Lib.hid hl2; have HB8 := Lib.hid hb; clear hb hl hl2)
          have hd5 : d0 = 5 ∧ d5l = mp.length := by have h := HLM.out; cases h; exact ⟨rfl, rfl⟩
          obtain ⟨rfl, rfl⟩ := hd5
          have b19 := Box6.new w3b #[.int .i64 5, .bool d1, .int .i64 d2, .string d3, .slice d4 d4l d4c, .slice d5 mp.length d5c] 28
          have hb19 := HB8.out.alloc HB8.out.size (.cells #[.int .i64 5, .bool d1, .int .i64 d2, .string d3, .slice d4 d4l d4c, .slice d5 mp.length d5c] 28)
          have hl19 := HLM.out.later ((Below.refl w3b.heap.size w3b).alloc (Nat.le_refl _) (.cells #[.int .i64 5, .bool d1, .int .i64 d2, .string d3, .slice d4 d4l d4c, .slice d5 mp.length d5c] 28))
          have hs19 : w3b.heap.size < (w3b.alloc (.cells #[.int .i64 5, .bool d1, .int .i64 d2, .string d3, .slice d4 d4l d4c, .slice d5 mp.length d5c] 28)).heap.size := by simp
          generalize w3b.alloc (.cells #[.int .i64 5, .bool d1, .int .i64 d2, .string d3, .slice d4 d4l d4c, .slice d5 mp.length d5c] 28) = vB at b19 hb19 hl19 hs19 ⊢
          have BX19 := Lib.hid b19
          have HV19 := Lib.hid (bstep HWX.out hb19 HWX.out.size)
          have HL19 := Lib.hid hl19
          have HS19 := Lib.hid hs19
          have hownB := HOWN.out.kept (grown_of_below hb19 none) (by simp)
          have HOB := Lib.hid hownB
          have hlm : ∀ ty, (Builtin.len_ #[34] ty #[.map (some wz.heap.size)]).run Tryz.prog vB = .ok (.int .i64 (mp.length : Int)) vB := fun ty => by
            have := HOB.out.len Tryz.underlying34 ty
            rw [HSZ.out] at this
            exact this
          have hmn : ((mp.length : Int) != (mp.length : Int)) = false := by simp
          have hme : ((mp.length : Int) == (mp.length : Int)) = true := by simp
          clear b19 hb19 hl19 hs19 hownB
          obtain ⟨x0, x1, x2, x3, x4, x5⟩ := BX19.out.six
          go_wp2_with (first
            | (at_range; refine wpList_range_own _ rfl _ 34 rfl 9 3 lawSI Tryz.underlying34 _ wz.heap.size ks.length DM rfl HOB.out ?_; intro w0r hrg0 hg0 hs0)
            | go_in)
          go_frame
          go_loopw [157] (fun _ wx => ∃ (left : Lit → Bool) (cnt : Nat), wx.ranges Tryz.prog 9 (plainElem Tryz.prog 3) wz.heap.size vB.heap.size ks.length DM left cnt ∧ Below vB.heap.size vB wx) (fun _ wx => wx.rangeLeft wz.heap.size vB.heap.size)
          case atStart => exact ⟨_, _, hrg0, (Below.refl _ _).grown hg0 (Nat.le_refl _) (by simp)⟩
          case round =>
            clear x0 x1 x2 x3 x4 x5
            obtain ⟨left, cnt, hrg, hbc⟩ := hrel
            have HBC := Lib.hid hbc
            have HRG := Lib.hid hrg
            have hleft := hrg.left_eq
            clear hbc hrg
            go_wp2_with (first
              | (at_next; refine wpList_next_ranges_si _ rfl _ rfl 9 3 lawSI Tryz.underlying9 Tryz.underlying3 wz.heap.size vB.heap.size ks.length _ _ _ rfl HRG.out ?_ ?_)
              | go_in)
            · intro _ _
              obtain ⟨x0, x1, x2, x3, x4, x5⟩ := (BX19.out.later HBC.out HS19.out).six
              have HVC := Lib.hid (bstep HV19.out HBC.out HV19.out.size)
              have HLC := Lib.hid (HL19.out.later HBC.out)
              have hlc : ∀ (wq : World) ty, Below wr.heap.size wr wq → (Builtin.len_ #[34] ty #[.map (some wz.heap.size)]).run Tryz.prog wq = .ok (.int .i64 (mp.length : Int)) wq := fun wq ty hb => by
                have := (HRG.out.owns.kept (grown_of_below hb none) (by simp)).len Tryz.underlying34 ty
                rw [HSZ.out] at this
                exact this
              have HLQ := Lib.hid hlc
              clear hlc hlm
              go_upto_region 36 with (go_at_call 6; refine (call_keys HLC.out _ _ ((Below.refl _ _).alloc (Nat.le_refl _) _) (FT.out _ (HVC.out.alloc HVC.out.size _)) (Box6.new _ _ _) (by simp)).mono ?_; rintro e w8 ⟨ds, rfl, hl, hb⟩; have hl2 : Lies w8 _ (T.listOf (mp.map fun p => keyT p.1)) ds := (hl.resolve_right (fun h => h.1 rfl)).2; obtain ⟨m0, m1, m2, m3, m4, m4l, m4c, m5, m5l, m5c, rfl⟩ := hl2.six; have HLK := Lib.hid hl2; have HB8 := Lib.hid (bunbox hb (Nat.le_refl _) (by simp)); clear hb hl hl2)
              have hm4 : m4l = mp.length := by have h := HLK.out; have : m4l = (mp.map fun p => keyT p.1).length := by cases h; rfl
                                               rw [this, List.length_map]
              subst hm4
              have b25 := Box6.new w8 #[.int .i64 m0, .bool m1, .int .i64 m2, .string m3, .slice m4 mp.length m4c, .slice m5 m5l m5c] 28
              have hb25 := HB8.out.alloc HB8.out.size (.cells #[.int .i64 m0, .bool m1, .int .i64 m2, .string m3, .slice m4 mp.length m4c, .slice m5 m5l m5c] 28)
              have hs25 : w8.heap.size < (w8.alloc (.cells #[.int .i64 m0, .bool m1, .int .i64 m2, .string m3, .slice m4 mp.length m4c, .slice m5 m5l m5c] 28)).heap.size := by simp
              generalize w8.alloc (.cells #[.int .i64 m0, .bool m1, .int .i64 m2, .string m3, .slice m4 mp.length m4c, .slice m5 m5l m5c] 28) = vC at b25 hb25 hs25 ⊢
              have B25 := Lib.hid b25
              have HV25 := Lib.hid hb25
              have HW25 := Lib.hid (bstep HVC.out hb25 HVC.out.size)
              have HS25 := Lib.hid hs25
              clear b25 hb25 hs25 x0 x1 x2 x3 x4 x5
              go_wp2_with (go_at_call 5; refine (AW.out _ HW25.out).mono ?_; rintro e w9 ⟨rfl, hb9⟩; have HB9 := Lib.hid hb9; have hlm9 := fun ty => HLQ.out w9 ty (bstep HV25.out hb9 HV25.out.size); obtain ⟨p0, p1, p2, p3, p4, p5⟩ := (B25.out.later hb9 HS25.out).six; clear hb9)
              go_ret
              exact ⟨rfl, bstep HW25.out HB9.out HW25.out.size⟩
            · intro kx cv w1c cnt1 hlx hat hrg1 hlt2 hg1 hs1 hen
              have GM := Lib.hid (both_find HBO.out hat)
              have hb1c := HBC.out.grown hg1 HBC.out.size (fun k hk => by injection hk with hk; omega)
              have HB1C := Lib.hid hb1c
              have HR1 := Lib.hid hrg1
              have HLT2 := Lib.hid hlt2
              have hcc : (cv != cv) = false := by simp
              obtain ⟨x0, x1, x2, x3, x4, x5⟩ := (BX19.out.later HB1C.out HS19.out).six
              have CG : Hid (∀ (wb : World) (sb : Nat), Below w1c.heap.size w1c wb → TwoV wb sb (.int .i64 5) (.bool d1) (.int .i64 d2) (.string d3) (.slice d4 d4l d4c) (.slice d5 mp.length d5c) (.int .i64 3) (.bool false) (.int .i64 0) (.string kx) (.slice none 0 0) (.slice none 0 0) → Calls Tryz.prog 6 #[.string ⟨#[103, 101, 116]⟩, .slice (some ⟨sb, 0, none⟩) 2 2] wb (CallE wb 0 (numT cv))) := fun wb sb hb hT =>
                call_getM (HL19.out.later HB1C.out) kx GM.out (Nat.zero_le _) sb wb hb (FT.out _ (bstep HV19.out (bstep HB1C.out hb HB1C.out.size) HV19.out.size)) hT
              clear hlm hlx hat hrg1 hlt2 hg1 hb1c
              go_upto_region 32 with fail
              clear hen
              refine wp_region_specsN w1c 9 8 (fun i => match i with | 0 => 163 | 1 => 164 | 2 => 165 | 3 => 166 | 4 => 167 | 5 => 162 | 6 => 168 | 7 => 169 | 8 => 23 | 9 => 24 | _ => 0) (fun i => decide (i = 7)) (fun i x wx => match i with | 0 => x = .agg #[.int .i64 5, .bool d1, .int .i64 d2, .string d3, .slice d4 d4l d4c, .slice d5 mp.length d5c] | 1 => x = .string kx | 2 => x = .agg #[.int .i64 3, .bool false, .int .i64 0, .string kx, .slice none 0 0, .slice none 0 0] | 7 => x = .int .i64 0 | 3 => ∃ sb : Nat, x = .slice (some ⟨sb, 0, none⟩) 2 2 ∧ TwoV wx sb (.int .i64 5) (.bool d1) (.int .i64 d2) (.string d3) (.slice d4 d4l d4c) (.slice d5 mp.length d5c) (.int .i64 3) (.bool false) (.int .i64 0) (.string kx) (.slice none 0 0) (.slice none 0 0) | 4 => ∃ (f0 : Int) (f1 : Bool) (f2 : Int) (f3 : ByteArray) (f4 : Option Addr) (f4l f4c : Nat) (f5 : Option Addr) (f5l f5c : Nat), x = .tuple #[.agg #[.int .i64 f0, .bool f1, .int .i64 f2, .string f3, .slice f4 f4l f4c, .slice f5 f5l f5c], .int .i64 0] ∧ Lies wx (fun b => w1c.heap.size ≤ b) (numT cv) #[.int .i64 f0, .bool f1, .int .i64 f2, .string f3, .slice f4 f4l f4c, .slice f5 f5l f5c] | 5 => ∃ (f0 : Int) (f1 : Bool) (f2 : Int) (f3 : ByteArray) (f4 : Option Addr) (f4l f4c : Nat) (f5 : Option Addr) (f5l f5c : Nat), x = .tuple #[.agg #[.int .i64 f0, .bool f1, .int .i64 f2, .string f3, .slice f4 f4l f4c, .slice f5 f5l f5c], .int .i64 0] ∧ Lies wx (fun b => w1c.heap.size ≤ b) (numT cv) #[.int .i64 f0, .bool f1, .int .i64 f2, .string f3, .slice f4 f4l f4c, .slice f5 f5l f5c] | 6 => ∃ (f0 : Int) (f1 : Bool) (f2 : Int) (f3 : ByteArray) (f4 : Option Addr) (f4l f4c : Nat) (f5 : Option Addr) (f5l f5c : Nat), x = .agg #[.int .i64 f0, .bool f1, .int .i64 f2, .string f3, .slice f4 f4l f4c, .slice f5 f5l f5c] ∧ Lies wx (fun b => w1c.heap.size ≤ b) (numT cv) #[.int .i64 f0, .bool f1, .int .i64 f2, .string f3, .slice f4 f4l f4c, .slice f5 f5l f5c] | 8 => ∃ g : Nat, x = .pointer (some ⟨g, 0, none⟩) ∧ ZB wx g ∧ w1c.heap.size ≤ g | _ => True) (fun i x yv wx => match i with | 4 => ∀ g, yv = .pointer (some ⟨g, 0, none⟩) → ∃ (f0 : Int) (f1 : Bool) (f2 : Int) (f3 : ByteArray) (f4 : Option Addr) (f4l f4c : Nat) (f5 : Option Addr) (f5l f5c : Nat), x = .tuple #[.agg #[.int .i64 f0, .bool f1, .int .i64 f2, .string f3, .slice f4 f4l f4c, .slice f5 f5l f5c], .int .i64 0] ∧ Lies wx (fun b => w1c.heap.size ≤ b ∧ b ≠ g) (numT cv) #[.int .i64 f0, .bool f1, .int .i64 f2, .string f3, .slice f4 f4l f4c, .slice f5 f5l f5c] | 5 => ∀ g, yv = .pointer (some ⟨g, 0, none⟩) → ∃ (f0 : Int) (f1 : Bool) (f2 : Int) (f3 : ByteArray) (f4 : Option Addr) (f4l f4c : Nat) (f5 : Option Addr) (f5l f5c : Nat), x = .tuple #[.agg #[.int .i64 f0, .bool f1, .int .i64 f2, .string f3, .slice f4 f4l f4c, .slice f5 f5l f5c], .int .i64 0] ∧ Lies wx (fun b => w1c.heap.size ≤ b ∧ b ≠ g) (numT cv) #[.int .i64 f0, .bool f1, .int .i64 f2, .string f3, .slice f4 f4l f4c, .slice f5 f5l f5c] | 6 => ∀ g, yv = .pointer (some ⟨g, 0, none⟩) → ∃ (f0 : Int) (f1 : Bool) (f2 : Int) (f3 : ByteArray) (f4 : Option Addr) (f4l f4c : Nat) (f5 : Option Addr) (f5l f5c : Nat), x = .agg #[.int .i64 f0, .bool f1, .int .i64 f2, .string f3, .slice f4 f4l f4c, .slice f5 f5l f5c] ∧ Lies wx (fun b => w1c.heap.size ≤ b ∧ b ≠ g) (numT cv) #[.int .i64 f0, .bool f1, .int .i64 f2, .string f3, .slice f4 f4l f4c, .slice f5 f5l f5c] | _ => True) (fun i x => match i with | 0 => x = .agg #[.int .i64 5, .bool d1, .int .i64 d2, .string d3, .slice d4 d4l d4c, .slice d5 mp.length d5c] | 1 => x = .string kx | 2 => x = .agg #[.int .i64 3, .bool false, .int .i64 0, .string kx, .slice none 0 0, .slice none 0 0] | 7 => x = .int .i64 0 | 4 => ∃ (f0 : Int) (f1 : Bool) (f2 : Int) (f3 : ByteArray) (f4 : Option Addr) (f4l f4c : Nat) (f5 : Option Addr) (f5l f5c : Nat), x = .tuple #[.agg #[.int .i64 f0, .bool f1, .int .i64 f2, .string f3, .slice f4 f4l f4c, .slice f5 f5l f5c], .int .i64 0] | 5 => ∃ (f0 : Int) (f1 : Bool) (f2 : Int) (f3 : ByteArray) (f4 : Option Addr) (f4l f4c : Nat) (f5 : Option Addr) (f5l f5c : Nat), x = .tuple #[.agg #[.int .i64 f0, .bool f1, .int .i64 f2, .string f3, .slice f4 f4l f4c, .slice f5 f5l f5c], .int .i64 0] | 6 => ∃ (f0 : Int) (f1 : Bool) (f2 : Int) (f3 : ByteArray) (f4 : Option Addr) (f4l f4c : Nat) (f5 : Option Addr) (f5l f5c : Nat), x = .agg #[.int .i64 f0, .bool f1, .int .i64 f2, .string f3, .slice f4 f4l f4c, .slice f5 f5l f5c] | 8 => ∃ g : Nat, x = .pointer (some ⟨g, 0, none⟩) ∧ w1c.heap.size ≤ g | 9 => x = .int .i64 0 | _ => True) (fun x wx => ∃ (g : Nat) (f0 : Int) (f1 : Bool) (f2 : Int) (f3 : ByteArray) (f4 : Option Addr) (f4l f4c : Nat) (f5 : Option Addr) (f5l f5c : Nat), x = .pointer (some ⟨g, 0, none⟩) ∧ Hid (Box6 wx g #[.int .i64 f0, .bool f1, .int .i64 f2, .string f3, .slice f4 f4l f4c, .slice f5 f5l f5c]) ∧ Hid (Lies wx (fun b => w1c.heap.size ≤ b) (numT cv) #[.int .i64 f0, .bool f1, .int .i64 f2, .string f3, .slice f4 f4l f4c, .slice f5 f5l f5c]) ∧ w1c.heap.size ≤ g ∧ g < wx.heap.size ∧ Below w1c.heap.size w1c wx) (by kernel_rfl) (by kernel_rfl) ?s1 (by decide) (by decide) (Below.refl _ _) ?s2 ?n1 ?n2 (fun _ _ _ => trivial) ?s3 ?s4 ?s5 ?s6 ?s7 ?s8 ?s9
              case n1 =>
                intro i x y w1 w2 hi hb hN
                match i, hN with
                | 4, h => exact fun g e => by obtain ⟨f0, f1, f2, f3, f4, f4l, f4c, f5, f5l, f5c, e2, hl⟩ := h g e; exact ⟨f0, f1, f2, f3, f4, f4l, f4c, f5, f5l, f5c, e2, hl.later hb⟩
                | 5, h => exact fun g e => by obtain ⟨f0, f1, f2, f3, f4, f4l, f4c, f5, f5l, f5c, e2, hl⟩ := h g e; exact ⟨f0, f1, f2, f3, f4, f4l, f4c, f5, f5l, f5c, e2, hl.later hb⟩
                | 6, h => exact fun g e => by obtain ⟨f0, f1, f2, f3, f4, f4l, f4c, f5, f5l, f5c, e2, hl⟩ := h g e; exact ⟨f0, f1, f2, f3, f4, f4l, f4c, f5, f5l, f5c, e2, hl.later hb⟩
                | 0, _ | 1, _ | 2, _ | 3, _ | 7, _ | 8, _ => trivial
                | (k + 9), _ => trivial
              case n2 =>
                intro i x y w1 hL
                obtain rfl : i = 7 := of_decide_eq_true hL
                trivial
              case s1 => intro i hi; rcases (by omega : i = 0 ∨ i = 1 ∨ i = 2 ∨ i = 3 ∨ i = 4 ∨ i = 5 ∨ i = 6 ∨ i = 7 ∨ i = 8 ∨ i = 9) with rfl | rfl | rfl | rfl | rfl | rfl | rfl | rfl | rfl | rfl <;> exact Nat.lt_of_lt_of_le (by decide : _ < 197) (Nat.le_refl 197)
              case s2 =>
                intro i x w1 w2 hb hU
                match i, hU with
                | 3, ⟨sb, e, hT⟩ => exact ⟨sb, e, hT.later hb⟩
                | 4, ⟨f0, f1, f2, f3, f4, f4l, f4c, f5, f5l, f5c, e, hl⟩ => exact ⟨f0, f1, f2, f3, f4, f4l, f4c, f5, f5l, f5c, e, hl.later hb⟩
                | 5, ⟨f0, f1, f2, f3, f4, f4l, f4c, f5, f5l, f5c, e, hl⟩ => exact ⟨f0, f1, f2, f3, f4, f4l, f4c, f5, f5l, f5c, e, hl.later hb⟩
                | 6, ⟨f0, f1, f2, f3, f4, f4l, f4c, f5, f5l, f5c, e, hl⟩ => exact ⟨f0, f1, f2, f3, f4, f4l, f4c, f5, f5l, f5c, e, hl.later hb⟩
                | 8, ⟨g, e, hz, hg⟩ => exact ⟨g, e, hz.later hb, hg⟩
                | 0, h | 1, h | 2, h | 7, h => exact h
                | (k + 9), _ => trivial
              case s3 =>
                intro i x w1 hi hU
                match i, hU with
                | 3, _ => trivial
                | 4, ⟨f0, f1, f2, f3, f4, f4l, f4c, f5, f5l, f5c, e, hl⟩ => exact ⟨f0, f1, f2, f3, f4, f4l, f4c, f5, f5l, f5c, e⟩
                | 5, ⟨f0, f1, f2, f3, f4, f4l, f4c, f5, f5l, f5c, e, hl⟩ => exact ⟨f0, f1, f2, f3, f4, f4l, f4c, f5, f5l, f5c, e⟩
                | 6, ⟨f0, f1, f2, f3, f4, f4l, f4c, f5, f5l, f5c, e, hl⟩ => exact ⟨f0, f1, f2, f3, f4, f4l, f4c, f5, f5l, f5c, e⟩
                | 8, ⟨g, e, hz, hg⟩ => exact ⟨g, e, hg⟩
                | 0, h | 1, h | 2, h | 7, h => exact h
                | (k + 9), _ => omega
              case s4 =>
                intro i x w1 hi hL hU
                obtain rfl : i = 7 := of_decide_eq_true hL
                exact hU
              case s5 =>
                intro i o ac wb K' ho hi hL hA hB hdep hK
                have sv19 : ac.tmps[19]?.getD undef = .pointer (some ⟨w3b.heap.size, 0, none⟩) := hA.sl (t := 19) (by decide)
                have sv21 : ac.tmps[21]?.getD undef = .string kx := hA.sl (t := 21) (by decide)
                have x0 := cells_frame hB x0
                have x1 := cells_frame hB x1
                have x2 := cells_frame hB x2
                have x3 := cells_frame hB x3
                have x4 := cells_frame hB x4
                have x5 := cells_frame hB x5
                have hL : i ≠ 7 := of_decide_eq_false hL
                rcases (by omega : i = 0 ∨ i = 1 ∨ i = 2 ∨ i = 3 ∨ i = 4 ∨ i = 5 ∨ i = 6 ∨ i = 8) with rfl | rfl | rfl | rfl | rfl | rfl | rfl | rfl
                · simp at ho
                  subst ho
                  clear hdep hA
                  go_simp
                  exact hK _ wb (Below.refl _ _) rfl (fun _ _ _ _ => trivial) (fun e => absurd e (by decide))
                · simp at ho
                  subst ho
                  clear hdep hA
                  go_simp
                  exact hK _ wb (Below.refl _ _) rfl (fun _ _ _ _ => trivial) (fun e => absurd e (by decide))
                · simp at ho
                  subst ho
                  have z1 : ac.tmps[164]?.getD undef = .string kx := hdep { on := 1, ground := .data } (by simp) rfl
                  clear hdep hA
                  go_simp
                  refine (tStr_any _ _).mono ?_
                  rintro e w5 ⟨rfl, hb5⟩
                  exact hK _ w5 hb5 rfl (fun _ _ _ _ => trivial) (fun e => absurd e (by decide))
                · simp at ho
                  subst ho
                  have z0 : ac.tmps[163]?.getD undef = .agg #[.int .i64 5, .bool d1, .int .i64 d2, .string d3, .slice d4 d4l d4c, .slice d5 mp.length d5c] := hdep { on := 0, ground := .data } (by simp) rfl
                  have z2 : ac.tmps[165]?.getD undef = .agg #[.int .i64 3, .bool false, .int .i64 0, .string kx, .slice none 0 0, .slice none 0 0] := hdep { on := 2, ground := .data } (by simp) rfl
                  clear hdep hA
                  go_simp
                  exact hK _ _ ((Below.refl _ _).alloc (Nat.le_refl _) _) ⟨wb.heap.size, rfl, TwoV.new wb (.int .i64 5) (.bool d1) (.int .i64 d2) (.string d3) (.slice d4 d4l d4c) (.slice d5 mp.length d5c) (.int .i64 3) (.bool false) (.int .i64 0) (.string kx) (.slice none 0 0) (.slice none 0 0) 28⟩ (fun _ _ _ _ => trivial) (fun e => absurd e (by decide))
                · simp at ho
                  subst ho
                  obtain ⟨sb, z3, hT⟩ := hdep { on := 3, ground := .data } (by simp) rfl
                  have z3 : ac.tmps[166]?.getD undef = .slice (some ⟨sb, 0, none⟩) 2 2 := z3
                  clear hdep hA
                  go_simp
                  refine (CG.out wb sb hB hT).mono ?_
                  rintro e w5 ⟨es, rfl, hl, hb5⟩
                  have hl : Lies w5 (fun b => wb.heap.size < b) (numT cv) es := by
                    rcases hl with ⟨_, h⟩ | ⟨h, _⟩
                    · exact h
                    · exact absurd rfl h
                  obtain ⟨f0, f1, f2, f3, f4, f4l, f4c, f5, f5l, f5c, rfl⟩ := hl.six
                  have hsB := hB.size
                  refine hK _ w5 hb5 ⟨f0, f1, f2, f3, f4, f4l, f4c, f5, f5l, f5c, rfl, hl.weaken fun b hb => by omega⟩ (fun _ y hy _ g e => ⟨f0, f1, f2, f3, f4, f4l, f4c, f5, f5l, f5c, rfl, hl.weaken fun b hb => ?_⟩) (fun e => absurd e (by decide))
                  obtain ⟨g2, hy2, hz2, _⟩ := hy
                  rw [e] at hy2
                  injection hy2 with hy2
                  injection hy2 with hy2
                  injection hy2 with hy2
                  have := hz2.lt
                  omega
                · simp at ho
                  subst ho
                  obtain ⟨f0, f1, f2, f3, f4, f4l, f4c, f5, f5l, f5c, z7, hl⟩ := hdep { on := 4, ground := .data } (by simp) rfl
                  have z7 : ac.tmps[167]?.getD undef = .tuple #[.agg #[.int .i64 f0, .bool f1, .int .i64 f2, .string f3, .slice f4 f4l f4c, .slice f5 f5l f5c], .int .i64 0] := z7
                  clear hdep hA
                  go_simp
                  refine hK _ wb (Below.refl _ _) ⟨f0, f1, f2, f3, f4, f4l, f4c, f5, f5l, f5c, rfl, hl⟩ (fun _ y hy hd g e => ?_) (fun e => absurd e (by decide))
                  obtain ⟨h0, h1, h2, h3, h4, h4l, h4c, h5, h5l, h5c, e2, hl2⟩ := hd { on := 4, ground := .data } (by simp) rfl g e
                  have e3 := (show ac.tmps[167]?.getD undef = _ from e2).symm.trans z7
                  cases e3
                  exact ⟨f0, f1, f2, f3, f4, f4l, f4c, f5, f5l, f5c, rfl, hl2⟩
                · simp at ho
                  subst ho
                  obtain ⟨f0, f1, f2, f3, f4, f4l, f4c, f5, f5l, f5c, z7, hl⟩ := hdep { on := 5, ground := .data } (by simp) rfl
                  have z7 : ac.tmps[162]?.getD undef = .tuple #[.agg #[.int .i64 f0, .bool f1, .int .i64 f2, .string f3, .slice f4 f4l f4c, .slice f5 f5l f5c], .int .i64 0] := z7
                  clear hdep hA
                  go_simp
                  refine hK _ wb (Below.refl _ _) ⟨f0, f1, f2, f3, f4, f4l, f4c, f5, f5l, f5c, rfl, hl⟩ (fun _ y hy hd g e => ?_) (fun e => absurd e (by decide))
                  obtain ⟨h0, h1, h2, h3, h4, h4l, h4c, h5, h5l, h5c, e2, hl2⟩ := hd { on := 5, ground := .data } (by simp) rfl g e
                  have e3 := (show ac.tmps[162]?.getD undef = _ from e2).symm.trans z7
                  cases e3
                  exact ⟨f0, f1, f2, f3, f4, f4l, f4c, f5, f5l, f5c, rfl, hl2⟩
                · simp at ho
                  subst ho
                  clear hdep hA
                  go_simp
                  refine hK _ _ ((Below.refl _ _).alloc (Nat.le_refl _) _) ⟨wb.heap.size, rfl, ZB.new wb, hB.size⟩ (fun e => absurd rfl e) (fun _ j z hj hz => ?_)
                  match j, hz with
                  | 4, ⟨f0, f1, f2, f3, f4, f4l, f4c, f5, f5l, f5c, e, hl⟩ => exact fun g eg => by injection eg with eg; injection eg with eg; injection eg with eg; exact ⟨f0, f1, f2, f3, f4, f4l, f4c, f5, f5l, f5c, e, (hl.bound.later ((Below.refl _ _).alloc (Nat.le_refl _) _)).weaken fun b hb => ⟨hb.1, by omega⟩⟩
                  | 5, ⟨f0, f1, f2, f3, f4, f4l, f4c, f5, f5l, f5c, e, hl⟩ => exact fun g eg => by injection eg with eg; injection eg with eg; injection eg with eg; exact ⟨f0, f1, f2, f3, f4, f4l, f4c, f5, f5l, f5c, e, (hl.bound.later ((Below.refl _ _).alloc (Nat.le_refl _) _)).weaken fun b hb => ⟨hb.1, by omega⟩⟩
                  | 6, ⟨f0, f1, f2, f3, f4, f4l, f4c, f5, f5l, f5c, e, hl⟩ => exact fun g eg => by injection eg with eg; injection eg with eg; injection eg with eg; exact ⟨f0, f1, f2, f3, f4, f4l, f4c, f5, f5l, f5c, e, (hl.bound.later ((Below.refl _ _).alloc (Nat.le_refl _) _)).weaken fun b hb => ⟨hb.1, by omega⟩⟩
                  | 0, _ | 1, _ | 2, _ | 3, _ | 7, _ | 8, _ => trivial
                  | (k + 9), _ => trivial
              case s6 =>
                intro i o ac wb K' ho hi hL hA hdep hK
                obtain rfl : i = 7 := of_decide_eq_true hL
                simp at ho
                subst ho
                obtain ⟨f0, f1, f2, f3, f4, f4l, f4c, f5, f5l, f5c, z7⟩ := hdep { on := 5, ground := .data } (by simp) rfl
                have z7 : ac.tmps[162]?.getD undef = .tuple #[.agg #[.int .i64 f0, .bool f1, .int .i64 f2, .string f3, .slice f4 f4l f4c, .slice f5 f5l f5c], .int .i64 0] := z7
                clear hdep hA
                go_simp
                exact hK _ rfl
              case s7 =>
                intro o ac wb K' ho hA hB hU hNN hK
                simp at ho
                subst ho
                obtain ⟨g, z10, hzb, hg⟩ := hU 8 (by omega) (by decide)
                obtain ⟨f0, f1, f2, f3, f4, f4l, f4c, f5, f5l, f5c, z8, hl⟩ := hNN 6 (by omega) (by decide) g z10
                have z8 : ac.tmps[168]?.getD undef = .agg #[.int .i64 f0, .bool f1, .int .i64 f2, .string f3, .slice f4 f4l f4c, .slice f5 f5l f5c] := z8
                have z10' : ac.tmps[23]?.getD undef = .pointer (some ⟨g, 0, none⟩) := z10
                have zc : ∀ j, wb.cell? ⟨g, j, none⟩ = (#[.int .i64 0, .bool false, .int .i64 0, .string ⟨#[]⟩, .slice none 0 0, .slice none 0 0] : Array Value)[j]? := hzb.cell
                have zf := hzb.frozen
                have hbx : Box6 (setRow wb g 0 [.int .i64 f0, .bool f1, .int .i64 f2, .string f3, .slice f4 f4l f4c, .slice f5 f5l f5c]) g #[.int .i64 f0, .bool f1, .int .i64 f2, .string f3, .slice f4 f4l f4c, .slice f5 f5l f5c] := row_box6L (zb_rows hzb [.int .i64 f0, .bool f1, .int .i64 f2, .string f3, .slice f4 f4l f4c, .slice f5 f5l f5c] rfl)
                have hlt := hzb.lt
                have hlz := Lib.hid hl
                clear hU hA hNN hl
                go_simp
                exact hK _ ⟨g, f0, f1, f2, f3, f4, f4l, f4c, f5, f5l, f5c, z10, hbx, lies_setRowL [.int .i64 f0, .bool f1, .int .i64 f2, .string f3, .slice f4 f4l f4c, .slice f5 f5l f5c] hlz.out, hg, by show _ < (setRow wb g 0 [.int .i64 f0, .bool f1, .int .i64 f2, .string f3, .slice f4 f4l f4c, .slice f5 f5l f5c]).heap.size; rw [setRow_size]; exact hlt, setRow_below g hg [.int .i64 f0, .bool f1, .int .i64 f2, .string f3, .slice f4 f4l f4c, .slice f5 f5l f5c] wb 0 hB⟩
              case s8 =>
                intro o ac wb K' ho hA hVV hK
                simp at ho
                subst ho
                have z9 : ac.tmps[169]?.getD undef = .int .i64 0 := hVV 7 (by omega)
                clear hVV hA
                go_simp
                exact hK _ rfl
              case s9 =>
                intro ac wn hA hVV hF
                obtain ⟨g, f0, f1, f2, f3, f4, f4l, f4c, f5, f5l, f5c, z10, hbx, hf, hg, hgl, hbn⟩ := hF
                have z11 := hVV 9 (by omega)
                have hs : slots 10 (fun i => match i with | 0 => 163 | 1 => 164 | 2 => 165 | 3 => 166 | 4 => 167 | 5 => 162 | 6 => 168 | 7 => 169 | 8 => 23 | 9 => 24 | _ => 0) = [163, 164, 165, 166, 167, 162, 168, 169, 23, 24] := by rfl
                rw [hs] at hA
                have hac := hA.act (fun t ht => by
                  have h8 : t = 163 ∨ t = 164 ∨ t = 165 ∨ t = 166 ∨ t = 167 ∨ t = 162 ∨ t = 168 ∨ t = 169 ∨ t = 23 ∨ t = 24 := by simpa using ht
                  rcases h8 with rfl | rfl | rfl | rfl | rfl | rfl | rfl | rfl | rfl | rfl <;> exact Nat.lt_of_lt_of_le (by decide : _ < 197) (Nat.le_refl 197))
                rw [List.foldl_cons, List.foldl_cons, List.foldl_cons, List.foldl_cons, List.foldl_cons, List.foldl_cons, List.foldl_cons, List.foldl_cons, List.foldl_cons, List.foldl_cons, List.foldl_nil] at hac
                have z10 : sl ac 23 = .pointer (some ⟨g, 0, none⟩) := z10
                have z11 : sl ac 24 = .int .i64 0 := z11
                rw [z10, z11] at hac
                generalize sl ac 163 = x163 at hac
                generalize sl ac 164 = x164 at hac
                generalize sl ac 165 = x165 at hac
                generalize sl ac 166 = x166 at hac
                generalize sl ac 167 = x167 at hac
                generalize sl ac 162 = x162 at hac
                generalize sl ac 168 = x168 at hac
                generalize sl ac 169 = x169 at hac
                clear hA hs hVV z10 z11
                subst hac
                simp only [Act.put, List.setIfInBounds_toArray, List.set_cons_succ, List.set_cons_zero]
                have hf2 : f2 = cv := by
                  have h2 : Lies wn _ (.mk 2 false cv ⟨#[]⟩ [] []) #[.int .i64 f0, .bool f1, .int .i64 f2, .string f3, .slice f4 f4l f4c, .slice f5 f5l f5c] := hf.out
                  cases h2
                  rfl
                subst hf2
                have HBN := Lib.hid hbn
                have hrgn := HR1.out.kept (grown_of_below HBN.out none) (by simp) (by simp)
                have HRN := Lib.hid hrgn
                have HLF := Lib.hid hleft
                clear hrgn hleft hbn x0 x1 x2 x3 x4 x5
                obtain ⟨z0, z1, z2, z3, z4, z5⟩ := hbx.out.six
                go_wp2_with fail
                go_roundw
                case rel => exact ⟨_, cnt1, HRN.out, bstep HB1C.out HBN.out HB1C.out.size⟩
                case measure => rw [HRN.out.left_eq, HLF.out]; exact HLT2.out

end Go.Proofs.YthjdeckdklhphaaGreatDoor
