/-
  Package values' over: a value laid over another one, if what comes of it may be.
-/
import Derived.Test.YtlniokpekcoodaaGreatDoorPathCM
import Derived.Test.YtlniokpekcoodaaGreatDoorOverZM
import Derived.Test.YtlniokpekcoodaaGreatDoorRightM
import Derived.Test.YtlniokpekcoodaaGreatDoorTCheck
import Derived.Test.YtlniokpekcoodaaGreatDoorVals
import Derived.Lib.SlTrimSet
import Derived.Lib.IndexLaws
import Derived.Lib.CutLaws
import Derived.Lib.Hide
set_option linter.unusedVariables false
set_option linter.unusedSimpArgs false
namespace Go.Proofs.YtlniokpekcoodaaGreatDoor
open Go.RowKit

/-- A value that may be, or nothing and what is wrong with it. -/
def overC (o : T) : T × Int := if o.check = 0 then (o, 0) else (T.nil, o.check)
def SetIn (w : World) (r : T × Int) (e : Ending) (w' : World) : Prop := ∃ ds, e = .returned (.tuple #[.agg ds, .int .i64 r.2]) ∧ Lies w' (fun b => w.heap.size ≤ b) r.1 ds ∧ Below w.heap.size w w'

theorem box6_cells {w : World} {g : Nat} {cs : Array Value} (h : Box6 w g cs) (hs : cs.size = 6) : ∀ i, i < 6 → ∃ u, w.cell? ⟨g, i, none⟩ = some u := fun i hi => ⟨_, (h i hi).trans (Array.getElem?_eq_getElem (by omega))⟩

set_option maxRecDepth 100000 in
set_option maxHeartbeats 2000000 in
theorem vover_any {w0 : World} {R1 R2 : Nat → Prop} {t u : T} {cs ds : Array Value} (h1 : Lies w0 R1 t cs) (h2 : Lies w0 R2 u ds) (w : World) (hw : Below w0.heap.size w0 w) (hts : t.size ≤ 1000000) (hus : u.size ≤ 1000000) :
    Calls Tryz.prog 30 #[.agg cs, .agg ds] w (SetIn w (overC (T.over t u))) := by
  obtain ⟨c0, c1, c2, c3, c4, c4l, c4c, c5, c5l, c5c, rfl⟩ := h1.six
  obtain ⟨d0, d1, d2, d3, d4, d4l, d4c, d5, d5l, d5c, rfl⟩ := h2.six
  have hsz := over_sz u t
  have H1 := Lib.hid h1
  have H2 := Lib.hid h2
  obtain ⟨o, ho⟩ : ∃ o, o = T.over t u := ⟨_, rfl⟩
  rw [← ho] at hsz ⊢
  have hoz : o.size ≤ 4611686018427387904 := by omega
  obtain ⟨dd, hu, hdd⟩ := Tryz.structV
  have DD := Lib.hid hdd
  have HU := Lib.hid hu
  have hb3 : Below w.heap.size w (((w.alloc (.cells #[.int .i64 c0, .bool c1, .int .i64 c2, .string c3, .slice c4 c4l c4c, .slice c5 c5l c5c] 25)).alloc (.cells #[.int .i64 d0, .bool d1, .int .i64 d2, .string d3, .slice d4 d4l d4c, .slice d5 d5l d5c] 25)).alloc (.cells zeroV 25)) := (((Below.refl _ _).alloc (Nat.le_refl _) _).alloc (by simp) _).alloc (by simp; omega) _
  have b1 : Box6 (((w.alloc (.cells #[.int .i64 c0, .bool c1, .int .i64 c2, .string c3, .slice c4 c4l c4c, .slice c5 c5l c5c] 25)).alloc (.cells #[.int .i64 d0, .bool d1, .int .i64 d2, .string d3, .slice d4 d4l d4c, .slice d5 d5l d5c] 25)).alloc (.cells zeroV 25)) w.heap.size #[.int .i64 c0, .bool c1, .int .i64 c2, .string c3, .slice c4 c4l c4c, .slice c5 c5l c5c] := (Box6.new w _ 25).later (((Below.refl (w.heap.size + 1) _).alloc (by simp) _).alloc (by simp) _) (by omega)
  have b2 : Box6 (((w.alloc (.cells #[.int .i64 c0, .bool c1, .int .i64 c2, .string c3, .slice c4 c4l c4c, .slice c5 c5l c5c] 25)).alloc (.cells #[.int .i64 d0, .bool d1, .int .i64 d2, .string d3, .slice d4 d4l d4c, .slice d5 d5l d5c] 25)).alloc (.cells zeroV 25)) (w.heap.size + 1) #[.int .i64 d0, .bool d1, .int .i64 d2, .string d3, .slice d4 d4l d4c, .slice d5 d5l d5c] := by
    have := Box6.new (w.alloc (.cells #[.int .i64 c0, .bool c1, .int .i64 c2, .string c3, .slice c4 c4l c4c, .slice c5 c5l c5c] 25)) #[.int .i64 d0, .bool d1, .int .i64 d2, .string d3, .slice d4 d4l d4c, .slice d5 d5l d5c] 25
    rw [World.size_alloc] at this
    exact this.later ((Below.refl (w.heap.size + 1 + 1) _).alloc (by simp) _) (by omega)
  have b3 := Box6.new ((w.alloc (.cells #[.int .i64 c0, .bool c1, .int .i64 c2, .string c3, .slice c4 c4l c4c, .slice c5 c5l c5c] 25)).alloc (.cells #[.int .i64 d0, .bool d1, .int .i64 d2, .string d3, .slice d4 d4l d4c, .slice d5 d5l d5c] 25)) zeroV 25
  have t3 := Thaw.new ((w.alloc (.cells #[.int .i64 c0, .bool c1, .int .i64 c2, .string c3, .slice c4 c4l c4c, .slice c5 c5l c5c] 25)).alloc (.cells #[.int .i64 d0, .bool d1, .int .i64 d2, .string d3, .slice d4 d4l d4c, .slice d5 d5l d5c] 25)) zeroV 25
  rw [World.size_alloc, World.size_alloc] at b3 t3
  have es3 : (((w.alloc (.cells #[.int .i64 c0, .bool c1, .int .i64 c2, .string c3, .slice c4 c4l c4c, .slice c5 c5l c5c] 25)).alloc (.cells #[.int .i64 d0, .bool d1, .int .i64 d2, .string d3, .slice d4 d4l d4c, .slice d5 d5l d5c] 25)).alloc (.cells zeroV 25)).heap.size = w.heap.size + 3 := by simp
  have HB3 := Lib.hid hb3
  have B1 := Lib.hid b1
  have B2 := Lib.hid b2
  have B3 := Lib.hid b3
  have T3 := Lib.hid t3
  have ES3 := Lib.hid es3
  clear hdd hu h1 h2 hb3 b1 b2 b3 t3 es3
  go_enter Tryz.func30, Tryz.ntmps30
  go_upto_region 1 with fail
  generalize ((w.alloc (.cells #[.int .i64 c0, .bool c1, .int .i64 c2, .string c3, .slice c4 c4l c4c, .slice c5 c5l c5c] 25)).alloc (.cells #[.int .i64 d0, .bool d1, .int .i64 d2, .string d3, .slice d4 d4l d4c, .slice d5 d5l d5c] 25)).alloc (.cells zeroV 25) = v at *
  have hvs := Nat.le_of_eq ES3.out.symm
  have HWV := Lib.hid (bstep hw HB3.out hw.size)
  obtain ⟨x0, x1, x2, x3, x4, x5⟩ := B1.out.six
  obtain ⟨y0, y1, y2, y3, y4, y5⟩ := B2.out.six
  have OV := over_any H1.out H2.out v HWV.out hts hus
  rw [← ho] at OV
  have OVH := Lib.hid OV
  clear OV ho
  go_upto_region 2 with (go_at_call 57; refine OVH.out.mono ?_; rintro e w1 ⟨ms, rfl, hL, hb⟩; obtain ⟨m0, m1, m2, m3, m4, m4l, m4c, m5, m5l, m5c, rfl⟩ := hL.six; have HL1 := Lib.hid hL; have HB4 := Lib.hid hb; clear hL hb)
  have hb5 : Below v.heap.size v (w1.alloc (.cells #[.int .i64 m0, .bool m1, .int .i64 m2, .string m3, .slice m4 m4l m4c, .slice m5 m5l m5c] 25)) := HB4.out.alloc HB4.out.size _
  have HL := Lib.hid (HL1.out.later ((Below.refl _ _).alloc (Nat.le_refl _) (.cells #[.int .i64 m0, .bool m1, .int .i64 m2, .string m3, .slice m4 m4l m4c, .slice m5 m5l m5c] 25)))
  have hz : w1.heap.size < (w1.alloc (.cells #[.int .i64 m0, .bool m1, .int .i64 m2, .string m3, .slice m4 m4l m4c, .slice m5 m5l m5c] 25)).heap.size := by simp
  have HZ := Lib.hid hz
  have BM := Lib.hid (Box6.new w1 #[.int .i64 m0, .bool m1, .int .i64 m2, .string m3, .slice m4 m4l m4c, .slice m5 m5l m5c] 25)
  have HB5 := Lib.hid hb5
  clear hz hb5
  generalize w1.alloc (.cells #[.int .i64 m0, .bool m1, .int .i64 m2, .string m3, .slice m4 m4l m4c, .slice m5 m5l m5c] 25) = w2 at *
  obtain ⟨z0, z1, z2, z3, z4, z5⟩ := BM.out.six
  have CK := Lib.hid (tCheck_any HL.out w2 (Below.refl _ _) hoz)
  obtain ⟨c, hc⟩ : ∃ c, c = o.check := ⟨_, rfl⟩
  have HR : Hid (overC o = if c = 0 then (o, 0) else (T.nil, c)) := by show _ = _; rw [hc]; rfl
  rw [← hc] at CK
  clear hc
  go_upto_region 3 with (go_at_call 58; refine CK.out.mono ?_; rintro e w3 ⟨rfl, hb⟩; have HB6 := Lib.hid hb; clear hb)
  have hb7 : Below v.heap.size v w3 := bstep HB5.out HB6.out HB5.out.size
  have HB7 := Lib.hid hb7
  obtain ⟨m0', m1', m2', m3', m4', m5'⟩ := (BM.out.later HB6.out HZ.out).six
  obtain ⟨q0, q1, q2, q3, q4, q5⟩ := (B3.out.later hb7 (by omega)).six
  obtain ⟨f0, f1, f2, f3, f4, f5⟩ := (T3.out.later hb7 (by omega)).six
  clear hb7
  by_cases h0 : c = 0
  case pos =>
    subst h0
    go_wp2_with fail
    all_goals
      refine ret_cells_tmp w3 (w.heap.size + 1 + 1) [.int .i64 m0, .bool m1, .int .i64 m2, .string m3, .slice m4 m4l m4c, .slice m5 m5l m5c] rfl Tryz.results30 rfl rfl DD.out HU.out Tryz.sizeV (box6_cells (B3.out.later HB7.out (by omega)) rfl) ?_
      have hbf := setRow_below (w.heap.size + 1 + 1) (by omega) [.int .i64 m0, .bool m1, .int .i64 m2, .string m3, .slice m4 m4l m4c, .slice m5 m5l m5c] w3 0 (bstep HB3.out HB7.out HB3.out.size)
      have hl := (HL.out.later HB6.out).keep (w' := setRow w3 (w.heap.size + 1 + 1) 0 [.int .i64 m0, .bool m1, .int .i64 m2, .string m3, .slice m4 m4l m4c, .slice m5 m5l m5c]) (fun b hb => setRow_heap _ _ _ _ _ (by omega))
      generalize setRow w3 (w.heap.size + 1 + 1) 0 [.int .i64 m0, .bool m1, .int .i64 m2, .string m3, .slice m4 m4l m4c, .slice m5 m5l m5c] = v2 at hbf hl ⊢
      rw [HR.out]
      first | rw [if_pos trivial] | rw [if_pos rfl]
      exact ⟨_, rfl, hl.weaken (fun b hb => by omega), hbf⟩
  case neg =>
    have h1 : (c == 0) = false := by rw [beq_eq_false_iff_ne]; exact h0
    have h2 : (c != 0) = true := by rw [bne_iff_ne]; exact h0
    have HC := Lib.hid h0
    clear h0
    go_wp2_with fail
    all_goals
      refine ret_cells_tmp w3 (w.heap.size + 1 + 1) zeroV.toList rfl Tryz.results30 rfl rfl DD.out HU.out Tryz.sizeV (box6_cells (B3.out.later HB7.out (by omega)) rfl) ?_
      have hbf := setRow_below (w.heap.size + 1 + 1) (by omega) zeroV.toList w3 0 (bstep HB3.out HB7.out HB3.out.size)
      generalize setRow w3 (w.heap.size + 1 + 1) 0 zeroV.toList = v2 at hbf ⊢
      rw [HR.out, if_neg HC.out]
      exact ⟨_, rfl, nil_lies _ _, hbf⟩

end Go.Proofs.YtlniokpekcoodaaGreatDoor

/-
  Texts' bytes, and the reference's Quote: a text in double quotes.
-/
set_option linter.unusedVariables false
set_option linter.unusedSimpArgs false
namespace Go.Proofs.YtlniokpekcoodaaGreatDoor
open Go.RowKit

def escB (b : UInt8) : List UInt8 := if b = 10 then [92, 110] else if b = 9 then [92, 116] else if b = 34 ∨ b = 92 then [92, b] else [b]
def quoteL (l : List UInt8) : List UInt8 := 34 :: (l.flatMap escB ++ [34])

theorem app_mk (a b : List UInt8) : (⟨a.toArray⟩ : ByteArray) ++ ⟨b.toArray⟩ = ⟨(a ++ b).toArray⟩ := by
  apply ByteArray.ext
  rw [ByteArray.data_append]
  simp
theorem ext_drop (s : ByteArray) (j : Nat) : (s.extract j s.size).data.toList = s.data.toList.drop j := by
  rw [Lib.extract_eq]
  show List.take _ _ = _
  exact List.take_of_length_le (by rw [List.length_drop, ← Lib.size_eq]; exact Nat.le_refl _)
theorem drop_step (s : ByteArray) (j : Nat) (h : j < s.size) : s.data.toList.drop j = s[j] :: s.data.toList.drop (j + 1) := by
  have := List.drop_eq_getElem_cons (l := s.data.toList) (i := j) (by simpa using h)
  rw [this]
  simp [ByteArray.getElem_eq_getElem_data]
theorem extract_one (s : ByteArray) (k : Nat) (h : k < s.size) : s.extract k (k + 1) = ⟨[s[k]].toArray⟩ := by
  rw [← Lib.mk_data (s.extract k (k + 1)), Lib.extract_eq]
  congr 2
  rw [show k + 1 - k = 1 by omega, List.drop_eq_getElem_cons (by simpa using h)]
  simp [ByteArray.getElem_eq_getElem_data]
theorem take_one (s : ByteArray) (k : Nat) (h : k < s.size) : s.data.toList.take (k + 1) = s.data.toList.take k ++ [s[k]] := by
  rw [List.take_succ_eq_append_getElem (by simpa using h)]; rfl
theorem escB_len (b : UInt8) : (escB b).length ≤ 2 := by
  unfold escB
  split <;> (try split) <;> (try split) <;> simp
theorem esc_len (l : List UInt8) : (l.flatMap escB).length ≤ 2 * l.length := by
  induction l with
  | nil => simp
  | cons b l ih =>
    rw [List.flatMap_cons, List.length_append, List.length_cons]
    have := escB_len b
    omega

theorem byte_four (c : Nat) : (((c : Int) == 10) = true ∧ c = 10) ∨ (((c : Int) == 10) = false ∧ ((c : Int) == 9) = true ∧ c = 9) ∨ (((c : Int) == 10) = false ∧ ((c : Int) == 9) = false ∧ ((c : Int) == 34) = true ∧ c = 34) ∨ (((c : Int) == 10) = false ∧ ((c : Int) == 9) = false ∧ ((c : Int) == 34) = false ∧ ((c : Int) == 92) = true ∧ c = 92) ∨ (((c : Int) == 10) = false ∧ ((c : Int) == 9) = false ∧ ((c : Int) == 34) = false ∧ ((c : Int) == 92) = false ∧ c ≠ 10 ∧ c ≠ 9 ∧ c ≠ 34 ∧ c ≠ 92) := by
  simp only [beq_iff_eq, beq_eq_false_iff_ne, ne_eq]
  omega

/-- What Quote has of the first k bytes. -/
def qot (s : ByteArray) (k : Nat) : ByteArray := ⟨(34 :: (s.data.toList.take k).flatMap escB).toArray⟩
theorem qot_size (s : ByteArray) (k : Nat) (hk : k ≤ s.size) : (qot s k).size ≤ 1 + 2 * k := by
  rw [qot, Lib.size_eq]
  have h1 := esc_len (s.data.toList.take k)
  have h2 := List.length_take_le k s.data.toList
  simp only [List.length_cons]
  omega
theorem qot_step (s : ByteArray) (k : Nat) (h : k < s.size) : qot s (k + 1) = qot s k ++ ⟨(escB s[k]).toArray⟩ := by
  rw [qot, qot, app_mk, take_one s k h, List.flatMap_append]
  simp
theorem byteIs {b c : UInt8} (h : b.toNat = c.toNat) : b = c := UInt8.toNat_inj.1 h
theorem esc_ten {b : UInt8} (h : b.toNat = 10) : escB b = [92, 110] := by
  have e : b = 10 := byteIs h
  subst e; rfl
theorem esc_nine {b : UInt8} (h : b.toNat = 9) : escB b = [92, 116] := by
  have e : b = 9 := byteIs h
  subst e; rfl
theorem esc_bs {b : UInt8} (h : b.toNat = 34 ∨ b.toNat = 92) : escB b = [92, b] := by
  rcases h with h | h
  · have e : b = 34 := byteIs h
    subst e; rfl
  · have e : b = 92 := byteIs h
    subst e; rfl
theorem esc_self {b : UInt8} (h1 : b.toNat ≠ 10) (h2 : b.toNat ≠ 9) (h3 : b.toNat ≠ 34) (h4 : b.toNat ≠ 92) : escB b = [b] := by
  rw [escB, if_neg (fun e => h1 (by rw [e]; rfl)), if_neg (fun e => h2 (by rw [e]; rfl)), if_neg (fun e => e.elim (fun e => h3 (by rw [e]; rfl)) (fun e => h4 (by rw [e]; rfl)))]

set_option maxHeartbeats 1000000 in
theorem r4Quote_any (s : ByteArray) (hs : s.size ≤ 1000000000) (w : World) :
    Calls Tryz.prog 16 #[.string s] w fun e w' => e = .returned (.string ⟨(quoteL s.data.toList).toArray⟩) ∧ w' = w := by
  go_enter Tryz.func16, Tryz.ntmps16
  go_wp2_with fail
  go_loop [3, 4] (fun vo vi => ∃ k : Nat, k ≤ s.size ∧ vi = .int .i64 k ∧ vo = .string (qot s k)) (fun _ vi => s.size - (intOf vi).toNat)
  case atStart => exact ⟨0, Nat.zero_le _, rfl, rfl⟩
  case round =>
    obtain ⟨k, hk, rfl, rfl⟩ := hrel
    have hqz := qot_size s k hk
    by_cases hkl : k < s.size
    · have HX := Lib.hid (extract_one s k hkl)
      have HS := Lib.hid (qot_step s k hkl)
      have hez : (s.extract k (k + 1)).size ≤ 1 := by rw [HX.out, Lib.size_eq]; simp
      have e2 : (⟨#[92, 110]⟩ : ByteArray).size = 2 := rfl
      have e3 : (⟨#[92, 116]⟩ : ByteArray).size = 2 := rfl
      have e4 : (⟨#[92]⟩ : ByteArray).size = 1 := rfl
      rcases byte_four (s[k]).toNat with ⟨c1, n1⟩ | ⟨c1, c2, n1⟩ | ⟨c1, c2, c3, n1⟩ | ⟨c1, c2, c3, c4, n1⟩ | ⟨c1, c2, c3, c4, n1, n2, n3, n4⟩
      · have N1 := Lib.hid n1
        clear n1
        go_wp2_with fail
        go_round
        case rel => exact ⟨k + 1, by omega, by go_num, by rw [HS.out, esc_ten N1.out]⟩
        case measure => simp [intOf]; omega
      · have N1 := Lib.hid n1
        clear n1
        go_wp2_with fail
        go_round
        case rel => exact ⟨k + 1, by omega, by go_num, by rw [HS.out, esc_nine N1.out]⟩
        case measure => simp [intOf]; omega
      · have N1 := Lib.hid n1
        clear n1
        have hsz2 : (qot s k ++ ⟨#[92]⟩ : ByteArray).size ≤ 2 + 2 * k := by rw [ByteArray.size_append, e4]; omega
        go_wp2_with fail
        go_round
        case rel => exact ⟨k + 1, by omega, by go_num, by
          rw [HS.out, esc_bs (.inl N1.out), HX.out, show ([92, s[k]] : List UInt8) = [92] ++ [s[k]] from rfl, ← app_mk, ByteArray.append_assoc]⟩
        case measure => simp [intOf]; omega
      · have N1 := Lib.hid n1
        clear n1
        have hsz2 : (qot s k ++ ⟨#[92]⟩ : ByteArray).size ≤ 2 + 2 * k := by rw [ByteArray.size_append, e4]; omega
        go_wp2_with fail
        go_round
        case rel => exact ⟨k + 1, by omega, by go_num, by
          rw [HS.out, esc_bs (.inr N1.out), HX.out, show ([92, s[k]] : List UInt8) = [92] ++ [s[k]] from rfl, ← app_mk, ByteArray.append_assoc]⟩
        case measure => simp [intOf]; omega
      · have N1 := Lib.hid (esc_self n1 n2 n3 n4)
        clear n1 n2 n3 n4
        go_wp2_with fail
        go_round
        case rel => exact ⟨k + 1, by omega, by go_num, by rw [HS.out, N1.out, HX.out]⟩
        case measure => simp [intOf]; omega
    · have e5 : (⟨#[34]⟩ : ByteArray).size = 1 := rfl
      go_wp2_with fail
      go_ret
      have hfin : (⟨(34 :: List.flatMap escB s.data.toList).toArray⟩ : ByteArray) ++ ⟨#[34]⟩ = ⟨(quoteL s.data.toList).toArray⟩ := app_mk _ [34]
      refine ⟨congrArg (fun x => Ending.returned (.string x)) ?_, rfl⟩
      have : s.data.toList.take k = s.data.toList := List.take_of_length_le (by rw [← Lib.size_eq]; omega)
      rw [qot, this]
      exact hfin

end Go.Proofs.YtlniokpekcoodaaGreatDoor
