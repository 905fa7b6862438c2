/-
  TreeOrders, walked.
-/
import Derived.Test.YthjdeckdklhphaaGreatDoorAwakeM
import Derived.Test.YthjdeckdklhphaaGreatDoorMapNilM
import Derived.Test.YthjdeckdklhphaaGreatDoorRight
import Derived.Test.YthjdeckdklhphaaGreatDoorFnLst
set_option linter.unusedVariables false
set_option linter.unusedSimpArgs false
namespace Go.Proofs.YthjdeckdklhphaaGreatDoor
open Go.RowKit Go.Sort

theorem tSame_any {w0 : World} {R1 R2 : Nat → Prop} {t u : T} {cs ds : Array Value} (h : Lies w0 R1 t cs) (h2 : Lies w0 R2 u ds) (w : World) (hw : Below w0.heap.size w0 w) :
    Calls Tryz.prog 75 #[.agg cs, .agg ds] w fun e w' => e = .returned (.bool (T.cmp t u == 0)) ∧ Below w.heap.size w w' := by
  have HC := Lib.hid (fun w hw => tCompare_any h h2 w hw)
  obtain ⟨k, b, n, s, la, ll, lc, ma, ml, mc, rfl⟩ := h.six
  obtain ⟨k', b', n', s', la', ll', lc', ma', ml', mc', rfl⟩ := h2.six
  go_enter Tryz.func75, Tryz.ntmps75
  go_wp2_with fail
  refine (HC.out _ (bbox (bbox hw _ hw.size) _ (by have := hw.size; simp; omega))).mono ?_
  rintro e w1 ⟨rfl, hb1⟩
  go_wp2_with fail
  go_ret
  exact ⟨rfl, bunbox (bunbox hb1 (Nat.le_refl _) (by simp)) (by simp) (by simp)⟩

/-- Three values behind each other in a new block. -/
theorem three_values {w1 : World} {R1 R2 R3 : Nat → Prop} {t u v : T} {k k' k'' : Int} {b b' b'' : Bool} {n n' n'' : Int} {s s' s'' : ByteArray} {la la' la'' : Option Addr} {ll ll' ll'' lc lc' lc'' : Nat} {ma ma' ma'' : Option Addr} {ml ml' ml'' mc mc' mc'' : Nat}
    (h1 : Lies w1 R1 t #[.int .i64 k, .bool b, .int .i64 n, .string s, .slice la ll lc, .slice ma ml mc]) (h2 : Lies w1 R2 u #[.int .i64 k', .bool b', .int .i64 n', .string s', .slice la' ll' lc', .slice ma' ml' mc']) (h3 : Lies w1 R3 v #[.int .i64 k'', .bool b'', .int .i64 n'', .string s'', .slice la'' ll'' lc'', .slice ma'' ml'' mc'']) :
    SliceV (w1.alloc (.cells #[.int .i64 k, .bool b, .int .i64 n, .string s, .slice la ll lc, .slice ma ml mc, .int .i64 k', .bool b', .int .i64 n', .string s', .slice la' ll' lc', .slice ma' ml' mc', .int .i64 k'', .bool b'', .int .i64 n'', .string s'', .slice la'' ll'' lc'', .slice ma'' ml'' mc''] 28)) (fun _ => True) [t, u, v] (some ⟨w1.heap.size, 0, none⟩) 3
      (fun i => if i = 0 then #[.int .i64 k, .bool b, .int .i64 n, .string s, .slice la ll lc, .slice ma ml mc] else if i = 1 then #[.int .i64 k', .bool b', .int .i64 n', .string s', .slice la' ll' lc', .slice ma' ml' mc'] else #[.int .i64 k'', .bool b'', .int .i64 n'', .string s'', .slice la'' ll'' lc'', .slice ma'' ml'' mc'']) := by
  have hb := Below.alloc (Below.refl w1.heap.size w1) (Nat.le_refl _) (.cells #[.int .i64 k, .bool b, .int .i64 n, .string s, .slice la ll lc, .slice ma ml mc, .int .i64 k', .bool b', .int .i64 n', .string s', .slice la' ll' lc', .slice ma' ml' mc', .int .i64 k'', .bool b'', .int .i64 n'', .string s'', .slice la'' ll'' lc'', .slice ma'' ml'' mc''] 28)
  refine ⟨⟨Nat.le_refl 3, (by decide : 3 * 88 ≤ 140737488355328), by simp, fun _ => ⟨_, _, rfl, trivial⟩, by omega⟩, fun i hi bl ol e => ?_, fun i hi => ?_⟩
  · simp only [Option.some.injEq, Addr.mk.injEq, and_true] at e
    obtain ⟨rfl, rfl⟩ := e
    have hi3 : i < 3 := hi
    intro j hj
    have hj6 : j < 6 := by
      rcases (by omega : i = 0 ∨ i = 1 ∨ i = 2) with rfl | rfl | rfl <;> exact hj
    rw [Nat.zero_add, World.cell?_alloc_new]
    rcases (by omega : i = 0 ∨ i = 1 ∨ i = 2) with rfl | rfl | rfl <;> rcases (by omega : j = 0 ∨ j = 1 ∨ j = 2 ∨ j = 3 ∨ j = 4 ∨ j = 5) with rfl | rfl | rfl | rfl | rfl | rfl <;> rfl
  · have hi3 : i < 3 := hi
    rcases (by omega : i = 0 ∨ i = 1 ∨ i = 2) with rfl | rfl | rfl
    · exact (h1.later hb).weaken fun _ _ => trivial
    · exact (h2.later hb).weaken fun _ _ => trivial
    · exact (h3.later hb).weaken fun _ _ => trivial

/-- The boxes of three arguments, later. -/
theorem arg_boxes {w wr : World} {A B C : Array Value} {t1 t2 t3 : TypeId} {o4 : Obj} {N : Nat} (h : Below N ((((w.alloc (.cells A t1)).alloc (.cells B t2)).alloc (.cells C t3)).alloc o4) wr) (hN : w.heap.size + 3 ≤ N) (j : Nat) :
    wr.cell? ⟨w.heap.size, j, none⟩ = A[j]? ∧ wr.cell? ⟨w.heap.size + 1, j, none⟩ = B[j]? ∧ wr.cell? ⟨w.heap.size + 1 + 1, j, none⟩ = C[j]? := by
  have e1 : w.heap.size + 1 = (w.alloc (.cells A t1)).heap.size := by simp
  have e2 : w.heap.size + 1 + 1 = ((w.alloc (.cells A t1)).alloc (.cells B t2)).heap.size := by simp
  refine ⟨?_, ?_, ?_⟩
  · rw [h.cell (p := ⟨w.heap.size, j, none⟩) (by simp only; omega), World.cell?_alloc_lt _ _ _ (by simp; omega), World.cell?_alloc_lt _ _ _ (by simp; omega), World.cell?_alloc_lt _ _ _ (by simp), World.cell?_alloc_new]
  · rw [h.cell (p := ⟨w.heap.size + 1, j, none⟩) (by simp only; omega), World.cell?_alloc_lt _ _ _ (by simp), World.cell?_alloc_lt _ _ _ (by simp), e1, World.cell?_alloc_new]
  · rw [h.cell (p := ⟨w.heap.size + 1 + 1, j, none⟩) (by simp only; omega), World.cell?_alloc_lt _ _ _ (by simp), e2, World.cell?_alloc_new]

end Go.Proofs.YthjdeckdklhphaaGreatDoor

/-
  Package funcs' has: does a list have a value that is this one.
-/
set_option linter.unusedVariables false
set_option linter.unusedSimpArgs false
namespace Go.Proofs.YthjdeckdklhphaaGreatDoor
open Go.RowKit

/-- The place of the first so; -1: there is none. -/
def hitIx {α : Type} (p : α → Bool) (l : List α) : Int := match l.findIdx? p with | some i => (i : Int) | none => -1
theorem hitIx_none {α : Type} (p : α → Bool) (l : List α) (h : ∀ i (hi : i < l.length), p l[i] = false) : hitIx p l = -1 := by
  unfold hitIx
  rw [List.findIdx?_eq_none_iff.2 fun x hx => by obtain ⟨i, hi, rfl⟩ := List.getElem_of_mem hx; simpa using h i hi]
theorem hitIx_hit {α : Type} (p : α → Bool) (l : List α) (j : Nat) (hj : j < l.length) (h : ∀ i (hi : i < l.length), i < j → p l[i] = false) (he : p l[j] = true) : hitIx p l = j := by
  unfold hitIx
  have : l.findIdx? p = some j := by
    rw [List.findIdx?_eq_some_iff_getElem]
    exact ⟨hj, he, fun i hi => by simpa using h i (by omega) hi⟩
  rw [this]
theorem hitIx_any {α : Type} (p : α → Bool) (l : List α) : decide (0 ≤ hitIx p l) = l.any p := by
  unfold hitIx
  cases h : l.findIdx? p with
  | none =>
    have h2 := List.findIdx?_eq_none_iff.1 h
    have : l.any p = false := List.any_eq_false.2 fun x hx => by rw [h2 x hx]; simp
    rw [this]; rfl
  | some i =>
    have h2 := List.findIdx?_eq_some_iff_getElem.1 h
    have : l.any p = true := List.any_eq_true.2 ⟨l[i]'h2.1, List.getElem_mem _, h2.2.1⟩
    rw [this]
    show decide (0 ≤ (i : Int)) = true
    exact decide_eq_true (by omega)
/-- Is a value this one? -/
def isT (u t : T) : Bool := T.cmp t u == 0

set_option maxRecDepth 100000 in
set_option maxHeartbeats 2000000 in
theorem fhas1_any {w0 : World} {R1 R2 : Nat → Prop} {t u : T} {cs ds : Array Value} (h : Lies w0 R1 t cs) (h2 : Lies w0 R2 u ds) (kb : Nat) (w : World) (hw : Below w0.heap.size w0 w) (hk : Box6 w kb ds) (hkb : kb < w.heap.size) :
    Calls Tryz.prog 74 #[.agg cs, .pointer (some ⟨kb, 0, none⟩)] w fun e w' => e = .returned (.bool (isT u t)) ∧ Below w.heap.size w w' := by
  obtain ⟨c0, c1, c2, c3, c4, c4l, c4c, c5, c5l, c5c, rfl⟩ := h.six
  obtain ⟨d0, d1, d2, d3, d4, d4l, d4c, d5, d5l, d5c, rfl⟩ := h2.six
  have SM := Lib.hid (fun w' hw' => tSame_any h h2 w' hw')
  unfold isT
  generalize (T.cmp t u == 0) = r at SM ⊢
  have hbv := (Below.refl w.heap.size w).alloc (Nat.le_refl _) (.cells #[.int .i64 c0, .bool c1, .int .i64 c2, .string c3, .slice c4 c4l c4c, .slice c5 c5l c5c] 28)
  have b1 := Box6.new w #[.int .i64 c0, .bool c1, .int .i64 c2, .string c3, .slice c4 c4l c4c, .slice c5 c5l c5c] 28
  have B2 := Lib.hid (hk.later hbv hkb)
  have HV := Lib.hid hbv
  have B1 := Lib.hid b1
  clear h h2 hk hbv b1
  go_enter Tryz.func74, Tryz.ntmps74
  go_upto_region 1 with fail
  generalize w.alloc (.cells #[.int .i64 c0, .bool c1, .int .i64 c2, .string c3, .slice c4 c4l c4c, .slice c5 c5l c5c] 28) = v at *
  have HWV := Lib.hid (bstep hw HV.out hw.size)
  obtain ⟨x0, x1, x2, x3, x4, x5⟩ := B1.out.six
  obtain ⟨y0, y1, y2, y3, y4, y5⟩ := B2.out.six
  go_wp2_with (go_at_call 75; refine (SM.out _ HWV.out).mono ?_; rintro e w5 ⟨rfl, hb5⟩)
  go_ret
  exact ⟨rfl, bstep HV.out hb5 HV.out.size⟩

set_option maxHeartbeats 1000000 in
theorem indexH_any {w0 : World} {R R2 : Nat → Prop} {ts : List T} {a : Option Addr} {cap : Nat} {cl : Nat → Array Value} {u : T} {ds : Array Value} (h : SliceV w0 R ts a cap cl) (h2 : Lies w0 R2 u ds) (kb : Nat) (w : World) (hw : Below w0.heap.size w0 w) (hk : Box6 w kb ds) (hkb : kb < w.heap.size) :
    Calls Tryz.prog 68 #[.slice a ts.length cap, .func (Fn.func 74) #[] #[.pointer (some ⟨kb, 0, none⟩)]] w fun e w' => e = .returned (.int .i64 (hitIx (isT u) ts)) ∧ Below w.heap.size w w' := by
  have hl := h.hdr
  have ll := hl.le
  have lx := hl.big
  have KN := Lib.hid (hitIx_none (isT u) ts)
  have KH := Lib.hid (hitIx_hit (isT u) ts)
  have HC := Lib.hid (fun i (p : i < ts.length) (w : World) (hw : Below w0.heap.size w0 w) (hk : Box6 w kb ds) (hkb : kb < w.heap.size) => fhas1_any (h.each i p) h2 kb w hw hk hkb)
  have HK := Lib.hid hk
  clear hk h2
  go_enter Tryz.func68, Tryz.ntmps68
  go_wp2_with fail
  go_loopw [5, 8] (fun _ vi wr => ∃ j : Nat, j ≤ ts.length ∧ vi = .int .i64 j ∧ Hid (∀ i (hi : i < ts.length), i < j → isT u ts[i] = false) ∧ Below w.heap.size w wr) (fun _ vi _ => ts.length - (intOf vi).toNat)
  case atStart => exact ⟨0, by omega, rfl, fun i _ hi => absurd hi (Nat.not_lt_zero _), Below.refl _ _⟩
  case round =>
    obtain ⟨j, hj, rfl, h0, hbw⟩ := hrel
    have hbw2 := bstep hw hbw hw.size
    have hks := Nat.lt_of_lt_of_le hkb hbw.size
    have HK2 := Lib.hid (HK.out.later hbw hkb)
    by_cases hjl : j < ts.length
    · have KJ := Lib.hid (KH.out j hjl h0.out)
      have CJ := Lib.hid (HC.out j hjl)
      obtain ⟨bl, ol, c0, c1, c2, c3, c4, c4l, c4c, c5, c5l, c5c, rfl, hcl, r0, r1, r2, r3, r4, r5⟩ := openL hbw2 hl h.rows hjl (h.each j hjl)
      rw [hcl] at CJ
      clear hcl
      go_wp2_with fail
      refine (CJ.out _ hbw2 HK2.out hks).mono ?_
      rintro e w1 ⟨rfl, hb1⟩
      have hb2 := bstep hbw hb1 hbw.size
      cases hd : isT u ts[j] with
      | true =>
        have HR := Lib.hid (KJ.out hd)
        clear hd
        go_wp2_with fail
        go_ret
        exact ⟨ret_int HR.out.symm, hb2⟩
      | false =>
        have HR := Lib.hid hd
        clear hd
        go_wp2_with fail
        go_roundw
        case rel => exact ⟨j + 1, by omega, by go_num, fun i hi hij => by
          by_cases e : i = j
          · subst e; exact HR.out
          · exact h0.out i hi (by omega), hb2⟩
        case measure => simp [intOf]; omega
    · obtain rfl : j = ts.length := by omega
      have HR := Lib.hid (KN.out fun i hi => h0.out i hi hi)
      go_wp2_with fail
      go_ret
      exact ⟨ret_int HR.out.symm, hbw⟩

set_option maxHeartbeats 1000000 in
theorem containsH_any {w0 : World} {R R2 : Nat → Prop} {ts : List T} {a : Option Addr} {cap : Nat} {cl : Nat → Array Value} {u : T} {ds : Array Value} (h : SliceV w0 R ts a cap cl) (h2 : Lies w0 R2 u ds) (kb : Nat) (w : World) (hw : Below w0.heap.size w0 w) (hk : Box6 w kb ds) (hkb : kb < w.heap.size) :
    Calls Tryz.prog 73 #[.slice a ts.length cap, .func (Fn.func 74) #[] #[.pointer (some ⟨kb, 0, none⟩)]] w fun e w' => e = .returned (.bool (ts.any (isT u))) ∧ Below w.heap.size w w' := by
  have IX := Lib.hid (indexH_any h h2 kb w hw hk hkb)
  rw [← hitIx_any]
  generalize hitIx (isT u) ts = ix at IX ⊢
  clear h h2 hk
  go_enter Tryz.func73, Tryz.ntmps73
  go_wp2_with (go_at_call 68; refine IX.out.mono ?_; rintro e w5 ⟨rfl, hb5⟩)
  go_ret
  exact ⟨rfl, hb5⟩

set_option maxRecDepth 100000 in
set_option maxHeartbeats 2000000 in
theorem fhas_list {w0 : World} {R R2 : Nat → Prop} {ts : List T} {u : T} {cs ds : Array Value} (h : Lies w0 R (T.listOf ts) cs) (h2 : Lies w0 R2 u ds) (w : World) (hw : Below w0.heap.size w0 w) :
    Calls Tryz.prog 42 #[.agg ds, .agg cs] w fun e w' => e = .returned (.tuple #[.agg #[.int .i64 1, .bool (ts.any (isT u)), .int .i64 0, .string ⟨#[]⟩, .slice none 0 0, .slice none 0 0], .int .i64 0]) ∧ Below w.heap.size w w' := by
  obtain ⟨c0, c1, c2, c3, c4, c4l, c4c, c5, c5l, c5c, rfl⟩ := h.six
  have hk : c0 = 4 ∧ c4l = ts.length := by cases h; exact ⟨rfl, rfl⟩
  obtain ⟨rfl, rfl⟩ := hk
  have hS : ∃ cl, SliceV w0 R ts c4 c4c cl := by
    have h2 : Lies w0 R (.mk 4 false 0 ⟨#[]⟩ ts []) #[.int .i64 4, .bool c1, .int .i64 c2, .string c3, .slice c4 ts.length c4c, .slice c5 c5l c5c] := h
    cases h2 with
    | mk k b n s l m la lc ma mc cl cm hk hn hs hl hm rl rm ks il im => exact ⟨cl, hl, rl, il⟩
  obtain ⟨cl, hS⟩ := hS
  obtain ⟨d0, d1, d2, d3, d4, d4l, d4c, d5, d5l, d5c, rfl⟩ := h2.six
  have CO := Lib.hid (fun kb w' hw' hk hkb => containsH_any hS h2 kb w' hw' hk hkb)
  generalize ts.any (isT u) = r at CO ⊢
  clear hS h h2
  obtain ⟨dd, hu, hdd⟩ := Tryz.structV
  have DD := Lib.hid hdd
  have HU := Lib.hid hu
  clear hdd hu
  have hbv : Below w.heap.size w (((w.alloc (.cells #[.int .i64 d0, .bool d1, .int .i64 d2, .string d3, .slice d4 d4l d4c, .slice d5 d5l d5c] 28)).alloc (.cells #[.int .i64 4, .bool c1, .int .i64 c2, .string c3, .slice c4 ts.length c4c, .slice c5 c5l c5c] 28)).alloc (.cells zeroV 28)) := ((((Below.refl _ _).alloc (Nat.le_refl _) _).alloc (by simp) _).alloc (by simp; omega) _)
  have b0 : Box6 (((w.alloc (.cells #[.int .i64 d0, .bool d1, .int .i64 d2, .string d3, .slice d4 d4l d4c, .slice d5 d5l d5c] 28)).alloc (.cells #[.int .i64 4, .bool c1, .int .i64 c2, .string c3, .slice c4 ts.length c4c, .slice c5 c5l c5c] 28)).alloc (.cells zeroV 28)) (w.heap.size) #[.int .i64 d0, .bool d1, .int .i64 d2, .string d3, .slice d4 d4l d4c, .slice d5 d5l d5c] := by
    have := Box6.new w #[.int .i64 d0, .bool d1, .int .i64 d2, .string d3, .slice d4 d4l d4c, .slice d5 d5l d5c] 28
    exact this.later (((Below.refl (w.heap.size + 1) _).alloc (by simp) _).alloc (by simp) _) (by omega)
  have b1 : Box6 (((w.alloc (.cells #[.int .i64 d0, .bool d1, .int .i64 d2, .string d3, .slice d4 d4l d4c, .slice d5 d5l d5c] 28)).alloc (.cells #[.int .i64 4, .bool c1, .int .i64 c2, .string c3, .slice c4 ts.length c4c, .slice c5 c5l c5c] 28)).alloc (.cells zeroV 28)) (w.heap.size + 1) #[.int .i64 4, .bool c1, .int .i64 c2, .string c3, .slice c4 ts.length c4c, .slice c5 c5l c5c] := by
    have := Box6.new (w.alloc (.cells #[.int .i64 d0, .bool d1, .int .i64 d2, .string d3, .slice d4 d4l d4c, .slice d5 d5l d5c] 28)) #[.int .i64 4, .bool c1, .int .i64 c2, .string c3, .slice c4 ts.length c4c, .slice c5 c5l c5c] 28
    simp only [World.size_alloc] at this
    exact this.later ((Below.refl (w.heap.size + 1 + 1) _).alloc (by simp) _) (by omega)
  have b2 : Box6 (((w.alloc (.cells #[.int .i64 d0, .bool d1, .int .i64 d2, .string d3, .slice d4 d4l d4c, .slice d5 d5l d5c] 28)).alloc (.cells #[.int .i64 4, .bool c1, .int .i64 c2, .string c3, .slice c4 ts.length c4c, .slice c5 c5l c5c] 28)).alloc (.cells zeroV 28)) (w.heap.size + 1 + 1) zeroV := by
    have := Box6.new ((w.alloc (.cells #[.int .i64 d0, .bool d1, .int .i64 d2, .string d3, .slice d4 d4l d4c, .slice d5 d5l d5c] 28)).alloc (.cells #[.int .i64 4, .bool c1, .int .i64 c2, .string c3, .slice c4 ts.length c4c, .slice c5 c5l c5c] 28)) zeroV 28
    simp only [World.size_alloc] at this
    exact this
  have tz := Thaw.new ((w.alloc (.cells #[.int .i64 d0, .bool d1, .int .i64 d2, .string d3, .slice d4 d4l d4c, .slice d5 d5l d5c] 28)).alloc (.cells #[.int .i64 4, .bool c1, .int .i64 c2, .string c3, .slice c4 ts.length c4c, .slice c5 c5l c5c] 28)) zeroV 28
  simp only [World.size_alloc] at tz
  have es : (((w.alloc (.cells #[.int .i64 d0, .bool d1, .int .i64 d2, .string d3, .slice d4 d4l d4c, .slice d5 d5l d5c] 28)).alloc (.cells #[.int .i64 4, .bool c1, .int .i64 c2, .string c3, .slice c4 ts.length c4c, .slice c5 c5l c5c] 28)).alloc (.cells zeroV 28)).heap.size = w.heap.size + 3 := by simp
  have B0 := Lib.hid b0
  have B1 := Lib.hid b1
  have B2 := Lib.hid b2
  have TZ := Lib.hid tz
  have HV := Lib.hid hbv
  have ES := Lib.hid es
  clear hbv tz es b0 b1 b2
  go_enter Tryz.func42, Tryz.ntmps42
  go_upto_region 1 with fail
  generalize (((w.alloc (.cells #[.int .i64 d0, .bool d1, .int .i64 d2, .string d3, .slice d4 d4l d4c, .slice d5 d5l d5c] 28)).alloc (.cells #[.int .i64 4, .bool c1, .int .i64 c2, .string c3, .slice c4 ts.length c4c, .slice c5 c5l c5c] 28)).alloc (.cells zeroV 28)) = v at *
  have hvs := Nat.le_of_eq ES.out.symm
  have HWV := Lib.hid (bstep hw HV.out hw.size)
  obtain ⟨x0, x1, x2, x3, x4, x5⟩ := B0.out.six
  obtain ⟨y0, y1, y2, y3, y4, y5⟩ := B1.out.six
  go_upto_region 4 with (go_at_call 73; refine (CO.out _ _ HWV.out B0.out (by omega)).mono ?_; rintro e w5 ⟨rfl, hb5⟩; have HV5 := Lib.hid hb5; clear hb5)
  go_wp2_with (go_at_call 30; refine (tBool_any _ _).mono ?_; rintro e w6 ⟨rfl, hb6⟩; have HV6 := Lib.hid (bstep HV5.out hb6 HV5.out.size); obtain ⟨c0', c1', c2', c3', c4', c5'⟩ := (B2.out.later HV6.out (by omega)).six; obtain ⟨f0, f1, f2, f3, f4, f5⟩ := (TZ.out.later HV6.out (by omega)).six; clear hb6)
  exact ret_cells_tmp w6 (w.heap.size + 1 + 1) [.int .i64 1, .bool r, .int .i64 0, .string ⟨#[]⟩, .slice none 0 0, .slice none 0 0] rfl Tryz.results42 rfl rfl DD.out HU.out Tryz.sizeV ((B2.out.later HV6.out (by omega)).cells rfl) ⟨rfl, setRow_below _ (by omega) _ _ _ (bstep HV.out HV6.out HV.out.size)⟩

end Go.Proofs.YthjdeckdklhphaaGreatDoor
