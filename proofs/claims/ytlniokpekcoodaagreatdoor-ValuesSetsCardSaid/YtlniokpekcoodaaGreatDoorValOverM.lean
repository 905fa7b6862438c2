/-
  Package values' over: a value laid over another one, if what comes of it may be.
-/
import Derived.Test.YtlniokpekcoodaaGreatDoorPathCM
import Derived.Test.YtlniokpekcoodaaGreatDoorOverZM
import Derived.Test.YtlniokpekcoodaaGreatDoorRightM
import Derived.Test.YtlniokpekcoodaaGreatDoorTCheck
import Derived.Lib.Split
import Derived.Lib.Join
import Derived.Lib.MapLaws
import Derived.Shelf.GgClosure.StringsIndexFunc
set_option linter.unusedVariables false
set_option linter.unusedSimpArgs false
namespace Go.Proofs.YtlniokpekcoodaaGreatDoor
open Go.RowKit

/-- A value that may be, or nothing and what is wrong with it. -/
def overC (o : T) : T × Int := if o.check = 0 then (o, 0) else (T.nil, o.check)
def SetIn (w : World) (r : T × Int) (e : Ending) (w' : World) : Prop := ∃ ds, e = .returned (.tuple #[.agg ds, .int .i64 r.2]) ∧ Lies w' (fun b => w.heap.size ≤ b) r.1 ds ∧ Below w.heap.size w w'

theorem box6_cells {w : World} {g : Nat} {cs : Array Value} (h : Box6 w g cs) (hs : cs.size = 6) : ∀ i, i < 6 → ∃ u, w.cell? ⟨g, i, none⟩ = some u := fun i hi => ⟨_, (h i hi).trans (Array.getElem?_eq_getElem (by omega))⟩

set_option maxRecDepth 100000 in
set_option maxHeartbeats 2000000 in
theorem vover_any {w0 : World} {R1 R2 : Nat → Prop} {t u : T} {cs ds : Array Value} (h1 : Lies w0 R1 t cs) (h2 : Lies w0 R2 u ds) (w : World) (hw : Below w0.heap.size w0 w) (hts : t.size ≤ 1000000) (hus : u.size ≤ 1000000) :
    Calls Tryz.prog 30 #[.agg cs, .agg ds] w (SetIn w (overC (T.over t u))) := by
  obtain ⟨c0, c1, c2, c3, c4, c4l, c4c, c5, c5l, c5c, rfl⟩ := h1.six
  obtain ⟨d0, d1, d2, d3, d4, d4l, d4c, d5, d5l, d5c, rfl⟩ := h2.six
  have hsz := over_sz u t
  have H1 := Lib.hid h1
  have H2 := Lib.hid h2
  obtain ⟨o, ho⟩ : ∃ o, o = T.over t u := ⟨_, rfl⟩
  rw [← ho] at hsz ⊢
  have hoz : o.size ≤ 4611686018427387904 := by omega
  obtain ⟨dd, hu, hdd⟩ := Tryz.structV
  have DD := Lib.hid hdd
  have HU := Lib.hid hu
  have hb3 : Below w.heap.size w (((w.alloc (.cells #[.int .i64 c0, .bool c1, .int .i64 c2, .string c3, .slice c4 c4l c4c, .slice c5 c5l c5c] 25)).alloc (.cells #[.int .i64 d0, .bool d1, .int .i64 d2, .string d3, .slice d4 d4l d4c, .slice d5 d5l d5c] 25)).alloc (.cells zeroV 25)) := (((Below.refl _ _).alloc (Nat.le_refl _) _).alloc (by simp) _).alloc (by simp; omega) _
  have b1 : Box6 (((w.alloc (.cells #[.int .i64 c0, .bool c1, .int .i64 c2, .string c3, .slice c4 c4l c4c, .slice c5 c5l c5c] 25)).alloc (.cells #[.int .i64 d0, .bool d1, .int .i64 d2, .string d3, .slice d4 d4l d4c, .slice d5 d5l d5c] 25)).alloc (.cells zeroV 25)) w.heap.size #[.int .i64 c0, .bool c1, .int .i64 c2, .string c3, .slice c4 c4l c4c, .slice c5 c5l c5c] := (Box6.new w _ 25).later (((Below.refl (w.heap.size + 1) _).alloc (by simp) _).alloc (by simp) _) (by omega)
  have b2 : Box6 (((w.alloc (.cells #[.int .i64 c0, .bool c1, .int .i64 c2, .string c3, .slice c4 c4l c4c, .slice c5 c5l c5c] 25)).alloc (.cells #[.int .i64 d0, .bool d1, .int .i64 d2, .string d3, .slice d4 d4l d4c, .slice d5 d5l d5c] 25)).alloc (.cells zeroV 25)) (w.heap.size + 1) #[.int .i64 d0, .bool d1, .int .i64 d2, .string d3, .slice d4 d4l d4c, .slice d5 d5l d5c] := by
    have := Box6.new (w.alloc (.cells #[.int .i64 c0, .bool c1, .int .i64 c2, .string c3, .slice c4 c4l c4c, .slice c5 c5l c5c] 25)) #[.int .i64 d0, .bool d1, .int .i64 d2, .string d3, .slice d4 d4l d4c, .slice d5 d5l d5c] 25
    rw [World.size_alloc] at this
    exact this.later ((Below.refl (w.heap.size + 1 + 1) _).alloc (by simp) _) (by omega)
  have b3 := Box6.new ((w.alloc (.cells #[.int .i64 c0, .bool c1, .int .i64 c2, .string c3, .slice c4 c4l c4c, .slice c5 c5l c5c] 25)).alloc (.cells #[.int .i64 d0, .bool d1, .int .i64 d2, .string d3, .slice d4 d4l d4c, .slice d5 d5l d5c] 25)) zeroV 25
  have t3 := Thaw.new ((w.alloc (.cells #[.int .i64 c0, .bool c1, .int .i64 c2, .string c3, .slice c4 c4l c4c, .slice c5 c5l c5c] 25)).alloc (.cells #[.int .i64 d0, .bool d1, .int .i64 d2, .string d3, .slice d4 d4l d4c, .slice d5 d5l d5c] 25)) zeroV 25
  rw [World.size_alloc, World.size_alloc] at b3 t3
  have es3 : (((w.alloc (.cells #[.int .i64 c0, .bool c1, .int .i64 c2, .string c3, .slice c4 c4l c4c, .slice c5 c5l c5c] 25)).alloc (.cells #[.int .i64 d0, .bool d1, .int .i64 d2, .string d3, .slice d4 d4l d4c, .slice d5 d5l d5c] 25)).alloc (.cells zeroV 25)).heap.size = w.heap.size + 3 := by simp
  have HB3 := Lib.hid hb3
  have B1 := Lib.hid b1
  have B2 := Lib.hid b2
  have B3 := Lib.hid b3
  have T3 := Lib.hid t3
  have ES3 := Lib.hid es3
  clear hdd hu h1 h2 hb3 b1 b2 b3 t3 es3
  go_enter Tryz.func30, Tryz.ntmps30
  go_upto_region 1 with fail
  generalize ((w.alloc (.cells #[.int .i64 c0, .bool c1, .int .i64 c2, .string c3, .slice c4 c4l c4c, .slice c5 c5l c5c] 25)).alloc (.cells #[.int .i64 d0, .bool d1, .int .i64 d2, .string d3, .slice d4 d4l d4c, .slice d5 d5l d5c] 25)).alloc (.cells zeroV 25) = v at *
  have hvs := Nat.le_of_eq ES3.out.symm
  have HWV := Lib.hid (bstep hw HB3.out hw.size)
  obtain ⟨x0, x1, x2, x3, x4, x5⟩ := B1.out.six
  obtain ⟨y0, y1, y2, y3, y4, y5⟩ := B2.out.six
  have OV := over_any H1.out H2.out v HWV.out hts hus
  rw [← ho] at OV
  have OVH := Lib.hid OV
  clear OV ho
  go_upto_region 2 with (go_at_call 57; refine OVH.out.mono ?_; rintro e w1 ⟨ms, rfl, hL, hb⟩; obtain ⟨m0, m1, m2, m3, m4, m4l, m4c, m5, m5l, m5c, rfl⟩ := hL.six; have HL1 := Lib.hid hL; have HB4 := Lib.hid hb; clear hL hb)
  have hb5 : Below v.heap.size v (w1.alloc (.cells #[.int .i64 m0, .bool m1, .int .i64 m2, .string m3, .slice m4 m4l m4c, .slice m5 m5l m5c] 25)) := HB4.out.alloc HB4.out.size _
  have HL := Lib.hid (HL1.out.later ((Below.refl _ _).alloc (Nat.le_refl _) (.cells #[.int .i64 m0, .bool m1, .int .i64 m2, .string m3, .slice m4 m4l m4c, .slice m5 m5l m5c] 25)))
  have hz : w1.heap.size < (w1.alloc (.cells #[.int .i64 m0, .bool m1, .int .i64 m2, .string m3, .slice m4 m4l m4c, .slice m5 m5l m5c] 25)).heap.size := by simp
  have HZ := Lib.hid hz
  have BM := Lib.hid (Box6.new w1 #[.int .i64 m0, .bool m1, .int .i64 m2, .string m3, .slice m4 m4l m4c, .slice m5 m5l m5c] 25)
  have HB5 := Lib.hid hb5
  clear hz hb5
  generalize w1.alloc (.cells #[.int .i64 m0, .bool m1, .int .i64 m2, .string m3, .slice m4 m4l m4c, .slice m5 m5l m5c] 25) = w2 at *
  obtain ⟨z0, z1, z2, z3, z4, z5⟩ := BM.out.six
  have CK := Lib.hid (tCheck_any HL.out w2 (Below.refl _ _) hoz)
  obtain ⟨c, hc⟩ : ∃ c, c = o.check := ⟨_, rfl⟩
  have HR : Hid (overC o = if c = 0 then (o, 0) else (T.nil, c)) := by show _ = _; rw [hc]; rfl
  rw [← hc] at CK
  clear hc
  go_upto_region 3 with (go_at_call 58; refine CK.out.mono ?_; rintro e w3 ⟨rfl, hb⟩; have HB6 := Lib.hid hb; clear hb)
  have hb7 : Below v.heap.size v w3 := bstep HB5.out HB6.out HB5.out.size
  have HB7 := Lib.hid hb7
  obtain ⟨m0', m1', m2', m3', m4', m5'⟩ := (BM.out.later HB6.out HZ.out).six
  obtain ⟨q0, q1, q2, q3, q4, q5⟩ := (B3.out.later hb7 (by omega)).six
  obtain ⟨f0, f1, f2, f3, f4, f5⟩ := (T3.out.later hb7 (by omega)).six
  clear hb7
  by_cases h0 : c = 0
  case pos =>
    subst h0
    go_wp2_with fail
    all_goals
      refine ret_cells_tmp w3 (w.heap.size + 1 + 1) [.int .i64 m0, .bool m1, .int .i64 m2, .string m3, .slice m4 m4l m4c, .slice m5 m5l m5c] rfl Tryz.results30 rfl rfl DD.out HU.out Tryz.sizeV (box6_cells (B3.out.later HB7.out (by omega)) rfl) ?_
      have hbf := setRow_below (w.heap.size + 1 + 1) (by omega) [.int .i64 m0, .bool m1, .int .i64 m2, .string m3, .slice m4 m4l m4c, .slice m5 m5l m5c] w3 0 (bstep HB3.out HB7.out HB3.out.size)
      have hl := (HL.out.later HB6.out).keep (w' := setRow w3 (w.heap.size + 1 + 1) 0 [.int .i64 m0, .bool m1, .int .i64 m2, .string m3, .slice m4 m4l m4c, .slice m5 m5l m5c]) (fun b hb => setRow_heap _ _ _ _ _ (by omega))
      generalize setRow w3 (w.heap.size + 1 + 1) 0 [.int .i64 m0, .bool m1, .int .i64 m2, .string m3, .slice m4 m4l m4c, .slice m5 m5l m5c] = v2 at hbf hl ⊢
      rw [HR.out]
      first | rw [if_pos trivial] | rw [if_pos rfl]
      exact ⟨_, rfl, hl.weaken (fun b hb => by omega), hbf⟩
  case neg =>
    have h1 : (c == 0) = false := by rw [beq_eq_false_iff_ne]; exact h0
    have h2 : (c != 0) = true := by rw [bne_iff_ne]; exact h0
    have HC := Lib.hid h0
    clear h0
    go_wp2_with fail
    all_goals
      refine ret_cells_tmp w3 (w.heap.size + 1 + 1) zeroV.toList rfl Tryz.results30 rfl rfl DD.out HU.out Tryz.sizeV (box6_cells (B3.out.later HB7.out (by omega)) rfl) ?_
      have hbf := setRow_below (w.heap.size + 1 + 1) (by omega) zeroV.toList w3 0 (bstep HB3.out HB7.out HB3.out.size)
      generalize setRow w3 (w.heap.size + 1 + 1) 0 zeroV.toList = v2 at hbf ⊢
      rw [HR.out, if_neg HC.out]
      exact ⟨_, rfl, nil_lies _ _, hbf⟩

end Go.Proofs.YtlniokpekcoodaaGreatDoor

/-
  Paths that are written: words, their cut at each dot, and the way back.
-/
set_option linter.unusedVariables false
set_option linter.unusedSimpArgs false
namespace Go.Proofs.YtlniokpekcoodaaGreatDoor

/-- May a byte stand in a word? -/
def inWord (c : UInt8) : Bool := (97 ≤ c && c ≤ 122) || (65 ≤ c && c ≤ 90) || (48 ≤ c && c ≤ 57) || c == 95 || c == 45
/-- May a text be a word? -/
def wordL (l : List UInt8) : Bool := l.all inWord && decide (0 < l.length) && decide (l.length ≤ 256)
/-- A text, cut at each dot. -/
def cutD : List UInt8 → List (List UInt8)
  | [] => [[]]
  | c :: r => if c = 46 then [] :: cutD r else match cutD r with
    | [] => [[c]]
    | h :: t => (c :: h) :: t
theorem cutD_ne : ∀ l, cutD l ≠ []
  | [] => by simp [cutD]
  | c :: r => by
    unfold cutD
    split
    · simp
    · split <;> simp
theorem cutD_len : ∀ l, (cutD l).length = l.count 46 + 1
  | [] => rfl
  | c :: r => by
    have h := cutD_len r
    unfold cutD
    by_cases hc : c = 46
    · subst hc
      rw [if_pos rfl, List.length_cons, h, List.count_cons_self]
    · rw [if_neg hc, List.count_cons_of_ne (by simpa using hc)]
      cases e : cutD r with
      | nil => exact absurd e (cutD_ne r)
      | cons a b =>
        rw [e] at h
        simpa using h
/-- What one byte more does. -/
def moreD (c : UInt8) (L : List (List UInt8)) : List (List UInt8) := if c = 46 then L ++ [[]] else L.dropLast ++ [L.getLastD [] ++ [c]]
theorem cutD_snoc (c : UInt8) : ∀ l, cutD (l ++ [c]) = moreD c (cutD l)
  | [] => by
    unfold moreD
    by_cases hc : c = 46
    · subst hc; rfl
    · simp [cutD, hc]
  | d :: r => by
    have h := cutD_snoc c r
    have hne := cutD_ne r
    rw [List.cons_append]
    unfold cutD
    rw [h]
    cases e : cutD r with
    | nil => exact absurd e hne
    | cons a b =>
      by_cases hd : d = 46
      · subst hd
        rw [if_pos rfl, if_pos rfl]
        unfold moreD
        split
        · simp
        · simp [List.dropLast, List.getLastD]
      · rw [if_neg hd, if_neg hd]
        unfold moreD
        by_cases hc : c = 46
        · simp [hc]
        · cases b with
          | nil => simp [hc]
          | cons b1 b2 => simp [hc, List.dropLast, List.getLastD]
/-- Joined by dots. -/
def joinD (L : List (List UInt8)) : List UInt8 := Lib.join L [46]
theorem joinD_cons (a : List UInt8) (b : List UInt8) (r : List (List UInt8)) : joinD (a :: b :: r) = a ++ 46 :: joinD (b :: r) := by
  simp [joinD, Lib.join, List.intercalate, List.intersperse]
theorem joinD_one (a : List UInt8) : joinD [a] = a := Lib.join_one a [46]
theorem joinD_cut : ∀ l, joinD (cutD l) = l
  | [] => rfl
  | c :: r => by
    have h := joinD_cut r
    have hne := cutD_ne r
    unfold cutD
    cases e : cutD r with
    | nil => exact absurd e hne
    | cons a b =>
      rw [e] at h
      by_cases hc : c = 46
      · subst hc
        rw [if_pos rfl, joinD_cons, h]
        rfl
      · rw [if_neg hc]
        show joinD ((c :: a) :: b) = _
        cases b with
        | nil =>
          rw [joinD_one] at h ⊢
          rw [h]
        | cons b1 b2 =>
          rw [joinD_cons] at h ⊢
          rw [← h]
          rfl
theorem cutD_pre : ∀ (a l : List UInt8), (46 : UInt8) ∉ a → cutD (a ++ l) = match cutD l with | [] => [a] | h :: t => (a ++ h) :: t
  | [], l, _ => by
    cases e : cutD l with
    | nil => exact absurd e (cutD_ne l)
    | cons a b => simpa using e
  | c :: r, l, h => by
    have hc : ¬ c = 46 := fun e => h (by rw [e]; exact List.mem_cons_self)
    have ih := cutD_pre r l (fun e => h (List.mem_cons_of_mem _ e))
    cases e : cutD l with
    | nil => exact absurd e (cutD_ne l)
    | cons x y =>
      rw [e] at ih
      rw [List.cons_append]
      conv => lhs; unfold cutD
      rw [if_neg hc, ih]
      rfl
theorem cutD_plain (a : List UInt8) (h : (46 : UInt8) ∉ a) : cutD a = [a] := by
  have e := cutD_pre a [] h
  rw [List.append_nil] at e
  simpa [cutD] using e
theorem cutD_join : ∀ (L : List (List UInt8)), L ≠ [] → (∀ a ∈ L, (46 : UInt8) ∉ a) → cutD (joinD L) = L
  | [], h, _ => absurd rfl h
  | [a], _, h => by rw [joinD_one]; exact cutD_plain a (h a (by simp))
  | a :: b :: r, _, h => by
    have ih := cutD_join (b :: r) (by simp) (fun x hx => h x (List.mem_cons_of_mem _ hx))
    rw [joinD_cons, cutD_pre a _ (h a (by simp))]
    have e : cutD (46 :: joinD (b :: r)) = [] :: cutD (joinD (b :: r)) := by conv => lhs; unfold cutD; rw [if_pos rfl]
    rw [e, ih]
    simp
theorem word_dot {l : List UInt8} (h : wordL l = true) : (46 : UInt8) ∉ l := by
  intro hm
  unfold wordL at h
  simp only [Bool.and_eq_true, List.all_eq_true, decide_eq_true_eq] at h
  have := h.1.1 46 hm
  exact absurd this (by decide)
theorem word_len {l : List UInt8} (h : wordL l = true) : 0 < l.length ∧ l.length ≤ 256 := by
  unfold wordL at h
  simp only [Bool.and_eq_true, decide_eq_true_eq] at h
  exact ⟨h.1.2, h.2⟩
/-- The library's search for one byte. -/
theorem index_dot : ∀ l : List UInt8, Lib.index l [46] = match cutD l with | [] => -1 | [_] => -1 | a :: _ :: _ => (a.length : Int)
  | [] => rfl
  | c :: r => by
    have h := index_dot r
    have hne := cutD_ne r
    unfold Lib.index
    by_cases hc : c = 46
    · subst hc
      have e : cutD (46 :: r) = [] :: cutD r := by conv => lhs; unfold cutD; rw [if_pos rfl]
      rw [e, if_pos (by rfl)]
      cases e2 : cutD r with
      | nil => exact absurd e2 hne
      | cons a b => rfl
    · have hp : ¬ ([46] : List UInt8).isPrefixOf (c :: r) = true := by
        simp [List.isPrefixOf]
        exact fun e => hc e.symm
      rw [if_neg hp, h]
      have e : cutD (c :: r) = match cutD r with | [] => [[c]] | h :: t => (c :: h) :: t := by conv => lhs; unfold cutD; rw [if_neg hc]
      rw [e]
      cases e2 : cutD r with
      | nil => exact absurd e2 hne
      | cons a b =>
        cases b with
        | nil => rfl
        | cons b1 b2 =>
          show (if ((a.length : Int) == -1) = true then _ else _) = _
          rw [if_neg (by simp)]
          show (a.length : Int) + 1 = ((c :: a).length : Int)
          simp
theorem drop_dot : ∀ (l a b : List UInt8) (r : List (List UInt8)), cutD l = a :: b :: r → l.take a.length = a ∧ cutD (l.drop (a.length + 1)) = b :: r
  | [], a, b, r, h => by simp [cutD] at h
  | c :: l, a, b, r, h => by
    have hne := cutD_ne l
    unfold cutD at h
    by_cases hc : c = 46
    · subst hc
      rw [if_pos rfl] at h
      injection h with h1 h2
      subst h1
      exact ⟨rfl, h2⟩
    · rw [if_neg hc] at h
      cases e : cutD l with
      | nil => exact absurd e hne
      | cons x y =>
        rw [e] at h
        injection h with h1 h2
        subst h1
        obtain ⟨h3, h4⟩ := drop_dot l x b r (by rw [e, h2])
        exact ⟨by simp [h3], by simpa using h4⟩
theorem split_dot : ∀ (k : Nat) (l : List UInt8), (cutD l).length ≤ k + 1 → Lib.splitK [46] 0 k l = cutD l
  | 0, l, h => by
    have hne := cutD_ne l
    have hj := joinD_cut l
    cases e : cutD l with
    | nil => exact absurd e hne
    | cons a b =>
      rw [e] at h hj
      cases b with
      | nil => rw [joinD_one] at hj; rw [hj]; rfl
      | cons b1 b2 => simp at h
  | k + 1, l, h => by
    have hne := cutD_ne l
    have hj := joinD_cut l
    have hi := index_dot l
    unfold Lib.splitK
    cases e : cutD l with
    | nil => exact absurd e hne
    | cons a b =>
      rw [e] at h hj hi
      cases b with
      | nil =>
        rw [joinD_one] at hj
        rw [if_pos (by rw [hi]; rfl), hj]
      | cons b1 b2 =>
        obtain ⟨h3, h4⟩ := drop_dot l a b1 b2 e
        have hi2 : Lib.index l [46] = (a.length : Int) := hi
        rw [hi2, if_neg (by simp)]
        show l.take (a.length + 0) :: Lib.splitK [46] 0 k (l.drop (a.length + 1)) = _
        rw [Nat.add_zero, h3, split_dot k _ (by rw [h4]; simp only [List.length_cons] at h ⊢; omega), h4]
theorem count_dot (k : Nat) : ∀ l : List UInt8, l.length ≤ k → Lib.count l [46] = l.count 46 := by
  induction k with
  | zero => intro l h; obtain rfl := List.length_eq_zero_iff.1 (Nat.le_zero.1 h); rfl
  | succ k ih =>
    intro l h
    have hi := index_dot l
    have hl := cutD_len l
    have hne := cutD_ne l
    cases e : cutD l with
    | nil => exact absurd e hne
    | cons a b =>
      rw [e] at hi hl
      cases b with
      | nil =>
        rw [Lib.count_miss hi]
        simp at hl
        omega
      | cons b1 b2 =>
        obtain ⟨h3, h4⟩ := drop_dot l a b1 b2 e
        have hi2 : Lib.index l [46] = (a.length : Int) := hi
        have hal : a.length < l.length := by
          have := congrArg List.length (joinD_cut l)
          rw [e, joinD_cons] at this
          simp at this
          omega
        rw [Lib.count_hit (by simp) hi2, ih _ (by simp; omega)]
        have hl2 := cutD_len (l.drop (a.length + 1))
        rw [h4] at hl2
        simp only [List.length_cons, List.length_nil, Nat.zero_add] at hl hl2 ⊢
        omega
end Go.Proofs.YtlniokpekcoodaaGreatDoor

/-
  Runes of a text that is looked through for what no word has.
-/
set_option linter.unusedVariables false
set_option linter.unusedSimpArgs false
namespace Go.Proofs.YtlniokpekcoodaaGreatDoor
open Go.Lib

/-- A rune that stands in no word. -/
def strangeR (r : Nat) : Bool := !((97 ≤ r && r ≤ 122) || (65 ≤ r && r ≤ 90)) && !(48 ≤ r && r ≤ 57) && r != 95 && r != 45
theorem strange_byte (c : UInt8) : strangeR c.toNat = !inWord c := by
  have h : ∀ c : Fin 256, strangeR (UInt8.ofNat c.val).toNat = !inWord (UInt8.ofNat c.val) := by decide +kernel
  have := h ⟨c.toNat, c.toNat_lt⟩
  simpa using this
theorem strange_high (r : Nat) (h : 128 ≤ r) : strangeR r = true := by
  unfold strangeR
  simp only [Bool.and_eq_true, Bool.not_eq_true', Bool.or_eq_false_iff, Bool.and_eq_false_iff, decide_eq_false_iff_not, bne_iff_ne, ne_eq]
  omega
theorem decode_low (s : ByteArray) (i : Nat) (h : (s.get! i).toNat < 128) : Utf8.decode s i = ((s.get! i).toNat, 1) := by
  rw [decode_at]
  unfold decodeN
  rw [if_pos h]
theorem decode_high (s : ByteArray) (i : Nat) (h : 128 ≤ (s.get! i).toNat) : 128 ≤ (Utf8.decode s i).1 := by
  rw [decode_at]
  rcases decodeN_shape (s.size - i) (s.get! i).toNat (s.get! (i + 1)).toNat (s.get! (i + 2)).toNat (s.get! (i + 3)).toNat with ⟨h1, e⟩ | ⟨_, _, _, h1, e⟩ | ⟨_, _, _, _, h1, _, e⟩ | ⟨_, _, _, _, _, h1, _, e⟩ | e
  · omega
  · rw [e]; exact h1
  · rw [e]; show 128 ≤ _; omega
  · rw [e]; show 128 ≤ _; omega
  · rw [e]; show 128 ≤ 65533; omega
theorem strange_decode (s : ByteArray) (i : Nat) : strangeR (Utf8.decode s i).1 = !inWord (s.get! i) := by
  by_cases h : (s.get! i).toNat < 128
  · rw [decode_low s i h]
    exact strange_byte _
  · rw [strange_high _ (decode_high s i (by omega)), ← strange_byte, strange_high _ (by omega)]
theorem word_width (s : ByteArray) (i : Nat) (h : inWord (s.get! i) = true) : (Utf8.decode s i).2 = 1 := by
  by_cases h2 : (s.get! i).toNat < 128
  · rw [decode_low s i h2]
  · have := strange_byte (s.get! i)
    rw [h, strange_high _ (by omega)] at this
    exact absurd this (by decide)
end Go.Proofs.YtlniokpekcoodaaGreatDoor

/-
  What strings.ContainsFunc finds in a text by the runes that no word has.
-/
set_option linter.unusedVariables false
set_option linter.unusedSimpArgs false
namespace Go.Proofs.YtlniokpekcoodaaGreatDoor
open Go.Lib
theorem drop_get (s : ByteArray) (pos : Nat) (h : pos < s.size) : s.data.toList.drop pos = s.get! pos :: s.data.toList.drop (pos + 1) := by
  have h2 : pos < s.data.toList.length := by simpa using h
  rw [List.drop_eq_getElem_cons h2]
  congr 1
  show _ = s.data[pos]!
  rw [getElem!_pos s.data pos (by simpa using h2)]
  simp
theorem idx_from (s : ByteArray) : ∀ (f pos : Nat), s.size ≤ pos + f → decide (0 ≤ idxFuncFrom strangeR true s f pos) = !((s.data.toList.drop pos).all inWord)
  | 0, pos, h => by
    rw [List.drop_eq_nil_of_le (by simpa using h)]
    rfl
  | f + 1, pos, h => by
    unfold idxFuncFrom
    by_cases hp : pos < s.size
    · rw [if_pos hp, drop_get s pos hp, List.all_cons, strange_decode]
      cases hw : inWord (s.get! pos) with
      | true =>
        rw [if_neg (by decide), word_width s pos hw, idx_from s f (pos + 1) (by omega)]
        rfl
      | false =>
        rw [if_pos (show (!false) = true from rfl)]
        simp
    · rw [if_neg hp, List.drop_eq_nil_of_le (by simp; omega)]
      rfl
theorem idx_word (s : ByteArray) : decide (0 ≤ idxFunc strangeR true s) = !(s.data.toList.all inWord) := idx_from s s.size 0 (by omega)
end Go.Proofs.YtlniokpekcoodaaGreatDoor
