/-
  LayerMisses, walked.
-/
import Derived.Test.YtcafackiofncmaaTwo
import Derived.Test.YtcafackiofncmaaDiff
import Derived.Test.YtcafackiofncmaaLawLast
import Derived.Test.YtcafackiofncmaaDiffZ
import Derived.Test.YtcafackiofncmaaTexts
set_option linter.unusedVariables false
set_option linter.unusedSimpArgs false
namespace Go.Proofs.Ytcafackiofncmaa
open Go.RowKit Go.Sort

def IsV' (cs : Array Value) (x : Value) (_ : World) : Prop := x = .agg cs
theorem isV'_later (cs : Array Value) : ∀ x w w', Below w.heap.size w w' → IsV' cs x w → IsV' cs x w' := fun _ _ _ _ h => h
/-- A slice of one value, in a block of its own. -/
def OneV (v : World) (cs : Array Value) (x : Value) (w : World) : Prop := ∃ w1 : World, Below v.heap.size v w1 ∧ x = .slice (some ⟨w1.heap.size, 0, none⟩) 1 1 ∧ Below (w1.alloc (.cells cs 25)).heap.size (w1.alloc (.cells cs 25)) w
theorem oneV_later (v : World) (cs : Array Value) : ∀ x w w', Below w.heap.size w w' → OneV v cs x w → OneV v cs x w' := fun _ _ _ hb ⟨w1, h1, h2, h3⟩ => ⟨w1, h1, h2, bstep h3 hb h3.size⟩

theorem misses_at {p q : T} (hp : Str p) (hq : Str q) (key : ByteArray) : (T.diff p q).get key = diffAt (p.get key) (q.get key) ∧ (diffAt (p.get key) (q.get key) = none ↔ p.get key = q.get key) := by
  obtain ⟨_, pa, pq⟩ := map_parts hp.parts hp.kind
  obtain ⟨_, qa, qq⟩ := map_parts hq.parts hq.kind
  constructor
  · rw [T.get_find, T.get_find, T.get_find]
    have e : (T.diff p q).pairs = diffR p.pairs q.pairs := by
      have hk := hq.kind
      obtain ⟨k, b, n, s, l, m⟩ := q
      obtain rfl : k = 5 := hk
      rw [diff_map p b n s l m hp.kind, pairs5, pairs5]
    rw [e]
    exact diffR_find key _ _ qa pa
  · rw [T.get_find, T.get_find]
    have h1 : ∀ y, findR key p.pairs = some y → y.parts = 0 ∧ T.over T.nil y = y := fun y h => by
      obtain ⟨r, hr, _, rfl⟩ := findR_mem h
      exact ⟨(pq r hr).2, (hp.pl r hr).2⟩
    have h2 : ∀ x, findR key q.pairs = some x → x.parts = 0 ∧ x.kind ≠ 0 ∧ T.over T.nil x = x := fun x h => by
      obtain ⟨r, hr, _, rfl⟩ := findR_mem h
      exact ⟨(qq r hr).2, (hq.pl r hr).1, (hq.pl r hr).2⟩
    exact same_at _ _ (fun y h => (h1 y h).1) (fun x h => ⟨(h2 x h).2.1, (h2 x h).1⟩) fun y x hy hx hy5 hx5 => (diff_main x y (h1 y hy).1 (h2 x hx).1 hy5 hx5 (Pl.of_plain (h1 y hy).2) (Pl.of_plain (h2 x hx).2.2)).2

set_option maxRecDepth 100000 in
set_option maxHeartbeats 4000000 in
theorem layerMisses_any {w0 : World} {R1 R2 : Nat → Prop} {t u : T} {cs ds : Array Value} (h1 : Lies w0 R1 t cs) (h2 : Lies w0 R2 u ds) {ks : List ByteArray} {ak : Option Addr} {capk : Nat} (hks : SliceS w0 ks ak capk) (w : World) (hw : Below w0.heap.size w0 w) :
    Calls Try.prog 7 #[.agg cs, .agg ds, .slice ak ks.length capk] w fun e w' => e = .returned (.bool true) ∧ Below w.heap.size w w' := by
  have K1 := Lib.hid h1
  have K2 := Lib.hid h2
  obtain ⟨k, b, n, s, la, ll, lc, ma, ml, mc, rfl⟩ := h1.six
  obtain ⟨k', b', n', s', la', ll', lc', ma', ml', mc', rfl⟩ := h2.six
  have kt : t.kind = k := lies_kind h1
  have ku : u.kind = k' := lies_kind h2
  have hw2 := (((Below.refl w.heap.size w).alloc (Nat.le_refl _) (.cells #[.int .i64 k, .bool b, .int .i64 n, .string s, .slice la ll lc, .slice ma ml mc] 25)).alloc (by simp) (.cells #[.int .i64 k', .bool b', .int .i64 n', .string s', .slice la' ll' lc', .slice ma' ml' mc'] 25))
  have g2 := bstep hw hw2 hw.size
  have hw3 := hw2.alloc (by simp; omega) (.cells #[.int .i64 k, .bool b, .int .i64 n, .string s, .slice la ll lc, .slice ma ml mc, .int .i64 k', .bool b', .int .i64 n', .string s', .slice la' ll' lc', .slice ma' ml' mc'] 25)
  have HS := Lib.hid (two_values (h1.later g2) (h2.later g2))
  have HAB := Lib.hid (fun (wr : World) hb => arg_boxes2 (w := w) (wr := wr) (N := w.heap.size + 3) (A := #[.int .i64 k, .bool b, .int .i64 n, .string s, .slice la ll lc, .slice ma ml mc]) (t1 := 25) (B := #[.int .i64 k', .bool b', .int .i64 n', .string s', .slice la' ll' lc', .slice ma' ml' mc']) (t2 := 25) (o3 := .cells #[.int .i64 k, .bool b, .int .i64 n, .string s, .slice la ll lc, .slice ma ml mc, .int .i64 k', .bool b', .int .i64 n', .string s', .slice la' ll' lc', .slice ma' ml' mc'] 25) hb (by omega))
  have HW3 := Lib.hid hw3
  have HKS := Lib.hid hks
  have hkle := hks.le
  have hkbig := hks.big
  clear hw2 g2 hw3 h1 h2 hks
  have hsz : ((w.alloc (.cells #[.int .i64 k, .bool b, .int .i64 n, .string s, .slice la ll lc, .slice ma ml mc] 25)).alloc (.cells #[.int .i64 k', .bool b', .int .i64 n', .string s', .slice la' ll' lc', .slice ma' ml' mc'] 25)).heap.size = w.heap.size + 1 + 1 := by simp
  go_enter Try.func7, Try.ntmps7
  go_wp2_with fail
  have HR := right_any HS.out _ (Below.refl _ _)
  rw [hsz] at HR
  refine HR.mono ?_
  rintro e w5 ⟨rfl, hb5⟩
  have C5 := Lib.hid (bstep HW3.out hb5 (by simp; omega))
  have F5 := Lib.hid (bstep hw C5.out hw.size)
  have hb5' := hb5.mono (show w.heap.size + 3 ≤ _ by simp)
  have BA : Hid (BoxA w5 w.heap.size (.int .i64 k) (.bool b) (.int .i64 n) (.string s) (.slice la ll lc) (.slice ma ml mc)) := ⟨(HAB.out _ hb5' 0).1, (HAB.out _ hb5' 1).1, (HAB.out _ hb5' 2).1, (HAB.out _ hb5' 3).1, (HAB.out _ hb5' 4).1, (HAB.out _ hb5' 5).1⟩
  have BB : Hid (BoxA w5 (w.heap.size + 1) (.int .i64 k') (.bool b') (.int .i64 n') (.string s') (.slice la' ll' lc') (.slice ma' ml' mc')) := ⟨(HAB.out _ hb5' 0).2, (HAB.out _ hb5' 1).2, (HAB.out _ hb5' 2).2, (HAB.out _ hb5' 3).2, (HAB.out _ hb5' 4).2, (HAB.out _ hb5' 5).2⟩
  have xa0 := BA.out.1
  have xb0 := BB.out.1
  have hs5 : w.heap.size + 3 ≤ w5.heap.size := by have := hb5.size; simp at this; omega
  clear hb5 hb5' HAB HW3 HR HS hsz
  cases hg : [t, u].all T.good with
  | false =>
    go_wp2_with fail
    refine (awake3_any _).mono ?_
    rintro e w6 ⟨rfl, hb6⟩
    go_wp2_with fail
    go_ret
    exact ⟨rfl, bstep C5.out hb6 C5.out.size⟩
  | true =>
    by_cases hk : k = 5
    case neg =>
      have f1 : (k != 5) = true := by simp [hk]
      go_wp2_with fail
      refine (awake3_any _).mono ?_
      rintro e w6 ⟨rfl, hb6⟩
      go_wp2_with fail
      go_ret
      exact ⟨rfl, bstep C5.out hb6 C5.out.size⟩
    subst hk
    by_cases hk' : k' = 5
    case neg =>
      have f2 : (k' != 5) = true := by simp [hk']
      go_wp2_with fail
      refine (awake3_any _).mono ?_
      rintro e w6 ⟨rfl, hb6⟩
      go_wp2_with fail
      go_ret
      exact ⟨rfl, bstep C5.out hb6 C5.out.size⟩
    subst hk'
    by_cases hkl : ks.length ≤ 20
    case neg =>
      have f3 : ((ks.length : Int) > 20) := by omega
      have f4 : 20 < ks.length := by omega
      go_wp2_with fail
      refine (awake3_any _).mono ?_
      rintro e w6 ⟨rfl, hb6⟩
      go_wp2_with fail
      go_ret
      exact ⟨rfl, bstep C5.out hb6 C5.out.size⟩
    have f3 : ¬ ((ks.length : Int) > 20) := by omega
    have f4 : ¬ 20 < ks.length := by omega
    have hgg : t.good = true ∧ u.good = true := by simpa using hg
    have htz : t.size ≤ 1000000 := by have := T.light_size (by have := hgg.1; unfold T.good at this; simp at this; exact this.1); omega
    have huz : u.size ≤ 1000000 := by have := T.light_size (by have := hgg.2; unfold T.good at this; simp at this; exact this.1); omega
    have T6 : Hid (t.size ≤ 6000 ∧ u.size ≤ 6000) := ⟨T.light_size (by have := hgg.1; unfold T.good at this; simp at this; exact this.1), T.light_size (by have := hgg.2; unfold T.good at this; simp at this; exact this.1)⟩
    have GP : Hid (t.parts = 0 ∧ u.parts = 0) := ⟨good_parts hgg.1, good_parts hgg.2⟩
    have KT : Hid (t.kind = 5 ∧ u.kind = 5) := ⟨kt, ku⟩
    have OG := Lib.hid (over_get (good_parts hgg.1) (good_parts hgg.2) kt ku)
    have HO := Lib.hid (over_any (K1.out.later F5.out) (K2.out.later F5.out) w5 (Below.refl _ _) htz huz)
    have AO1 : Hid ([t].foldl T.over T.none5 = T.over T.nil t) := over_pairs (t := T.none5) (t' := T.nil) t rfl
    have AO2 : Hid ([u].foldl T.over T.none5 = T.over T.nil u) := over_pairs (t := T.none5) (t' := T.nil) u rfl
    clear hg hgg kt ku xa0 xb0
    obtain ⟨xa0, xa1, xa2, xa3, xa4, xa5⟩ := BA.out
    obtain ⟨xb0, xb1, xb2, xb3, xb4, xb5⟩ := BB.out
    go_wp2_with fail
    refine HO.out.mono ?_
    rintro e w6 ⟨dp, rfl, hLp, hb6⟩
    clear xa0 xa1 xa2 xa3 xa4 xa5 xb0 xb1 xb2 xb3 xb4 xb5 HO
    obtain ⟨r0, r1, r2, r3, r4, r4l, r4c, r5, r5l, r5c, rfl⟩ := hLp.six
    have hA6 := Lib.hid ((Below.refl w6.heap.size w6).alloc (Nat.le_refl _) (.cells #[.int .i64 r0, .bool r1, .int .i64 r2, .string r3, .slice r4 r4l r4c, .slice r5 r5l r5c] 25))
    have BR : Hid (BoxA (w6.alloc (.cells #[.int .i64 r0, .bool r1, .int .i64 r2, .string r3, .slice r4 r4l r4c, .slice r5 r5l r5c] 25)) w6.heap.size (.int .i64 r0) (.bool r1) (.int .i64 r2) (.string r3) (.slice r4 r4l r4c) (.slice r5 r5l r5c)) := BoxA.new _ _ _ _ _ _ _ _
    have VB := Lib.hid (bstep hb6 hA6.out hb6.size)
    have HLR := Lib.hid (hLp.later hA6.out)
    clear hLp hb6 hA6
    go_wp2_with fail
    generalize hv6 : w6.alloc (.cells #[.int .i64 r0, .bool r1, .int .i64 r2, .string r3, .slice r4 r4l r4c, .slice r5 r5l r5c] 25) = v6 at *
    clear hv6
    have F6 := Lib.hid (bstep F5.out VB.out F5.out.size)
    go_cut [8, 9] (fun v5 v6' wx => ∃ (g5 g6 : Nat) (p0 : Int) (p1 : Bool) (p2 : Int) (p3 : ByteArray) (p4 : Option Addr) (p4l p4c : Nat) (p5 : Option Addr) (p5l p5c : Nat) (q0 : Int) (q1 : Bool) (q2 : Int) (q3 : ByteArray) (q4 : Option Addr) (q4l q4c : Nat) (q5 : Option Addr) (q5l q5c : Nat), v5 = .pointer (some ⟨g5, 0, none⟩) ∧ v6' = .pointer (some ⟨g6, 0, none⟩) ∧ Hid (Row wx g5 0 #[.int .i64 p0, .bool p1, .int .i64 p2, .string p3, .slice p4 p4l p4c, .slice p5 p5l p5c]) ∧ Hid (Row wx g6 0 #[.int .i64 q0, .bool q1, .int .i64 q2, .string q3, .slice q4 q4l q4c, .slice q5 q5l q5c]) ∧ Hid (Lies wx (fun b => v6.heap.size ≤ b) (T.over T.nil t) #[.int .i64 p0, .bool p1, .int .i64 p2, .string p3, .slice p4 p4l p4c, .slice p5 p5l p5c]) ∧ Hid (Lies wx (fun b => v6.heap.size ≤ b) (T.over T.nil u) #[.int .i64 q0, .bool q1, .int .i64 q2, .string q3, .slice q4 q4l q4c, .slice q5 q5l q5c]) ∧ Below v6.heap.size v6 wx)
    case first =>
      have M0 := isV'_later #[.int .i64 5, .bool b, .int .i64 n, .string s, .slice la ll lc, .slice ma ml mc]
      have M1 := oneV_later v6 #[.int .i64 5, .bool b, .int .i64 n, .string s, .slice la ll lc, .slice ma ml mc]
      have M3 := isV'_later #[.int .i64 5, .bool b', .int .i64 n', .string s', .slice la' ll' lc', .slice ma' ml' mc']
      have M4 := oneV_later v6 #[.int .i64 5, .bool b', .int .i64 n', .string s', .slice la' ll' lc', .slice ma' ml' mc']
      refine wp_region_keeps (fun a0 d ac wb => Agree [49, 50, 51, 52, 53, 54, 8, 9] a0 ac ∧ Hid (ac.tmps.size = 129) ∧ sl ac 3 = .pointer (some ⟨w.heap.size, 0, none⟩) ∧ sl ac 4 = .pointer (some ⟨w.heap.size + 1, 0, none⟩) ∧ Phase true true v6 (T.over T.nil t) (T.over T.nil u) (IsV' #[.int .i64 5, .bool b, .int .i64 n, .string s, .slice la ll lc, .slice ma ml mc]) (OneV v6 #[.int .i64 5, .bool b, .int .i64 n, .string s, .slice la ll lc, .slice ma ml mc]) (IsV' #[.int .i64 5, .bool b', .int .i64 n', .string s', .slice la' ll' lc', .slice ma' ml' mc']) (OneV v6 #[.int .i64 5, .bool b', .int .i64 n', .string s', .slice la' ll' lc', .slice ma' ml' mc']) d (sl ac 49) (sl ac 50) (sl ac 51) (sl ac 52) (sl ac 53) (sl ac 54) (sl ac 8) (sl ac 9) wb) (by kernel_rfl) (by kernel_rfl) ?_ ?_ ?_
      · exact ⟨Agree.refl _ _, rfl, rfl, rfl, .inl ⟨rfl, rfl, by simp, by simp, by simp, by simp, by simp, by simp, Ph.start (Below.refl _ _).drew _ _ _ _, by simp, by simp⟩⟩
      · intro d ac wb i o K ho hd hdep hI hK
        obtain ⟨hA, hz, s2, s3, hP⟩ := hI
        have hi : i < 10 := by simpa using (Array.getElem?_eq_some_iff.1 ho).1
        rcases (by omega : i = 0 ∨ i = 1 ∨ i = 2 ∨ i = 3 ∨ i = 4 ∨ i = 5 ∨ i = 6 ∨ i = 7 ∨ i = 8 ∨ i = 9) with rfl | rfl | rfl | rfl | rfl | rfl | rfl | rfl | rfl | rfl
        · simp at ho
          subst ho
          refine wpOp_of rfl rfl ?_
          obtain ⟨xa0, xa1, xa2, xa3, xa4, xa5⟩ := BA.out.later (bstep VB.out hP.below VB.out.size)
          have sx : ac.tmps[3]?.getD undef = _ := s2
          go_simp
          refine hK (ac.put (some 49) (.agg #[.int .i64 5, .bool b, .int .i64 n, .string s, .slice la ll lc, .slice ma ml mc])) wb ⟨hA.put (by simp) _, (size_put _ _ _).trans hz.out, (sl_ne (by decide) _).trans s2, (sl_ne (by decide) _).trans s3, ?_⟩
          simp only [sl_if (show (49 : Nat) < ac.tmps.size by have := hz.out; omega), if_true, Nat.reduceEqDiff, if_false, reduceIte]
          exact hP.at0 M0 M1 M3 M4 hd (Below.refl _ _) rfl
        · simp at ho
          subst ho
          refine wpOp_of rfl rfl ?_
          have da := hdep { on := 0, ground := .data } (by simp) rfl
          have xa : ac.tmps[49]?.getD undef = .agg #[.int .i64 5, .bool b, .int .i64 n, .string s, .slice la ll lc, .slice ma ml mc] := (hP.early (by decide) hd).2.2.1 da
          go_simp
          refine hK (ac.put (some 50) (.slice (some ⟨wb.heap.size, 0, none⟩) 1 1)) _ ⟨hA.put (by simp) _, (size_put _ _ _).trans hz.out, (sl_ne (by decide) _).trans s2, (sl_ne (by decide) _).trans s3, ?_⟩
          simp only [sl_if (show (50 : Nat) < ac.tmps.size by have := hz.out; omega), if_true, Nat.reduceEqDiff, if_false, reduceIte]
          exact hP.at1 M0 M1 M3 M4 hd (fun _ => da) ((Below.refl _ _).alloc (Nat.le_refl _) _) ⟨wb, hP.below, rfl, Below.refl _ _⟩
        · simp at ho
          subst ho
          refine wpOp_of rfl rfl ?_
          have db := hdep { on := 1, ground := .data } (by simp) rfl
          have da := (hP.early (by decide) hd).2.2.2.2.2.2.2.2.2.1 rfl db
          obtain ⟨w1, o1, o2, o3⟩ := (hP.early (by decide) hd).2.2.2.1 db
          have xa : ac.tmps[50]?.getD undef = _ := o2
          go_simp
          refine (all_one (K1.out.later (bstep F6.out o1 F6.out.size)) htz wb o3).mono ?_
          rintro e w' ⟨cs, rfl, hL, hb⟩
          rw [AO1.out] at hL
          refine hK (ac.put (some 51) (.agg cs)) w' ⟨hA.put (by simp) _, (size_put _ _ _).trans hz.out, (sl_ne (by decide) _).trans s2, (sl_ne (by decide) _).trans s3, ?_⟩
          simp only [sl_if (show (51 : Nat) < ac.tmps.size by have := hz.out; omega), if_true, Nat.reduceEqDiff, if_false, reduceIte]
          exact hP.at2 M0 M1 M3 M4 hd da db hL hb
        · simp at ho
          subst ho
          refine wpOp_of rfl rfl ?_
          obtain ⟨xb0, xb1, xb2, xb3, xb4, xb5⟩ := BB.out.later (bstep VB.out hP.below VB.out.size)
          have sx : ac.tmps[4]?.getD undef = _ := s3
          go_simp
          refine hK (ac.put (some 52) (.agg #[.int .i64 5, .bool b', .int .i64 n', .string s', .slice la' ll' lc', .slice ma' ml' mc'])) wb ⟨hA.put (by simp) _, (size_put _ _ _).trans hz.out, (sl_ne (by decide) _).trans s2, (sl_ne (by decide) _).trans s3, ?_⟩
          simp only [sl_if (show (52 : Nat) < ac.tmps.size by have := hz.out; omega), if_true, Nat.reduceEqDiff, if_false, reduceIte]
          exact hP.at3 M0 M1 M3 M4 hd (Below.refl _ _) rfl
        · simp at ho
          subst ho
          refine wpOp_of rfl rfl ?_
          have da := hdep { on := 3, ground := .data } (by simp) rfl
          have xa : ac.tmps[52]?.getD undef = .agg #[.int .i64 5, .bool b', .int .i64 n', .string s', .slice la' ll' lc', .slice ma' ml' mc'] := (hP.early (by decide) hd).2.2.2.2.1 da
          go_simp
          refine hK (ac.put (some 53) (.slice (some ⟨wb.heap.size, 0, none⟩) 1 1)) _ ⟨hA.put (by simp) _, (size_put _ _ _).trans hz.out, (sl_ne (by decide) _).trans s2, (sl_ne (by decide) _).trans s3, ?_⟩
          simp only [sl_if (show (53 : Nat) < ac.tmps.size by have := hz.out; omega), if_true, Nat.reduceEqDiff, if_false, reduceIte]
          exact hP.at4 M0 M1 M3 M4 hd (fun _ => da) ((Below.refl _ _).alloc (Nat.le_refl _) _) ⟨wb, hP.below, rfl, Below.refl _ _⟩
        · simp at ho
          subst ho
          refine wpOp_of rfl rfl ?_
          have db := hdep { on := 4, ground := .data } (by simp) rfl
          have da := (hP.early (by decide) hd).2.2.2.2.2.2.2.2.2.2 rfl db
          obtain ⟨w1, o1, o2, o3⟩ := (hP.early (by decide) hd).2.2.2.2.2.1 db
          have xa : ac.tmps[53]?.getD undef = _ := o2
          go_simp
          refine (all_one (K2.out.later (bstep F6.out o1 F6.out.size)) huz wb o3).mono ?_
          rintro e w' ⟨cs, rfl, hL, hb⟩
          rw [AO2.out] at hL
          refine hK (ac.put (some 54) (.agg cs)) w' ⟨hA.put (by simp) _, (size_put _ _ _).trans hz.out, (sl_ne (by decide) _).trans s2, (sl_ne (by decide) _).trans s3, ?_⟩
          simp only [sl_if (show (54 : Nat) < ac.tmps.size by have := hz.out; omega), if_true, Nat.reduceEqDiff, if_false, reduceIte]
          exact hP.at5 M0 M1 M3 M4 hd da db hL hb
        · simp at ho
          subst ho
          refine wpOp_of rfl rfl ?_
          go_simp
          refine hK (ac.put (some 8) (.pointer (some ⟨wb.heap.size, 0, none⟩))) _ ⟨hA.put (by simp) _, (size_put _ _ _).trans hz.out, (sl_ne (by decide) _).trans s2, (sl_ne (by decide) _).trans s3, ?_⟩
          simp only [sl_if (show (8 : Nat) < ac.tmps.size by have := hz.out; omega), if_true, Nat.reduceEqDiff, if_false, reduceIte]
          exact hP.at6 M0 M1 M3 M4 hd
        · simp at ho
          subst ho
          refine wpOp_of rfl rfl ?_
          go_simp
          refine hK (ac.put (some 9) (.pointer (some ⟨wb.heap.size, 0, none⟩))) _ ⟨hA.put (by simp) _, (size_put _ _ _).trans hz.out, (sl_ne (by decide) _).trans s2, (sl_ne (by decide) _).trans s3, ?_⟩
          simp only [sl_if (show (9 : Nat) < ac.tmps.size by have := hz.out; omega), if_true, Nat.reduceEqDiff, if_false, reduceIte]
          exact hP.at7 M0 M1 M3 M4 hd
        · simp at ho
          subst ho
          refine wpOp_of rfl rfl ?_
          have d6 := hdep { on := 6, ground := .data } (by simp) rfl
          have d2 := hdep { on := 2, ground := .data } (by simp) rfl
          have d5 := hdep { on := 5, ground := .chain } (by simp) rfl
          have d7 := hdep { on := 7, ground := .phase } (by simp) rfl
          obtain ⟨g5, g6, cs, ds, e2, e5, e6, e7, z5, hL, hP2⟩ := hP.laid hd d2 d5 d6 d7
          obtain ⟨p0, p1, p2, p3, p4, p4l, p4c, p5, p5l, p5c, rfl⟩ := hL.six
          have s5 : ac.tmps[8]?.getD undef = _ := e6
          have s26 : ac.tmps[51]?.getD undef = _ := e2
          have zc : ∀ j, wb.cell? ⟨g5, j, none⟩ = (#[.int .i64 0, .bool false, .int .i64 0, .string ⟨#[]⟩, .slice none 0 0, .slice none 0 0] : Array Value)[j]? := z5.cell
          have zf := z5.frozen
          go_simp
          exact hK ac _ ⟨hA, hz, s2, s3, hP2⟩
        · simp at ho
          subst ho
          refine wpOp_of rfl rfl ?_
          have d8 := hdep { on := 8, ground := .chain } (by simp) rfl
          obtain ⟨g6, ds, e5, e7, z6, hL, hP2⟩ := hP.both hd d8
          obtain ⟨q0, q1, q2, q3, q4, q4l, q4c, q5, q5l, q5c, rfl⟩ := hL.six
          have s6 : ac.tmps[9]?.getD undef = _ := e7
          have s29 : ac.tmps[54]?.getD undef = _ := e5
          have zc : ∀ j, wb.cell? ⟨g6, j, none⟩ = (#[.int .i64 0, .bool false, .int .i64 0, .string ⟨#[]⟩, .slice none 0 0, .slice none 0 0] : Array Value)[j]? := z6.cell
          have zf := z6.frozen
          go_simp
          exact hK ac _ ⟨hA, hz, s2, s3, hP2⟩
      · intro d ac wb hall hI
        obtain ⟨hA, hz, s2, s3, hP⟩ := hI
        obtain ⟨g5, g6, cs, ds, e5, e6, hF⟩ := hP.last (hall 9 (by decide))
        obtain ⟨p0, p1, p2, p3, p4, p4l, p4c, p5, p5l, p5c, rfl⟩ := hF.one.six
        obtain ⟨q0, q1, q2, q3, q4, q4l, q4c, q5, q5l, q5c, rfl⟩ := hF.two.six
        have hac := hA.act (fun t ht => by
          have h8 : t = 49 ∨ t = 50 ∨ t = 51 ∨ t = 52 ∨ t = 53 ∨ t = 54 ∨ t = 8 ∨ t = 9 := by simpa using ht
          rcases h8 with rfl | rfl | rfl | rfl | rfl | rfl | rfl | rfl <;> exact Nat.lt_of_lt_of_le (by decide : _ < 129) (Nat.le_refl 129))
        rw [List.foldl_cons, List.foldl_cons, List.foldl_cons, List.foldl_cons, List.foldl_cons, List.foldl_cons, List.foldl_cons, List.foldl_cons, List.foldl_nil, e5, e6] at hac
        generalize sl ac 49 = x49 at hac
        generalize sl ac 50 = x50 at hac
        generalize sl ac 51 = x51 at hac
        generalize sl ac 52 = x52 at hac
        generalize sl ac 53 = x53 at hac
        generalize sl ac 54 = x54 at hac
        clear hA hz s2 s3 hP e5 e6
        subst hac
        have HR1 : Hid (Row wb g5 0 #[.int .i64 p0, .bool p1, .int .i64 p2, .string p3, .slice p4 p4l p4c, .slice p5 p5l p5c]) := hF.box
        have HR2 : Hid (Row wb g6 0 #[.int .i64 q0, .bool q1, .int .i64 q2, .string q3, .slice q4 q4l q4c, .slice q5 q5l q5c]) := hF.box2
        have HL1 : Hid (Lies wb (fun b => v6.heap.size ≤ b) (T.over T.nil t) #[.int .i64 p0, .bool p1, .int .i64 p2, .string p3, .slice p4 p4l p4c, .slice p5 p5l p5c]) := hF.one
        have HL2 : Hid (Lies wb (fun b => v6.heap.size ≤ b) (T.over T.nil u) #[.int .i64 q0, .bool q1, .int .i64 q2, .string q3, .slice q4 q4l q4c, .slice q5 q5l q5c]) := hF.two
        have hBF := hF.below
        simp only [Act.put, List.setIfInBounds_toArray, List.set_cons_succ, List.set_cons_zero]
        go_wp2_with fail
        go_meet
        case rel => exact ⟨g5, g6, p0, p1, p2, p3, p4, p4l, p4c, p5, p5l, p5c, q0, q1, q2, q3, q4, q4l, q4c, q5, q5l, q5c, rfl, rfl, HR1, HR2, HL1, HL2, hBF⟩
    case rest =>
      obtain ⟨g5, g6, p0, p1, p2, p3, p4, p4l, p4c, p5, p5l, p5c, q0, q1, q2, q3, q4, q4l, q4c, q5, q5l, q5c, rfl, rfl, HR1, HR2, HL1, HL2, hBF⟩ := hcut
      have BP : Hid (BoxA wc g5 (.int .i64 p0) (.bool p1) (.int .i64 p2) (.string p3) (.slice p4 p4l p4c) (.slice p5 p5l p5c)) := HR1.out.six
      have BQ : Hid (BoxA wc g6 (.int .i64 q0) (.bool q1) (.int .i64 q2) (.string q3) (.slice q4 q4l q4c) (.slice q5 q5l q5c)) := HR2.out.six
      have SPP := str_over t GP.out.1 KT.out.1
      have SQQ := str_over u GP.out.2 KT.out.2
      have MA := Lib.hid (fun key => misses_at SPP SQQ key)
      have PZ : Hid ((T.over T.nil t).size ≤ 1000000) := by show _ ≤ _; have h1 := over_sz t T.nil; have h2 := nil_size; omega
      have QZ : Hid ((T.over T.nil u).size ≤ 1000000) := by show _ ≤ _; have h1 := over_sz u T.nil; have h2 := nil_size; omega
      clear SPP SQQ
      obtain ⟨xp0, xp1, xp2, xp3, xp4, xp5⟩ := BP.out
      obtain ⟨xq0, xq1, xq2, xq3, xq4, xq5⟩ := BQ.out
      go_wp2_with fail
      refine (diff_any HL2.out HL1.out _ (Below.refl _ _) PZ.out QZ.out).mono ?_
      rintro e w9 ⟨d9, rfl, hL9, hb9⟩
      obtain ⟨e0, e1, e2, e3, e4, e4l, e4c, e5, e5l, e5c, rfl⟩ := hL9.six
      have hA9 := Lib.hid ((Below.refl w9.heap.size w9).alloc (Nat.le_refl _) (.cells #[.int .i64 e0, .bool e1, .int .i64 e2, .string e3, .slice e4 e4l e4c, .slice e5 e5l e5c] 25))
      have BE : Hid (BoxA (w9.alloc (.cells #[.int .i64 e0, .bool e1, .int .i64 e2, .string e3, .slice e4 e4l e4c, .slice e5 e5l e5c] 25)) w9.heap.size (.int .i64 e0) (.bool e1) (.int .i64 e2) (.string e3) (.slice e4 e4l e4c) (.slice e5 e5l e5c)) := BoxA.new _ _ _ _ _ _ _ _
      have LE := Lib.hid (hL9.later hA9.out)
      have hX9 := Lib.hid (bstep hb9 hA9.out hb9.size)
      clear hL9 hb9 hA9 xp0 xp1 xp2 xp3 xp4 xp5 xq0 xq1 xq2 xq3 xq4 xq5
      go_wp2_with fail
      generalize hv9 : w9.alloc (.cells #[.int .i64 e0, .bool e1, .int .i64 e2, .string e3, .slice e4 e4l e4c, .slice e5 e5l e5c] 25) = v9 at *
      clear hv9
      have AV := Lib.hid (bstep VB.out (bstep hBF hX9.out hBF.size) VB.out.size)
      have RV := Lib.hid (bstep hBF hX9.out hBF.size)
      have LP := Lib.hid (HL1.out.later hX9.out)
      have LQ := Lib.hid (HL2.out.later hX9.out)
      have LR := Lib.hid (HLR.out.later RV.out)
      have FV := Lib.hid (bstep F5.out AV.out F5.out.size)
      have CV := Lib.hid (bstep C5.out AV.out C5.out.size)
      go_loopw [12, 13, 14, 15, 16, 17, 18, 19, 20, 21, 22, 23, 24, 60] (fun _ _ _ _ _ _ _ _ _ _ _ _ _ vi wr => ∃ j : Nat, j ≤ ks.length ∧ vi = .int .i64 j ∧ Below v9.heap.size v9 wr) (fun _ _ _ _ _ _ _ _ _ _ _ _ _ vi _ => ks.length - (intOf vi).toNat)
      case atStart => exact ⟨0, by omega, rfl, Below.refl _ _⟩
      case round =>
        obtain ⟨j, hj, rfl, hbw⟩ := hrel
        by_cases hjl : j < ks.length
        · obtain ⟨bk, ok, rfl⟩ := HKS.out.ofSome (by omega)
          have hkc : wr.cell? ⟨bk, ok + j, none⟩ = some (.string ks[j]) := cells_frame (bstep FV.out hbw FV.out.size) (HKS.out.cell j hjl bk ok rfl)
          have KK := Lib.hid (rKey_any ks[j] (HKS.out.sizes j hjl))
          go_wp2_with fail
          refine (KK.out _).mono ?_
          rintro e wk ⟨rfl, rfl⟩
          clear hkc
          cases hkb : keyB ks[j] with
          | false =>
            go_wp2_with fail
            refine (awake3_any _).mono ?_
            rintro e w10 ⟨rfl, hb10⟩
            go_wp2_with fail
            go_ret
            exact ⟨rfl, bstep CV.out (bstep hbw hb10 hbw.size) CV.out.size⟩
          | true =>
            clear hkb
            obtain ⟨xa0, xa1, xa2, xa3, xa4, xa5⟩ := BA.out.later (bstep AV.out hbw AV.out.size)
            go_wp2_with fail
            clear xa0 xa1 xa2 xa3 xa4 xa5
            refine (tGet_any K1.out ks[j] _ (bstep FV.out hbw FV.out.size)).mono ?_
            rintro e w11 ⟨df', rfl, hLf, hbf⟩
            obtain ⟨f0, f1, f2, f3, f4, f4l, f4c, f5, f5l, f5c, rfl⟩ := hLf.six
            have hAf := Lib.hid ((Below.refl w11.heap.size w11).alloc (Nat.le_refl _) (.cells #[.int .i64 f0, .bool f1, .int .i64 f2, .string f3, .slice f4 f4l f4c, .slice f5 f5l f5c] 25))
            have Bf : Hid (BoxA (w11.alloc (.cells #[.int .i64 f0, .bool f1, .int .i64 f2, .string f3, .slice f4 f4l f4c, .slice f5 f5l f5c] 25)) w11.heap.size (.int .i64 f0) (.bool f1) (.int .i64 f2) (.string f3) (.slice f4 f4l f4c) (.slice f5 f5l f5c)) := BoxA.new _ _ _ _ _ _ _ _
            have Lf := Lib.hid (hLf.later hAf.out)
            have Xf := Lib.hid (bstep hbf hAf.out hbf.size)
            have D11 := Lib.hid (bstep hbw Xf.out hbw.size)
            obtain ⟨xr0, xr1, xr2, xr3, xr4, xr5⟩ := BR.out.later (bstep RV.out D11.out RV.out.size)
            clear hLf hbf hAf
            go_wp2_with fail
            clear xr0 xr1 xr2 xr3 xr4 xr5
            generalize hvf : w11.alloc (.cells #[.int .i64 f0, .bool f1, .int .i64 f2, .string f3, .slice f4 f4l f4c, .slice f5 f5l f5c] 25) = v11 at *
            clear hvf
            refine (tGet_any LR.out ks[j] _ D11.out).mono ?_
            rintro e w12 ⟨dh', rfl, hLh, hbh⟩
            obtain ⟨h0, h1, h2, h3, h4, h4l, h4c, h5, h5l, h5c, rfl⟩ := hLh.six
            have hAh := Lib.hid ((Below.refl w12.heap.size w12).alloc (Nat.le_refl _) (.cells #[.int .i64 h0, .bool h1, .int .i64 h2, .string h3, .slice h4 h4l h4c, .slice h5 h5l h5c] 25))
            have Bh : Hid (BoxA (w12.alloc (.cells #[.int .i64 h0, .bool h1, .int .i64 h2, .string h3, .slice h4 h4l h4c, .slice h5 h5l h5c] 25)) w12.heap.size (.int .i64 h0) (.bool h1) (.int .i64 h2) (.string h3) (.slice h4 h4l h4c) (.slice h5 h5l h5c)) := BoxA.new _ _ _ _ _ _ _ _
            have Lh := Lib.hid (hLh.later hAh.out)
            have Xh := Lib.hid (bstep hbh hAh.out hbh.size)
            have D12 := Lib.hid (bstep D11.out Xh.out D11.out.size)
            obtain ⟨xb0, xb1, xb2, xb3, xb4, xb5⟩ := BB.out.later (bstep AV.out D12.out AV.out.size)
            clear hLh hbh hAh
            go_wp2_with fail
            clear xb0 xb1 xb2 xb3 xb4 xb5
            generalize hvh : w12.alloc (.cells #[.int .i64 h0, .bool h1, .int .i64 h2, .string h3, .slice h4 h4l h4c, .slice h5 h5l h5c] 25) = v12 at *
            clear hvh
            refine (tGet_any K2.out ks[j] _ (bstep FV.out D12.out FV.out.size)).mono ?_
            rintro e w13 ⟨di', rfl, hLi, hbi⟩
            obtain ⟨i0, i1, i2, i3, i4, i4l, i4c, i5, i5l, i5c, rfl⟩ := hLi.six
            have hAi := Lib.hid ((Below.refl w13.heap.size w13).alloc (Nat.le_refl _) (.cells #[.int .i64 i0, .bool i1, .int .i64 i2, .string i3, .slice i4 i4l i4c, .slice i5 i5l i5c] 25))
            have Bi : Hid (BoxA (w13.alloc (.cells #[.int .i64 i0, .bool i1, .int .i64 i2, .string i3, .slice i4 i4l i4c, .slice i5 i5l i5c] 25)) w13.heap.size (.int .i64 i0) (.bool i1) (.int .i64 i2) (.string i3) (.slice i4 i4l i4c) (.slice i5 i5l i5c)) := BoxA.new _ _ _ _ _ _ _ _
            have Li := Lib.hid (hLi.later hAi.out)
            have Xi := Lib.hid (bstep hbi hAi.out hbi.size)
            have D13 := Lib.hid (bstep D12.out Xi.out D12.out.size)
            clear hLi hbi hAi
            go_upto_region 14 with fail
            generalize hvi : w13.alloc (.cells #[.int .i64 i0, .bool i1, .int .i64 i2, .string i3, .slice i4 i4l i4c, .slice i5 i5l i5c] 25) = v13 at *
            clear hvi
            go_cut [14, 16, 18, 98] (fun _ _ _ v98 wx => v98 = .bool false ∧ Below v13.heap.size v13 wx)
            case first =>
              cases hu : u.get ks[j] with
              | none =>
                have e2 : (T.over t u).get ks[j] = t.get ks[j] := by
                  have := OG.out ks[j]
                  rw [hu] at this
                  exact this
                have RS := rSame_any (Lf.out.later (bstep Xh.out Xi.out Xh.out.size)) (Lh.out.later Xi.out) v13 (Below.refl _ _)
                rw [e2, T.same_self] at RS
                have RS2 := Lib.hid RS
                obtain ⟨xf0, xf1, xf2, xf3, xf4, xf5⟩ := Bf.out.later (bstep Xh.out Xi.out Xh.out.size)
                obtain ⟨xh0, xh1, xh2, xh3, xh4, xh5⟩ := Bh.out.later Xi.out
                clear RS
                go_wp2_with fail
                refine RS2.out.mono ?_
                rintro e w14 ⟨rfl, hb14⟩
                go_wp2_with fail
                go_meet
                case rel => exact ⟨rfl, hb14⟩
              | some x =>
                go_wp2_with fail
                go_meet
                case rel => exact ⟨rfl, Below.refl _ _⟩
            case rest =>
              obtain ⟨rfl, hw14⟩ := hcut
              have D14 := Lib.hid (bstep D13.out hw14 D13.out.size)
              obtain ⟨xp0, xp1, xp2, xp3, xp4, xp5⟩ := BP.out.later (bstep hX9.out D14.out hX9.out.size)
              go_wp2_with fail
              clear xp0 xp1 xp2 xp3 xp4 xp5
              refine (tGet_any LP.out ks[j] _ D14.out).mono ?_
              rintro e w15 ⟨dm', rfl, hLm, hbm⟩
              obtain ⟨m0, m1, m2, m3, m4, m4l, m4c, m5, m5l, m5c, rfl⟩ := hLm.six
              have hAm := Lib.hid ((Below.refl w15.heap.size w15).alloc (Nat.le_refl _) (.cells #[.int .i64 m0, .bool m1, .int .i64 m2, .string m3, .slice m4 m4l m4c, .slice m5 m5l m5c] 25))
              have Bm : Hid (BoxA (w15.alloc (.cells #[.int .i64 m0, .bool m1, .int .i64 m2, .string m3, .slice m4 m4l m4c, .slice m5 m5l m5c] 25)) w15.heap.size (.int .i64 m0) (.bool m1) (.int .i64 m2) (.string m3) (.slice m4 m4l m4c) (.slice m5 m5l m5c)) := BoxA.new _ _ _ _ _ _ _ _
              have Lm := Lib.hid (hLm.later hAm.out)
              have Xm := Lib.hid (bstep hbm hAm.out hbm.size)
              have D15 := Lib.hid (bstep D14.out Xm.out D14.out.size)
              obtain ⟨xq0, xq1, xq2, xq3, xq4, xq5⟩ := BQ.out.later (bstep hX9.out D15.out hX9.out.size)
              clear hLm hbm hAm
              go_wp2_with fail
              clear xq0 xq1 xq2 xq3 xq4 xq5
              generalize hvm : w15.alloc (.cells #[.int .i64 m0, .bool m1, .int .i64 m2, .string m3, .slice m4 m4l m4c, .slice m5 m5l m5c] 25) = v15 at *
              clear hvm
              refine (tGet_any LQ.out ks[j] _ D15.out).mono ?_
              rintro e w16 ⟨dy', rfl, hLy, hby⟩
              obtain ⟨y0, y1, y2, y3, y4, y4l, y4c, y5, y5l, y5c, rfl⟩ := hLy.six
              have hAy := Lib.hid ((Below.refl w16.heap.size w16).alloc (Nat.le_refl _) (.cells #[.int .i64 y0, .bool y1, .int .i64 y2, .string y3, .slice y4 y4l y4c, .slice y5 y5l y5c] 25))
              have By : Hid (BoxA (w16.alloc (.cells #[.int .i64 y0, .bool y1, .int .i64 y2, .string y3, .slice y4 y4l y4c, .slice y5 y5l y5c] 25)) w16.heap.size (.int .i64 y0) (.bool y1) (.int .i64 y2) (.string y3) (.slice y4 y4l y4c) (.slice y5 y5l y5c)) := BoxA.new _ _ _ _ _ _ _ _
              have Ly := Lib.hid (hLy.later hAy.out)
              have Xy := Lib.hid (bstep hby hAy.out hby.size)
              have D16 := Lib.hid (bstep D15.out Xy.out D15.out.size)
              obtain ⟨xe0, xe1, xe2, xe3, xe4, xe5⟩ := BE.out.later D16.out
              clear hLy hby hAy
              go_wp2_with fail
              clear xe0 xe1 xe2 xe3 xe4 xe5
              generalize hvy : w16.alloc (.cells #[.int .i64 y0, .bool y1, .int .i64 y2, .string y3, .slice y4 y4l y4c, .slice y5 y5l y5c] 25) = v16 at *
              clear hvy
              refine (tGet_any LE.out ks[j] _ D16.out).mono ?_
              rintro e w17 ⟨dl', rfl, hLl, hbl⟩
              obtain ⟨l0, l1, l2, l3, l4, l4l, l4c, l5, l5l, l5c, rfl⟩ := hLl.six
              have hAl := Lib.hid ((Below.refl w17.heap.size w17).alloc (Nat.le_refl _) (.cells #[.int .i64 l0, .bool l1, .int .i64 l2, .string l3, .slice l4 l4l l4c, .slice l5 l5l l5c] 25))
              have Bl : Hid (BoxA (w17.alloc (.cells #[.int .i64 l0, .bool l1, .int .i64 l2, .string l3, .slice l4 l4l l4c, .slice l5 l5l l5c] 25)) w17.heap.size (.int .i64 l0) (.bool l1) (.int .i64 l2) (.string l3) (.slice l4 l4l l4c) (.slice l5 l5l l5c)) := BoxA.new _ _ _ _ _ _ _ _
              have Ll := Lib.hid (hLl.later hAl.out)
              have Xl := Lib.hid (bstep hbl hAl.out hbl.size)
              have D17 := Lib.hid (bstep D16.out Xl.out D16.out.size)
              clear hLl hbl hAl
              go_upto_region 19 with fail
              generalize hvl : w17.alloc (.cells #[.int .i64 l0, .bool l1, .int .i64 l2, .string l3, .slice l4 l4l l4c, .slice l5 l5l l5c] 25) = v17 at *
              clear hvl
              go_cut [20, 22, 24, 126] (fun _ _ _ v126 wx => v126 = .bool false ∧ Below v17.heap.size v17 wx)
              case first =>
                obtain ⟨hm1, hm2⟩ := MA.out ks[j]
                rcases hpm : (T.over T.nil t).get ks[j] with _ | y <;> rcases hqm : (T.over T.nil u).get ks[j] with _ | x
                · have hdm : (T.diff (T.over T.nil t) (T.over T.nil u)).get ks[j] = none := hm1.trans (hm2.2 (by rw [hpm, hqm]))
                  clear hm1 hm2
                  have RS := rSame_any (Lm.out.later (bstep Xy.out Xl.out Xy.out.size)) (Ly.out.later Xl.out) v17 (Below.refl _ _)
                  rw [hpm, hqm] at RS
                  have RS : Calls _ _ _ _ fun e w' => e = .returned (.bool (T.same T.nil T.nil)) ∧ Below v17.heap.size v17 w' := RS
                  rw [T.same_self] at RS
                  have RS2 := Lib.hid RS
                  obtain ⟨xm0, xm1, xm2, xm3, xm4, xm5⟩ := Bm.out.later (bstep Xy.out Xl.out Xy.out.size)
                  obtain ⟨xy0, xy1, xy2, xy3, xy4, xy5⟩ := By.out.later Xl.out
                  clear RS
                  go_wp2_with fail
                  refine RS2.out.mono ?_
                  rintro e w18 ⟨rfl, hb18⟩
                  go_wp2_with fail
                  go_meet
                  case rel => exact ⟨rfl, hb18⟩
                · obtain ⟨dd, hdm⟩ : ∃ dd, (T.diff (T.over T.nil t) (T.over T.nil u)).get ks[j] = some dd := by
                    cases h : (T.diff (T.over T.nil t) (T.over T.nil u)).get ks[j] with
                    | some dd => exact ⟨dd, rfl⟩
                    | none => have := hm2.1 (hm1.symm.trans h); rw [hpm, hqm] at this; cases this
                  clear hm1 hm2
                  go_wp2_with fail
                  go_meet
                  case rel => exact ⟨rfl, Below.refl _ _⟩
                · obtain ⟨dd, hdm⟩ : ∃ dd, (T.diff (T.over T.nil t) (T.over T.nil u)).get ks[j] = some dd := by
                    cases h : (T.diff (T.over T.nil t) (T.over T.nil u)).get ks[j] with
                    | some dd => exact ⟨dd, rfl⟩
                    | none => have := hm2.1 (hm1.symm.trans h); rw [hpm, hqm] at this; cases this
                  clear hm1 hm2
                  go_wp2_with fail
                  go_meet
                  case rel => exact ⟨rfl, Below.refl _ _⟩
                · by_cases hyx : y = x
                  · have hdm : (T.diff (T.over T.nil t) (T.over T.nil u)).get ks[j] = none := hm1.trans (hm2.2 (by rw [hpm, hqm, hyx]))
                    clear hm1 hm2
                    have RS := rSame_any (Lm.out.later (bstep Xy.out Xl.out Xy.out.size)) (Ly.out.later Xl.out) v17 (Below.refl _ _)
                    rw [hpm, hqm] at RS
                    have RS : Calls _ _ _ _ fun e w' => e = .returned (.bool (T.same y x)) ∧ Below v17.heap.size v17 w' := RS
                    rw [T.same_of_eq hyx] at RS
                    clear hyx
                    have RS2 := Lib.hid RS
                    obtain ⟨xm0, xm1, xm2, xm3, xm4, xm5⟩ := Bm.out.later (bstep Xy.out Xl.out Xy.out.size)
                    obtain ⟨xy0, xy1, xy2, xy3, xy4, xy5⟩ := By.out.later Xl.out
                    clear RS
                    go_wp2_with fail
                    refine RS2.out.mono ?_
                    rintro e w18 ⟨rfl, hb18⟩
                    go_wp2_with fail
                    go_meet
                    case rel => exact ⟨rfl, hb18⟩
                  · obtain ⟨dd, hdm⟩ : ∃ dd, (T.diff (T.over T.nil t) (T.over T.nil u)).get ks[j] = some dd := by
                      cases h : (T.diff (T.over T.nil t) (T.over T.nil u)).get ks[j] with
                      | some dd => exact ⟨dd, rfl⟩
                      | none => have := hm2.1 (hm1.symm.trans h); rw [hpm, hqm] at this; injection this with this; exact absurd this hyx
                    clear hm1 hm2
                    have RS := rSame_any (Lm.out.later (bstep Xy.out Xl.out Xy.out.size)) (Ly.out.later Xl.out) v17 (Below.refl _ _)
                    rw [hpm, hqm] at RS
                    have RS : Calls _ _ _ _ fun e w' => e = .returned (.bool (T.same y x)) ∧ Below v17.heap.size v17 w' := RS
                    rw [T.same_of_ne hyx] at RS
                    clear hyx
                    have RS2 := Lib.hid RS
                    obtain ⟨xm0, xm1, xm2, xm3, xm4, xm5⟩ := Bm.out.later (bstep Xy.out Xl.out Xy.out.size)
                    obtain ⟨xy0, xy1, xy2, xy3, xy4, xy5⟩ := By.out.later Xl.out
                    clear RS
                    go_wp2_with fail
                    refine RS2.out.mono ?_
                    rintro e w18 ⟨rfl, hb18⟩
                    go_wp2_with fail
                    go_meet
                    case rel => exact ⟨rfl, hb18⟩
              case rest =>
                obtain ⟨rfl, hw18⟩ := hcut
                have D18 := Lib.hid (bstep D17.out hw18 D17.out.size)
                go_wp2_with fail
                go_roundw
                case rel => exact ⟨j + 1, by omega, by go_num, D18.out⟩
                case measure => simp [intOf]; omega
        · obtain rfl : j = ks.length := by omega
          go_wp2_with fail
          refine (awake3_any _).mono ?_
          rintro e w10 ⟨rfl, hb10⟩
          go_wp2_with fail
          go_ret
          exact ⟨rfl, bstep CV.out (bstep hbw hb10 hbw.size) CV.out.size⟩

end Go.Proofs.Ytcafackiofncmaa
