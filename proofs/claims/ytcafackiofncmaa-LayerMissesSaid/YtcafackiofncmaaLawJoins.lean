/-
  LayerJoins, walked.
-/
import Derived.Test.YtcafackiofncmaaLayP
set_option linter.unusedVariables false
set_option linter.unusedSimpArgs false
namespace Go.Proofs.Ytcafackiofncmaa
open Go.RowKit Go.Sort

theorem field_five (k : Int) (b : Bool) (n : Int) (s : ByteArray) (la : Option Addr) (ll lc : Nat) (ma : Option Addr) (ml mc : Nat) (W : World) :
    (Instr.field 25 (.agg #[.int .i64 k, .bool b, .int .i64 n, .string s, .slice la ll lc, .slice ma ml mc]) 5).run Try.prog W = .ok (.slice ma ml mc) W := by kernel_rfl
/-- One value alone, over nothing. -/
theorem all_one {w1 : World} {R1 : Nat → Prop} {t : T} {k : Int} {b : Bool} {n : Int} {s : ByteArray} {la : Option Addr} {ll lc : Nat} {ma : Option Addr} {ml mc : Nat}
    (h1 : Lies w1 R1 t #[.int .i64 k, .bool b, .int .i64 n, .string s, .slice la ll lc, .slice ma ml mc]) (hz : t.size ≤ 1000000) (W : World) (hW : Below (w1.alloc (.cells #[.int .i64 k, .bool b, .int .i64 n, .string s, .slice la ll lc, .slice ma ml mc] 25)).heap.size (w1.alloc (.cells #[.int .i64 k, .bool b, .int .i64 n, .string s, .slice la ll lc, .slice ma ml mc] 25)) W) :
    Calls Try.prog 14 #[.slice (some ⟨w1.heap.size, 0, none⟩) 1 1] W (OverIn W ([t].foldl T.over T.none5)) :=
  all_any (one_value h1) W hW (fun j hj => by
    obtain rfl : j = 0 := by simp at hj; omega
    show T.none5.size ≤ 1000000
    rw [none5_size]; omega) (fun i hi => by
    obtain rfl : i = 0 := by simp at hi; omega
    exact hz)
theorem all_none (W : World) : Calls Try.prog 14 #[.slice none 0 0] W (OverIn W T.none5) :=
  all_any (ts := []) (cl := fun _ => #[]) (empty_sliceV W (fun _ => True)) W (Below.refl _ _) (fun j hj => absurd hj (by simp)) (fun i hi => absurd hi (by simp))

/-- Behind two new blocks: what the second one holds. -/
theorem alloc_snd {v w : World} {cs zs : Array Value} {ty tz : TypeId} (h : Below ((v.alloc (.cells cs ty)).alloc (.cells zs tz)).heap.size ((v.alloc (.cells cs ty)).alloc (.cells zs tz)) w) :
    (∀ j, w.cell? ⟨v.heap.size + 1, j, none⟩ = zs[j]?) ∧ (∀ j, w.frozen? ⟨v.heap.size + 1, j, none⟩ = false) ∧ Below v.heap.size v w ∧ v.heap.size + 1 < w.heap.size := by
  have e : (v.alloc (.cells cs ty)).heap.size = v.heap.size + 1 := by simp
  have y := one_boxL (w := v.alloc (.cells cs ty)) h
  rw [e] at y
  refine ⟨y.1, y.2, bstep ((Below.refl _ _).alloc (Nat.le_refl _) (.cells cs ty)) (bstep ((Below.refl _ _).alloc (Nat.le_refl _) (.cells zs tz)) h (by simp)) (by simp), ?_⟩
  have := h.size
  simp at this
  omega
theorem alloc_fst {v w : World} {cs zs : Array Value} {ty tz : TypeId} (h : Below ((v.alloc (.cells zs tz)).alloc (.cells cs ty)).heap.size ((v.alloc (.cells zs tz)).alloc (.cells cs ty)) w) :
    (∀ j, w.cell? ⟨v.heap.size, j, none⟩ = zs[j]?) ∧ (∀ j, w.frozen? ⟨v.heap.size, j, none⟩ = false) ∧ Below v.heap.size v w ∧ v.heap.size < w.heap.size := by
  have h2 := bstep ((Below.refl _ _).alloc (Nat.le_refl _) (.cells cs ty)) h (by simp)
  have y := one_boxL (w := v) h2
  refine ⟨y.1, y.2, bstep ((Below.refl _ _).alloc (Nat.le_refl _) (.cells zs tz)) h2 (by simp), ?_⟩
  have := h.size
  simp at this
  omega

set_option maxRecDepth 100000 in
set_option maxHeartbeats 4000000 in
theorem layerJoins_any {w0 : World} {R1 R2 R3 : Nat → Prop} {t u v : T} {cs ds es : Array Value} (h1 : Lies w0 R1 t cs) (h2 : Lies w0 R2 u ds) (h3 : Lies w0 R3 v es) (w : World) (hw : Below w0.heap.size w0 w) :
    Calls Try.prog 6 #[.agg cs, .agg ds, .agg es] w fun e w' => e = .returned (.bool true) ∧ Below w.heap.size w w' := by
  have K1 := Lib.hid h1
  have K2 := Lib.hid h2
  have K3 := Lib.hid h3
  obtain ⟨k, b, n, s, la, ll, lc, ma, ml, mc, rfl⟩ := h1.six
  obtain ⟨k', b', n', s', la', ll', lc', ma', ml', mc', rfl⟩ := h2.six
  obtain ⟨k'', b'', n'', s'', la'', ll'', lc'', ma'', ml'', mc'', rfl⟩ := h3.six
  have hw3 := (((Below.refl w.heap.size w).alloc (Nat.le_refl _) (.cells #[.int .i64 k, .bool b, .int .i64 n, .string s, .slice la ll lc, .slice ma ml mc] 25)).alloc (by simp) (.cells #[.int .i64 k', .bool b', .int .i64 n', .string s', .slice la' ll' lc', .slice ma' ml' mc'] 25)).alloc (by simp; omega) (.cells #[.int .i64 k'', .bool b'', .int .i64 n'', .string s'', .slice la'' ll'' lc'', .slice ma'' ml'' mc''] 25)
  have g3 := bstep hw hw3 hw.size
  have hw4 := hw3.alloc (by simp; omega) (.cells #[.int .i64 k, .bool b, .int .i64 n, .string s, .slice la ll lc, .slice ma ml mc, .int .i64 k', .bool b', .int .i64 n', .string s', .slice la' ll' lc', .slice ma' ml' mc', .int .i64 k'', .bool b'', .int .i64 n'', .string s'', .slice la'' ll'' lc'', .slice ma'' ml'' mc''] 25)
  have HS := Lib.hid (three_values (h1.later g3) (h2.later g3) (h3.later g3))
  have HAB := Lib.hid (fun (wr : World) hb => arg_boxes (w := w) (wr := wr) (N := w.heap.size + 4) (A := #[.int .i64 k, .bool b, .int .i64 n, .string s, .slice la ll lc, .slice ma ml mc]) (t1 := 25) (B := #[.int .i64 k', .bool b', .int .i64 n', .string s', .slice la' ll' lc', .slice ma' ml' mc']) (t2 := 25) (C := #[.int .i64 k'', .bool b'', .int .i64 n'', .string s'', .slice la'' ll'' lc'', .slice ma'' ml'' mc'']) (t3 := 25) (o4 := .cells #[.int .i64 k, .bool b, .int .i64 n, .string s, .slice la ll lc, .slice ma ml mc, .int .i64 k', .bool b', .int .i64 n', .string s', .slice la' ll' lc', .slice ma' ml' mc', .int .i64 k'', .bool b'', .int .i64 n'', .string s'', .slice la'' ll'' lc'', .slice ma'' ml'' mc''] 25) hb (by omega))
  have HW4 := Lib.hid hw4
  clear hw3 g3 hw4 h1 h2 h3
  have hsz : (((w.alloc (.cells #[.int .i64 k, .bool b, .int .i64 n, .string s, .slice la ll lc, .slice ma ml mc] 25)).alloc (.cells #[.int .i64 k', .bool b', .int .i64 n', .string s', .slice la' ll' lc', .slice ma' ml' mc'] 25)).alloc (.cells #[.int .i64 k'', .bool b'', .int .i64 n'', .string s'', .slice la'' ll'' lc'', .slice ma'' ml'' mc''] 25)).heap.size = w.heap.size + 1 + 1 + 1 := by simp
  go_enter Try.func6, Try.ntmps6
  go_wp2_with fail
  have HR := right_any HS.out _ (Below.refl _ _)
  rw [hsz] at HR
  refine HR.mono ?_
  rintro e w5 ⟨rfl, hb5⟩
  have C5 := Lib.hid (bstep HW4.out hb5 (by simp; omega))
  have F5 := Lib.hid (bstep hw C5.out hw.size)
  have hb5' := hb5.mono (show w.heap.size + 4 ≤ _ by simp)
  have X := Lib.hid (fun j => HAB.out _ hb5' j)
  have xa0 : w5.cell? ⟨w.heap.size, 0, none⟩ = some (.int .i64 k) := (X.out 0).1
  have xa1 : w5.cell? ⟨w.heap.size, 1, none⟩ = some (.bool b) := (X.out 1).1
  have xa2 : w5.cell? ⟨w.heap.size, 2, none⟩ = some (.int .i64 n) := (X.out 2).1
  have xa3 : w5.cell? ⟨w.heap.size, 3, none⟩ = some (.string s) := (X.out 3).1
  have xa4 : w5.cell? ⟨w.heap.size, 4, none⟩ = some (.slice la ll lc) := (X.out 4).1
  have xa5 : w5.cell? ⟨w.heap.size, 5, none⟩ = some (.slice ma ml mc) := (X.out 5).1
  have xb0 : w5.cell? ⟨w.heap.size + 1, 0, none⟩ = some (.int .i64 k') := (X.out 0).2.1
  have xb1 : w5.cell? ⟨w.heap.size + 1, 1, none⟩ = some (.bool b') := (X.out 1).2.1
  have xb2 : w5.cell? ⟨w.heap.size + 1, 2, none⟩ = some (.int .i64 n') := (X.out 2).2.1
  have xb3 : w5.cell? ⟨w.heap.size + 1, 3, none⟩ = some (.string s') := (X.out 3).2.1
  have xb4 : w5.cell? ⟨w.heap.size + 1, 4, none⟩ = some (.slice la' ll' lc') := (X.out 4).2.1
  have xb5 : w5.cell? ⟨w.heap.size + 1, 5, none⟩ = some (.slice ma' ml' mc') := (X.out 5).2.1
  have xc0 : w5.cell? ⟨w.heap.size + 1 + 1, 0, none⟩ = some (.int .i64 k'') := (X.out 0).2.2
  have xc1 : w5.cell? ⟨w.heap.size + 1 + 1, 1, none⟩ = some (.bool b'') := (X.out 1).2.2
  have xc2 : w5.cell? ⟨w.heap.size + 1 + 1, 2, none⟩ = some (.int .i64 n'') := (X.out 2).2.2
  have xc3 : w5.cell? ⟨w.heap.size + 1 + 1, 3, none⟩ = some (.string s'') := (X.out 3).2.2
  have xc4 : w5.cell? ⟨w.heap.size + 1 + 1, 4, none⟩ = some (.slice la'' ll'' lc'') := (X.out 4).2.2
  have xc5 : w5.cell? ⟨w.heap.size + 1 + 1, 5, none⟩ = some (.slice ma'' ml'' mc'') := (X.out 5).2.2
  have hs5 := hb5.size
  simp only [World.size_alloc] at hs5
  clear hb5 hb5'
  cases hg : [t, u, v].all T.good with
  | false =>
    go_wp2_with fail
    refine (awake3_any _).mono ?_
    rintro e w6 ⟨rfl, hb6⟩
    go_wp2_with fail
    go_ret
    exact ⟨rfl, bstep C5.out hb6 C5.out.size⟩
  | true =>
    by_cases hk : k = 5
    case neg =>
      have f1 : (k != 5) = true := by simp [hk]
      go_wp2_with fail
      refine (awake3_any _).mono ?_
      rintro e w6 ⟨rfl, hb6⟩
      go_wp2_with fail
      go_ret
      exact ⟨rfl, bstep C5.out hb6 C5.out.size⟩
    have f1 : (k != 5) = false := by simp [hk]
    by_cases hk' : k' = 5
    case neg =>
      have f2 : (k' != 5) = true := by simp [hk']
      go_wp2_with fail
      refine (awake3_any _).mono ?_
      rintro e w6 ⟨rfl, hb6⟩
      go_wp2_with fail
      go_ret
      exact ⟨rfl, bstep C5.out hb6 C5.out.size⟩
    have f2 : (k' != 5) = false := by simp [hk']
    by_cases hk'' : k'' = 5
    case neg =>
      have f3 : (k'' != 5) = true := by simp [hk'']
      go_wp2_with fail
      refine (awake3_any _).mono ?_
      rintro e w6 ⟨rfl, hb6⟩
      go_wp2_with fail
      go_ret
      exact ⟨rfl, bstep C5.out hb6 C5.out.size⟩
    subst hk hk' hk''
    clear f1 f2
    have hgl : ∀ x ∈ [t, u, v], x.size ≤ 6000 := fun x hx => T.light_size (by have := List.all_eq_true.1 hg x hx; unfold T.good at this; simp at this; exact this.1)
    have ht := hgl t (by simp)
    have hu := hgl u (by simp)
    have hv := hgl v (by simp)
    have T5 := Lib.hid (K1.out.later F5.out)
    have U5 := Lib.hid (K2.out.later F5.out)
    have V5 := Lib.hid (K3.out.later F5.out)
    have SZ : Hid (∀ j, (layT [t, u, v] j).size ≤ 1000000) := fun j => by have := layT_sz [t, u, v] j; simp at this; omega
    have SZ2 : Hid (∀ j, (layT [t, u] j).size ≤ 1000000) := fun j => by have := layT_sz [t, u] j; simp at this; omega
    have EZ : Hid (∀ x ∈ [t, u, v], x.size ≤ 1000000) := fun x hx => by have := hgl x hx; omega
    have EZ2 : Hid (∀ x ∈ [t, u], x.size ≤ 1000000) := fun x hx => by have := hgl x (by simp at hx ⊢; rcases hx with h | h <;> simp [h]); omega
    clear hg hgl
    go_wp2_with fail
    refine (all_any (three_values T5.out U5.out V5.out) _ (Below.refl _ _) (fun j _ => SZ.out j) (fun i hi => EZ.out _ (List.getElem_mem hi))).mono ?_
    rintro e w6 ⟨d6, rfl, hL6, hb6⟩
    obtain ⟨i0, i1, i2, i3, i4, i4l, i4c, i5, i5l, i5c, rfl⟩ := hL6.six
    have hA6 := Lib.hid ((Below.refl w6.heap.size w6).alloc (Nat.le_refl _) (.cells #[.int .i64 i0, .bool i1, .int .i64 i2, .string i3, .slice i4 i4l i4c, .slice i5 i5l i5c] 25))
    have hb6' := bunbox hb6 (Nat.le_refl _) (by simp)
    have BI : Hid (BoxA (w6.alloc (.cells #[.int .i64 i0, .bool i1, .int .i64 i2, .string i3, .slice i4 i4l i4c, .slice i5 i5l i5c] 25)) w6.heap.size (.int .i64 i0) (.bool i1) (.int .i64 i2) (.string i3) (.slice i4 i4l i4c) (.slice i5 i5l i5c)) := BoxA.new _ _ _ _ _ _ _ _
    have hV6 := Lib.hid (bstep hb6' hA6.out hb6'.size)
    have LI := Lib.hid (hL6.later hA6.out)
    have hw6s := hb6'.size
    clear hb6 hb6' hA6 hL6
    go_wp2_with fail
    have hsv6 : Hid ((w6.alloc (.cells #[.int .i64 i0, .bool i1, .int .i64 i2, .string i3, .slice i4 i4l i4c, .slice i5 i5l i5c] 25)).heap.size = w6.heap.size + 1) := by show _ = _; simp
    generalize hv6 : w6.alloc (.cells #[.int .i64 i0, .bool i1, .int .i64 i2, .string i3, .slice i4 i4l i4c, .slice i5 i5l i5c] 25) = v6 at *
    have F6 := Lib.hid (bstep F5.out hV6.out F5.out.size)
    have hv6s : w5.heap.size ≤ v6.heap.size := hV6.out.size
    have SK : Hid (∀ wx : World, (∀ b, b < v6.heap.size → wx.heap[b]? = v6.heap[b]?) → wx.cell? ⟨w.heap.size, 0, none⟩ = some (.int .i64 5) ∧ wx.cell? ⟨w.heap.size, 1, none⟩ = some (.bool b) ∧ wx.cell? ⟨w.heap.size, 2, none⟩ = some (.int .i64 n) ∧ wx.cell? ⟨w.heap.size, 3, none⟩ = some (.string s) ∧ wx.cell? ⟨w.heap.size, 4, none⟩ = some (.slice la ll lc) ∧ wx.cell? ⟨w.heap.size, 5, none⟩ = some (.slice ma ml mc) ∧ wx.cell? ⟨w.heap.size + 1, 0, none⟩ = some (.int .i64 5) ∧ wx.cell? ⟨w.heap.size + 1, 1, none⟩ = some (.bool b') ∧ wx.cell? ⟨w.heap.size + 1, 2, none⟩ = some (.int .i64 n') ∧ wx.cell? ⟨w.heap.size + 1, 3, none⟩ = some (.string s') ∧ wx.cell? ⟨w.heap.size + 1, 4, none⟩ = some (.slice la' ll' lc') ∧ wx.cell? ⟨w.heap.size + 1, 5, none⟩ = some (.slice ma' ml' mc') ∧ wx.cell? ⟨w.heap.size + 1 + 1, 0, none⟩ = some (.int .i64 5) ∧ wx.cell? ⟨w.heap.size + 1 + 1, 1, none⟩ = some (.bool b'') ∧ wx.cell? ⟨w.heap.size + 1 + 1, 2, none⟩ = some (.int .i64 n'') ∧ wx.cell? ⟨w.heap.size + 1 + 1, 3, none⟩ = some (.string s'') ∧ wx.cell? ⟨w.heap.size + 1 + 1, 4, none⟩ = some (.slice la'' ll'' lc'') ∧ wx.cell? ⟨w.heap.size + 1 + 1, 5, none⟩ = some (.slice ma'' ml'' mc'')) := fun wx hx => by
      have e0 : ∀ j', wx.cell? ⟨w.heap.size, j', none⟩ = _ := fun j' => (World.cell?_of_block (hx w.heap.size (by omega))).trans ((hV6.out.cell (p := ⟨w.heap.size, j', none⟩) (by simp only; omega)).trans (X.out j').1)
      have e1 : ∀ j', wx.cell? ⟨w.heap.size + 1, j', none⟩ = _ := fun j' => (World.cell?_of_block (hx (w.heap.size + 1) (by omega))).trans ((hV6.out.cell (p := ⟨w.heap.size + 1, j', none⟩) (by simp only; omega)).trans (X.out j').2.1)
      have e2 : ∀ j', wx.cell? ⟨w.heap.size + 1 + 1, j', none⟩ = _ := fun j' => (World.cell?_of_block (hx (w.heap.size + 1 + 1) (by omega))).trans ((hV6.out.cell (p := ⟨w.heap.size + 1 + 1, j', none⟩) (by simp only; omega)).trans (X.out j').2.2)
      exact ⟨e0 0, e0 1, e0 2, e0 3, e0 4, e0 5, e1 0, e1 1, e1 2, e1 3, e1 4, e1 5, e2 0, e2 1, e2 2, e2 3, e2 4, e2 5⟩
    clear xa0 xa1 xa2 xa3 xa4 xa5 xb0 xb1 xb2 xb3 xb4 xb5 xc0 xc1 xc2 xc3 xc4 xc5
    have hqa : ∀ o b, b < v6.heap.size → (v6.alloc o).heap[b]? = v6.heap[b]? := fun o b hb => Below.heap_alloc _ _ _ hb
    have hqaa : ∀ o o' b, b < v6.heap.size → ((v6.alloc o).alloc o').heap[b]? = v6.heap[b]? := fun o o' b hb => (Below.heap_alloc _ _ _ (by simp; omega)).trans (hqa o b hb)
    have T6p := Lib.hid (K1.out.later F6.out)
    have U6p := Lib.hid (K2.out.later F6.out)
    have Z6 := Lib.hid ((Below.refl v6.heap.size v6).alloc (Nat.le_refl _) (.cells #[.int .i64 0, .bool false, .int .i64 0, .string ⟨#[]⟩, .slice none 0 0, .slice none 0 0] 25))
    have HZ6 := two_values (T6p.out.later Z6.out) (U6p.out.later Z6.out)
    rw [show (v6.alloc (.cells #[.int .i64 0, .bool false, .int .i64 0, .string ⟨#[]⟩, .slice none 0 0, .slice none 0 0] 25)).heap.size = v6.heap.size + 1 by simp] at HZ6
    have HZ7 : Hid (∀ W, Below ((v6.alloc (.cells #[.int .i64 0, .bool false, .int .i64 0, .string ⟨#[]⟩, .slice none 0 0, .slice none 0 0] 25)).alloc (.cells #[.int .i64 5, .bool b, .int .i64 n, .string s, .slice la ll lc, .slice ma ml mc, .int .i64 5, .bool b', .int .i64 n', .string s', .slice la' ll' lc', .slice ma' ml' mc'] 25)).heap.size ((v6.alloc (.cells #[.int .i64 0, .bool false, .int .i64 0, .string ⟨#[]⟩, .slice none 0 0, .slice none 0 0] 25)).alloc (.cells #[.int .i64 5, .bool b, .int .i64 n, .string s, .slice la ll lc, .slice ma ml mc, .int .i64 5, .bool b', .int .i64 n', .string s', .slice la' ll' lc', .slice ma' ml' mc'] 25)) W → Calls Try.prog 14 #[.slice (some ⟨v6.heap.size + 1, 0, none⟩) 2 2] W (OverIn W ([t, u].foldl T.over T.none5))) := fun W hW => all_any HZ6 W hW (fun j _ => SZ2.out j) (fun i hi => EZ2.out _ (List.getElem_mem hi))
    have HA7 : Hid (∀ W, Below (v6.alloc (.cells #[.int .i64 5, .bool b, .int .i64 n, .string s, .slice la ll lc, .slice ma ml mc, .int .i64 5, .bool b', .int .i64 n', .string s', .slice la' ll' lc', .slice ma' ml' mc'] 25)).heap.size (v6.alloc (.cells #[.int .i64 5, .bool b, .int .i64 n, .string s, .slice la ll lc, .slice ma ml mc, .int .i64 5, .bool b', .int .i64 n', .string s', .slice la' ll' lc', .slice ma' ml' mc'] 25)) W → Calls Try.prog 14 #[.slice (some ⟨v6.heap.size, 0, none⟩) 2 2] W (OverIn W ([t, u].foldl T.over T.none5))) := fun W hW => all_any (two_values T6p.out U6p.out) W hW (fun j _ => SZ2.out j) (fun i hi => EZ2.out _ (List.getElem_mem hi))
    clear HZ6
    have SZV : Hid (([t, u].foldl T.over T.none5).size ≤ 1000000) := SZ2.out 2
    have hvz : v.size ≤ 1000000 := by omega
    go_cut [8] (fun v8 wx => ∃ (g : Nat) (q0 : Int) (q1 : Bool) (q2 : Int) (q3 : ByteArray) (q4 : Option Addr) (q4l q4c : Nat) (q5 : Option Addr) (q5l q5c : Nat), v8 = .pointer (some ⟨g, 0, none⟩) ∧ Hid (BoxA wx g (.int .i64 q0) (.bool q1) (.int .i64 q2) (.string q3) (.slice q4 q4l q4c) (.slice q5 q5l q5c)) ∧ Hid (Lies wx (fun b => v6.heap.size ≤ b) (T.over ([t, u].foldl T.over T.none5) v) #[.int .i64 q0, .bool q1, .int .i64 q2, .string q3, .slice q4 q4l q4c, .slice q5 q5l q5c]) ∧ v6.heap.size ≤ g ∧ Below v6.heap.size v6 wx)
    case first =>
      go_region_held3 (fun wx : World => wx.cell? ⟨w.heap.size, 0, none⟩ = some (.int .i64 5) ∧ wx.cell? ⟨w.heap.size, 1, none⟩ = some (.bool b) ∧ wx.cell? ⟨w.heap.size, 2, none⟩ = some (.int .i64 n) ∧ wx.cell? ⟨w.heap.size, 3, none⟩ = some (.string s) ∧ wx.cell? ⟨w.heap.size, 4, none⟩ = some (.slice la ll lc) ∧ wx.cell? ⟨w.heap.size, 5, none⟩ = some (.slice ma ml mc) ∧ wx.cell? ⟨w.heap.size + 1, 0, none⟩ = some (.int .i64 5) ∧ wx.cell? ⟨w.heap.size + 1, 1, none⟩ = some (.bool b') ∧ wx.cell? ⟨w.heap.size + 1, 2, none⟩ = some (.int .i64 n') ∧ wx.cell? ⟨w.heap.size + 1, 3, none⟩ = some (.string s') ∧ wx.cell? ⟨w.heap.size + 1, 4, none⟩ = some (.slice la' ll' lc') ∧ wx.cell? ⟨w.heap.size + 1, 5, none⟩ = some (.slice ma' ml' mc') ∧ wx.cell? ⟨w.heap.size + 1 + 1, 0, none⟩ = some (.int .i64 5) ∧ wx.cell? ⟨w.heap.size + 1 + 1, 1, none⟩ = some (.bool b'') ∧ wx.cell? ⟨w.heap.size + 1 + 1, 2, none⟩ = some (.int .i64 n'') ∧ wx.cell? ⟨w.heap.size + 1 + 1, 3, none⟩ = some (.string s'') ∧ wx.cell? ⟨w.heap.size + 1 + 1, 4, none⟩ = some (.slice la'' ll'' lc'') ∧ wx.cell? ⟨w.heap.size + 1 + 1, 5, none⟩ = some (.slice ma'' ml'' mc''))
        (first
          | with_reducible exact SK.out _ hqs
          | with_reducible exact SK.out _ hq8
          | with_reducible exact SK.out _ (hq8a _)
          | with_reducible exact SK.out _ hq7
          | with_reducible exact SK.out _ (hq7a _)
          | exact SK.out _ (fun b hb => rfl)
          | exact SK.out _ (hqa _)
          | exact SK.out _ (hqaa _ _)
          | fail)
        (first
          | (go_at_call 14
             have hm : True := trivial
             with_reducible refine (HA7.out _ (Below.refl _ _).drew).mono ?_
             rintro e w7 ⟨d7, rfl, hL7, hb7⟩
             obtain ⟨j0, j1, j2, j3, j4, j4l, j4c, j5, j5l, j5c, rfl⟩ := hL7.six
             have hM1 : True := trivial
             have hV7 : Below v6.heap.size v6 w7 := bunbox (undrew hb7) (Nat.le_refl _) (by simp)
             have hL7' : Lies w7 (fun b => v6.heap.size ≤ b) ([t, u].foldl T.over T.none5) #[.int .i64 j0, .bool j1, .int .i64 j2, .string j3, .slice j4 j4l j4c, .slice j5 j5l j5c] := hL7.weaken fun b hb => by simp at hb; omega
             have hq7 : ∀ b, b < v6.heap.size → w7.heap[b]? = v6.heap[b]? := fun b hb => hV7.block b hb
             have hq7a : ∀ o b, b < v6.heap.size → (w7.alloc o).heap[b]? = v6.heap[b]? := fun o b hb => (Below.heap_alloc _ _ _ (Nat.lt_of_lt_of_le hb hV7.size)).trans (hq7 b hb))
          | (go_at_call 14
             with_reducible refine (HA7.out _ ((Below.refl _ _).alloc (Nat.le_refl _) _).drew).mono ?_
             rintro e w7 ⟨d7, rfl, hL7, hb7⟩
             obtain ⟨j0, j1, j2, j3, j4, j4l, j4c, j5, j5l, j5c, rfl⟩ := hL7.six
             have hb7' := undrew hb7
             have hM4 : True := trivial
             have y0 := alloc_snd hb7'
             have hV7 := y0.2.2.1
             have hL7' : Lies w7 (fun b => v6.heap.size ≤ b) ([t, u].foldl T.over T.none5) #[.int .i64 j0, .bool j1, .int .i64 j2, .string j3, .slice j4 j4l j4c, .slice j5 j5l j5c] := hL7.weaken fun b hb => by simp at hb; omega
             have hq7 : ∀ b, b < v6.heap.size → w7.heap[b]? = v6.heap[b]? := fun b hb => hV7.block b hb)
          | (go_at_call 14
             with_reducible refine (HZ7.out _ (Below.refl _ _).drew).mono ?_
             rintro e w7 ⟨d7, rfl, hL7, hb7⟩
             obtain ⟨j0, j1, j2, j3, j4, j4l, j4c, j5, j5l, j5c, rfl⟩ := hL7.six
             have hb7' := undrew hb7
             have hM5 : True := trivial
             have y0 := alloc_fst hb7'
             have hV7 := y0.2.2.1
             have hL7' : Lies w7 (fun b => v6.heap.size ≤ b) ([t, u].foldl T.over T.none5) #[.int .i64 j0, .bool j1, .int .i64 j2, .string j3, .slice j4 j4l j4c, .slice j5 j5l j5c] := hL7.weaken fun b hb => by simp at hb; omega
             have hq7 : ∀ b, b < v6.heap.size → w7.heap[b]? = v6.heap[b]? := fun b hb => hV7.block b hb)
          | (go_at_call 12
             have hy := hM4
             with_reducible refine (over_any hL7' (V5.out.later (bstep hV6.out hV7 hV6.out.size)) _ (Below.refl _ _) SZV.out hvz).mono ?_
             rintro e w8 ⟨d8, rfl, hL8, hb8⟩
             obtain ⟨q0, q1, q2, q3, q4, q4l, q4c, q5, q5l, q5c, rfl⟩ := hL8.six
             have hM6 : True := trivial
             have hV8 : Below v6.heap.size v6 w8 := bstep hV7 hb8 hV7.size
             have hlt := y0.2.2.2
             have y3 : ∀ j, w8.cell? ⟨v6.heap.size + 1, j, none⟩ = (#[.int .i64 0, .bool false, .int .i64 0, .string ⟨#[]⟩, .slice none 0 0, .slice none 0 0] : Array Value)[j]? := fun j => (hb8.cell (p := ⟨v6.heap.size + 1, j, none⟩) hlt).trans (y0.1 j)
             have y4 : ∀ j, w8.frozen? ⟨v6.heap.size + 1, j, none⟩ = false := fun j => (hb8.frozen (p := ⟨v6.heap.size + 1, j, none⟩) hlt).trans (y0.2.1 j)
             have BZ : BoxA w8 (v6.heap.size + 1) (.int .i64 0) (.bool false) (.int .i64 0) (.string ⟨#[]⟩) (.slice none 0 0) (.slice none 0 0) := ⟨y3 0, y3 1, y3 2, y3 3, y3 4, y3 5⟩
             have hq8 : ∀ b, b < v6.heap.size → w8.heap[b]? = v6.heap[b]? := fun b hb => hV8.block b hb
             have hqs : ∀ b, b < v6.heap.size → (setRow w8 (v6.heap.size + 1) 0 [.int .i64 q0, .bool q1, .int .i64 q2, .string q3, .slice q4 q4l q4c, .slice q5 q5l q5c]).heap[b]? = v6.heap[b]? := fun b hb => (setRow_heap _ _ _ _ _ (by omega)).trans (hq8 b hb)
             simp only [setRow, Nat.zero_add, Nat.reduceAdd] at hqs)
          | (go_at_call 12
             have hy := hM5
             with_reducible refine (over_any hL7' (V5.out.later (bstep hV6.out hV7 hV6.out.size)) _ (Below.refl _ _) SZV.out hvz).mono ?_
             rintro e w8 ⟨d8, rfl, hL8, hb8⟩
             obtain ⟨q0, q1, q2, q3, q4, q4l, q4c, q5, q5l, q5c, rfl⟩ := hL8.six
             have hM7 : True := trivial
             have hV8 : Below v6.heap.size v6 w8 := bstep hV7 hb8 hV7.size
             have hlt := y0.2.2.2
             have y3 : ∀ j, w8.cell? ⟨v6.heap.size, j, none⟩ = (#[.int .i64 0, .bool false, .int .i64 0, .string ⟨#[]⟩, .slice none 0 0, .slice none 0 0] : Array Value)[j]? := fun j => (hb8.cell (p := ⟨v6.heap.size, j, none⟩) hlt).trans (y0.1 j)
             have y4 : ∀ j, w8.frozen? ⟨v6.heap.size, j, none⟩ = false := fun j => (hb8.frozen (p := ⟨v6.heap.size, j, none⟩) hlt).trans (y0.2.1 j)
             have BZ : BoxA w8 v6.heap.size (.int .i64 0) (.bool false) (.int .i64 0) (.string ⟨#[]⟩) (.slice none 0 0) (.slice none 0 0) := ⟨y3 0, y3 1, y3 2, y3 3, y3 4, y3 5⟩
             have hq8 : ∀ b, b < v6.heap.size → w8.heap[b]? = v6.heap[b]? := fun b hb => hV8.block b hb
             have hqs : ∀ b, b < v6.heap.size → (setRow w8 v6.heap.size 0 [.int .i64 q0, .bool q1, .int .i64 q2, .string q3, .slice q4 q4l q4c, .slice q5 q5l q5c]).heap[b]? = v6.heap[b]? := fun b hb => (setRow_heap _ _ _ _ _ (by omega)).trans (hq8 b hb)
             simp only [setRow, Nat.zero_add, Nat.reduceAdd] at hqs)
          | (go_at_call 12
             have hy := hM1
             with_reducible refine (over_any hL7' (V5.out.later (bstep hV6.out hV7 hV6.out.size)) _ (Below.refl _ _) SZV.out hvz).mono ?_
             rintro e w8 ⟨d8, rfl, hL8, hb8⟩
             obtain ⟨q0, q1, q2, q3, q4, q4l, q4c, q5, q5l, q5c, rfl⟩ := hL8.six
             have hM2 : True := trivial
             have hV8 : Below v6.heap.size v6 w8 := bstep hV7 hb8 hV7.size
             have hq8 : ∀ b, b < v6.heap.size → w8.heap[b]? = v6.heap[b]? := fun b hb => hV8.block b hb
             have hq8a : ∀ o b, b < v6.heap.size → (w8.alloc o).heap[b]? = v6.heap[b]? := fun o b hb => (Below.heap_alloc _ _ _ (Nat.lt_of_lt_of_le hb hV8.size)).trans (hq8 b hb))
          | (go_at_call 12
             have hy := hM1
             with_reducible refine (over_any hL7' (V5.out.later (bstep hV6.out hV7 hV6.out.size)) _ ((Below.refl _ _).alloc (Nat.le_refl _) _) SZV.out hvz).mono ?_
             rintro e w8 ⟨d8, rfl, hL8, hb8⟩
             obtain ⟨q0, q1, q2, q3, q4, q4l, q4c, q5, q5l, q5c, rfl⟩ := hL8.six
             have hM3 : True := trivial
             have hV8 : Below v6.heap.size v6 w8 := bstep hV7 (bunbox hb8 (Nat.le_refl _) (by simp)) hV7.size
             obtain ⟨y3, y4⟩ := one_boxL hb8
             have BZ : BoxA w8 w7.heap.size (.int .i64 0) (.bool false) (.int .i64 0) (.string ⟨#[]⟩) (.slice none 0 0) (.slice none 0 0) := (BoxA.new w7 _ _ _ _ _ _ _).later hb8
             have hq8 : ∀ b, b < v6.heap.size → w8.heap[b]? = v6.heap[b]? := fun b hb => hV8.block b hb
             have hqs : ∀ b, b < v6.heap.size → (setRow w8 w7.heap.size 0 [.int .i64 q0, .bool q1, .int .i64 q2, .string q3, .slice q4 q4l q4c, .slice q5 q5l q5c]).heap[b]? = v6.heap[b]? := fun b hb => (setRow_heap _ _ _ _ _ (by have := hV7.size; omega)).trans (hq8 b hb)
             simp only [setRow, Nat.zero_add, Nat.reduceAdd] at hqs)
          | (go_at_call 14
             with_reducible refine (HA7.out _ ((Below.refl _ _).alloc (Nat.le_refl _) _).drew).mono ?_
             rintro e w7 ⟨d7, rfl, hL7, hb7⟩
             obtain ⟨j0, j1, j2, j3, j4, j4l, j4c, j5, j5l, j5c, rfl⟩ := hL7.six
             have hb7' := undrew hb7
             have hM4 : True := trivial
             have y0 := alloc_snd hb7'
             have hV7 := y0.2.2.1
             have hL7' : Lies w7 (fun b => v6.heap.size ≤ b) ([t, u].foldl T.over T.none5) #[.int .i64 j0, .bool j1, .int .i64 j2, .string j3, .slice j4 j4l j4c, .slice j5 j5l j5c] := hL7.weaken fun b hb => by simp at hb; omega
             have hq7 : ∀ b, b < v6.heap.size → w7.heap[b]? = v6.heap[b]? := fun b hb => hV7.block b hb))
      all_goals
        go_wp2_with fail
        go_meet
        case rel =>
          first
            | (have hy := hM2
               exact ⟨w8.heap.size, q0, q1, q2, q3, q4, q4l, q4c, q5, q5l, q5c, rfl, BoxA.new _ _ _ _ _ _ _ _, (hL8.later ((Below.refl _ _).alloc (Nat.le_refl _) _)).weaken (fun b hb => by have := hV7.size; omega), hV8.size, bbox hV8 _ hV8.size⟩)
            | (have hy := hM3
               exact ⟨w7.heap.size, q0, q1, q2, q3, q4, q4l, q4c, q5, q5l, q5c, rfl, BZ.row _ _ _ _ _ _, (hL8.keep (fun x hx => setRow_heap _ [.int .i64 q0, .bool q1, .int .i64 q2, .string q3, .slice q4 q4l q4c, .slice q5 q5l q5c] _ _ _ (by simp only [World.size_alloc] at hx; omega))).weaken (fun b hb => by have := hV7.size; simp only [World.size_alloc] at hb; omega), hV7.size, setRow_below _ hV7.size [.int .i64 q0, .bool q1, .int .i64 q2, .string q3, .slice q4 q4l q4c, .slice q5 q5l q5c] _ _ hV8⟩)
            | (have hy := hM6
               exact ⟨v6.heap.size + 1, q0, q1, q2, q3, q4, q4l, q4c, q5, q5l, q5c, rfl, BZ.row _ _ _ _ _ _, (hL8.keep (fun x hx => setRow_heap _ [.int .i64 q0, .bool q1, .int .i64 q2, .string q3, .slice q4 q4l q4c, .slice q5 q5l q5c] _ _ _ (by omega))).weaken (fun b hb => by omega), by omega, setRow_below _ (by omega) [.int .i64 q0, .bool q1, .int .i64 q2, .string q3, .slice q4 q4l q4c, .slice q5 q5l q5c] _ _ hV8⟩)
            | (have hy := hM7
               exact ⟨v6.heap.size, q0, q1, q2, q3, q4, q4l, q4c, q5, q5l, q5c, rfl, BZ.row _ _ _ _ _ _, (hL8.keep (fun x hx => setRow_heap _ [.int .i64 q0, .bool q1, .int .i64 q2, .string q3, .slice q4 q4l q4c, .slice q5 q5l q5c] _ _ _ (by omega))).weaken (fun b hb => by omega), Nat.le_refl _, setRow_below _ (Nat.le_refl _) [.int .i64 q0, .bool q1, .int .i64 q2, .string q3, .slice q4 q4l q4c, .slice q5 q5l q5c] _ _ hV8⟩)
    case rest =>
      obtain ⟨g, q0, q1, q2, q3, q4, q4l, q4c, q5, q5l, q5c, rfl, BQ, LQ, hg6, hVw⟩ := hcut
      have BI6 := Lib.hid (BI.out.later hVw)
      have LI6 := Lib.hid (LI.out.later hVw)
      have LQ6 : Hid (Lies wc (fun b => v6.heap.size ≤ b) ([t, u, v].foldl T.over T.none5) #[.int .i64 q0, .bool q1, .int .i64 q2, .string q3, .slice q4 q4l q4c, .slice q5 q5l q5c]) := LQ.out
      have CW := Lib.hid (bstep C5.out (bstep hV6.out hVw hV6.out.size) C5.out.size)
      have SAZ : Hid (([t, u, v].foldl T.over T.none5).size ≤ 1000000) := SZ.out 3
      have SM := Lib.hid (T.same_self ([t, u, v].foldl T.over T.none5))
      have AP := Lib.hid (all_plain [t, u, v])
      have AG := Lib.hid (all_again [t, u, v])
      have SK2 : Hid (∀ wx : World, (∀ b, b < wc.heap.size → wx.heap[b]? = wc.heap[b]?) → wx.cell? ⟨w6.heap.size, 0, none⟩ = some (.int .i64 i0) ∧ wx.cell? ⟨w6.heap.size, 1, none⟩ = some (.bool i1) ∧ wx.cell? ⟨w6.heap.size, 2, none⟩ = some (.int .i64 i2) ∧ wx.cell? ⟨w6.heap.size, 3, none⟩ = some (.string i3) ∧ wx.cell? ⟨w6.heap.size, 4, none⟩ = some (.slice i4 i4l i4c) ∧ wx.cell? ⟨w6.heap.size, 5, none⟩ = some (.slice i5 i5l i5c) ∧ wx.cell? ⟨g, 0, none⟩ = some (.int .i64 q0) ∧ wx.cell? ⟨g, 1, none⟩ = some (.bool q1) ∧ wx.cell? ⟨g, 2, none⟩ = some (.int .i64 q2) ∧ wx.cell? ⟨g, 3, none⟩ = some (.string q3) ∧ wx.cell? ⟨g, 4, none⟩ = some (.slice q4 q4l q4c) ∧ wx.cell? ⟨g, 5, none⟩ = some (.slice q5 q5l q5c)) := fun wx hx => by
        obtain ⟨xi0, xi1, xi2, xi3, xi4, xi5⟩ := BI6.out
        obtain ⟨xq0, xq1, xq2, xq3, xq4, xq5⟩ := BQ.out
        have l1 := BI6.out.lt
        have l2 := BQ.out.lt
        exact ⟨(World.cell?_of_block (hx _ l1)).trans xi0, (World.cell?_of_block (hx _ l1)).trans xi1, (World.cell?_of_block (hx _ l1)).trans xi2, (World.cell?_of_block (hx _ l1)).trans xi3, (World.cell?_of_block (hx _ l1)).trans xi4, (World.cell?_of_block (hx _ l1)).trans xi5, (World.cell?_of_block (hx _ l2)).trans xq0, (World.cell?_of_block (hx _ l2)).trans xq1, (World.cell?_of_block (hx _ l2)).trans xq2, (World.cell?_of_block (hx _ l2)).trans xq3, (World.cell?_of_block (hx _ l2)).trans xq4, (World.cell?_of_block (hx _ l2)).trans xq5⟩
      have HF : ∀ (W : World) (la : Option Addr) (lc : Nat) (ma : Option Addr) (mc : Nat), (Instr.field 25 (.agg #[.int .i64 5, .bool false, .int .i64 0, .string ⟨#[]⟩, .slice la 0 lc, .slice ma 0 mc]) 5).run Try.prog W = .ok (.slice ma 0 mc) W := fun W la lc ma mc => field_five 5 false 0 ⟨#[]⟩ la 0 lc ma 0 mc W
      go_wp2_with fail
      go_region_held3 (fun wx : World => wx.cell? ⟨w6.heap.size, 0, none⟩ = some (.int .i64 i0) ∧ wx.cell? ⟨w6.heap.size, 1, none⟩ = some (.bool i1) ∧ wx.cell? ⟨w6.heap.size, 2, none⟩ = some (.int .i64 i2) ∧ wx.cell? ⟨w6.heap.size, 3, none⟩ = some (.string i3) ∧ wx.cell? ⟨w6.heap.size, 4, none⟩ = some (.slice i4 i4l i4c) ∧ wx.cell? ⟨w6.heap.size, 5, none⟩ = some (.slice i5 i5l i5c) ∧ wx.cell? ⟨g, 0, none⟩ = some (.int .i64 q0) ∧ wx.cell? ⟨g, 1, none⟩ = some (.bool q1) ∧ wx.cell? ⟨g, 2, none⟩ = some (.int .i64 q2) ∧ wx.cell? ⟨g, 3, none⟩ = some (.string q3) ∧ wx.cell? ⟨g, 4, none⟩ = some (.slice q4 q4l q4c) ∧ wx.cell? ⟨g, 5, none⟩ = some (.slice q5 q5l q5c))
        (first
          | with_reducible exact SK2.out _ hqE
          | with_reducible exact SK2.out _ hqD
          | with_reducible exact SK2.out _ hqC
          | with_reducible exact SK2.out _ hqBa
          | with_reducible exact SK2.out _ hqB
          | with_reducible exact SK2.out _ hqA
          | with_reducible exact SK2.out _ hq9
          | exact SK2.out _ hqBa
          | exact SK2.out _ (fun b hb => rfl)
          | fail)
        (first
          | (go_at_call 10
             with_reducible refine (awake3_any _).mono ?_
             rintro e w9 ⟨rfl, hb9⟩
             have hV9 : Below wc.heap.size wc w9 := undrew hb9
             have hq9 : ∀ b, b < wc.heap.size → w9.heap[b]? = wc.heap[b]? := fun b hb => hV9.block b hb)
          | (go_at_call 11
             have hy := hVC
             with_reducible refine (rSame_any hLC' (LI6.out.later hVC) _ (Below.refl _ _)).mono ?_
             rintro e wD ⟨rfl, hbD⟩
             rw [SM.out]
             have hVD : Below wc.heap.size wc wD := bstep hVC hbD hVC.size
             have hqD : ∀ b, b < wc.heap.size → wD.heap[b]? = wc.heap[b]? := fun b hb => hVD.block b hb)
          | (go_at_call 11
             with_reducible refine (rSame_any (LI6.out.later hV9) (LQ6.out.later hV9) _ (Below.refl _ _)).mono ?_
             rintro e wA ⟨rfl, hbA⟩
             rw [SM.out]
             have hVA : Below wc.heap.size wc wA := bstep hV9 hbA hV9.size
             have hqA : ∀ b, b < wc.heap.size → wA.heap[b]? = wc.heap[b]? := fun b hb => hVA.block b hb)
          | (go_at_call 16
             with_reducible refine (plain_any (LI6.out.later hVA) _ (Below.refl _ _) SAZ.out).mono ?_
             rintro e wB ⟨rfl, hbB⟩
             rw [AP.out]
             have hVB : Below wc.heap.size wc wB := bstep hVA hbB hVA.size
             have hqB : ∀ b, b < wc.heap.size → wB.heap[b]? = wc.heap[b]? := fun b hb => hVB.block b hb
             have hqBa : ∀ b, b < wc.heap.size → (wB.alloc (.cells #[.int .i64 i0, .bool i1, .int .i64 i2, .string i3, .slice i4 i4l i4c, .slice i5 i5l i5c] 25)).heap[b]? = wc.heap[b]? := fun b hb => (Below.heap_alloc _ _ _ (Nat.lt_of_lt_of_le hb hVB.size)).trans (hqB b hb))
          | (go_at_call 14
             have hy := hVD
             with_reducible refine (all_none _).mono ?_
             rintro e wE ⟨dE, rfl, hLE, hbE⟩
             obtain ⟨laE, lcE, maE, mcE, rfl⟩ := mk5_cells (show Lies wE _ (mk5 []) dE from hLE)
             have hf := HF wE laE lcE maE mcE
             have hVE : Below wc.heap.size wc wE := bstep hVD hbE hVD.size
             have hqE : ∀ b, b < wc.heap.size → wE.heap[b]? = wc.heap[b]? := fun b hb => hVE.block b hb)
          | (go_at_call 14
             have hy := hVB
             with_reducible refine (all_one (LI6.out.later hVB) SAZ.out _ (Below.refl _ _)).mono ?_
             rintro e wC ⟨dC, rfl, hLC, hbC⟩
             rw [AG.out] at hLC
             obtain ⟨r0, r1, r2, r3, r4, r4l, r4c, r5, r5l, r5c, rfl⟩ := hLC.six
             have hLC' := hLC
             have hVC : Below wc.heap.size wc wC := bstep hVB (bunbox hbC (Nat.le_refl _) (by simp)) hVB.size
             have hqC : ∀ b, b < wc.heap.size → wC.heap[b]? = wc.heap[b]? := fun b hb => hVC.block b hb))
      all_goals
        go_wp2_with fail
        go_ret
        exact ⟨rfl, bstep CW.out hVE CW.out.size⟩

end Go.Proofs.Ytcafackiofncmaa
