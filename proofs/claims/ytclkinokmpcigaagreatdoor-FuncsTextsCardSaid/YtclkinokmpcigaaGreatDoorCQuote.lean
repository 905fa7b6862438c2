/-
  Package scalar's Quote.
-/
import Derived.Test.YtclkinokmpcigaaGreatDoorBare
import Derived.Test.YtclkinokmpcigaaGreatDoorOwn
import Derived.Laws.IdiomStrings
set_option linter.unusedVariables false
set_option linter.unusedSimpArgs false
namespace Go.Proofs.YtclkinokmpcigaaGreatDoor
open Go.RowKit

/-- Bytes in a slice of one's own. -/
def OwnB (base : Nat) (w : World) (v : Value) (l : List UInt8) : Prop := w.ownsRow base 5 1 v l.length (Lib.byteCells l)

theorem Tryz.infoB : (Tryz.prog.info? 5).map (fun i => (i.zero, i.size, i.bytes)) = some (some (.int .u8 0), 1, 1) := by kernel_rfl
theorem info_byte : ∃ i0, Tryz.prog.info? 5 = some i0 ∧ i0.zero = some (.int .u8 0) ∧ i0.size = 1 ∧ i0.bytes = 1 := by
  have h := Tryz.infoB
  cases e : Tryz.prog.info? 5 with
  | none => rw [e] at h; cases h
  | some i =>
    rw [e] at h
    simp only [Option.map_some, Option.some.injEq, Prod.mk.injEq] at h
    exact ⟨i, rfl, h.1, h.2.1, h.2.2⟩
theorem byte_lit (w : World) (x : Value) (t : TypeId) : ∀ ad : Addr, some (⟨w.heap.size, 0, none⟩ : Addr) = some ad → ∀ j u, [x][j]? = some u → (w.alloc (.cells #[x] t)).cell? (ad.add j) = some u := fun ad h j u hu => by
  injection h with h
  subst h
  rw [Addr.add_lit, Nat.zero_add, World.cell?_alloc_new, ← Array.getElem?_toList]
  exact hu

/-- What a slice of bytes of one's own has become. -/
def GrewB (base : Nat) (w : World) (v : Value) (l : List UInt8) (w' : World) (v' : Value) : Prop :=
  OwnB base w' v' l ∧ w.grownBy w' v.ownBlock ∧ (v'.ownBlock = v.ownBlock ∨ ∃ g, w.heap.size ≤ g ∧ v'.ownBlock = some g)
def GrowB (base : Nat) (w : World) (v : Value) (l : List UInt8) (e : Ending) (w' : World) : Prop := ∃ v', e = .returned v' ∧ GrewB base w v l w' v'

theorem GrewB.alloc {base : Nat} {w w' : World} {v v' : Value} {l : List UInt8} {o : Obj} (h : GrewB base (w.alloc o) v l w' v') : GrewB base w v l w' v' :=
  ⟨h.1, (World.grownBy_alloc w o _).trans h.2.1, h.2.2.imp id fun ⟨g, hg, e⟩ => ⟨g, by simp at hg; omega, e⟩⟩
theorem GrewB.trans {base : Nat} {w w1 w2 : World} {v v1 v2 : Value} {l1 l2 : List UInt8} (h : GrewB base w v l1 w1 v1) (k : GrewB base w1 v1 l2 w2 v2) : GrewB base w v l2 w2 v2 := by
  refine ⟨k.1, ?_, ?_⟩
  · rcases h.2.2 with e | ⟨g, hg, e⟩
    · exact h.2.1.trans (e ▸ k.2.1)
    · refine ⟨k.2.1.os.trans h.2.1.os, k.2.1.tape.trans h.2.1.tape, k.2.1.output.trans h.2.1.output, Nat.le_trans h.2.1.size k.2.1.size, fun i hi hne => ?_⟩
      rw [k.2.1.block i (Nat.lt_of_lt_of_le hi h.2.1.size) (fun e2 => by rw [e] at e2; injection e2 with e2; omega), h.2.1.block i hi hne]
  · rcases k.2.2 with e | ⟨g, hg, e⟩
    · rcases h.2.2 with e2 | ⟨g2, hg2, e2⟩
      · exact .inl (e.trans e2)
      · exact .inr ⟨g2, hg2, e.trans e2⟩
    · exact .inr ⟨g, Nat.le_trans h.2.1.size hg, e⟩
theorem grew_of {base : Nat} {w w' : World} {v v' : Value} {l : List UInt8} {b : UInt8} (own : w'.ownsRow base 5 1 v' (l.length + 1) (Lib.byteCells l ++ [.int .u8 b.toNat])) (hg : w.grownBy w' v.ownBlock) (hob : v'.ownBlock = v.ownBlock ∨ v'.ownBlock = some w.heap.size) : GrewB base w v (l ++ [b]) w' v' := by
  refine ⟨?_, hg, hob.imp id fun e => ⟨_, Nat.le_refl _, e⟩⟩
  show World.ownsRow _ _ _ _ _ _ _
  rw [Lib.byteCells_append, List.length_append]
  exact own

theorem cname_ten (c : UInt8) (h : c.toNat = 10) (w : World) : Calls Tryz.prog 121 #[.int .u8 c.toNat] w fun e w' => e = .returned (.int .u8 110) ∧ w' = w := by
  have h2 : ((c.toNat : Int) == 10) = true := by rw [beq_iff_eq]; omega
  clear h
  go_enter Tryz.func121, Tryz.ntmps121
  go_wp2_with fail
  go_ret
  exact ⟨rfl, rfl⟩
theorem cname_nine (c : UInt8) (h : c.toNat ≠ 10) (w : World) : Calls Tryz.prog 121 #[.int .u8 c.toNat] w fun e w' => e = .returned (.int .u8 116) ∧ w' = w := by
  have h2 : ((c.toNat : Int) == 10) = false := by rw [beq_eq_false_iff_ne]; omega
  clear h
  go_enter Tryz.func121, Tryz.ntmps121
  go_wp2_with fail
  go_ret
  exact ⟨rfl, rfl⟩

set_option maxHeartbeats 1000000 in
theorem cquoted_any {base : Nat} {v : Value} {l : List UInt8} (w : World) (h : OwnB base w v l) (c : UInt8) (hn : l.length ≤ 100000000000000) (hb : base ≤ w.heap.size) :
    Calls Tryz.prog 86 #[v, .int .u8 c.toNat] w (GrowB base w v (l ++ escB c)) := by
  obtain ⟨i0, hi, hz0, hz1, hz2⟩ := info_byte
  have HI0 := Lib.hid hi
  have HZ0 := Lib.hid hz0
  have HZ1 := Lib.hid hz1
  have HZ2 := Lib.hid hz2
  clear hi hz0 hz1 hz2
  obtain ⟨al, cl, rfl⟩ := row_form h
  have O1 : Hid (OwnB base (w.alloc (.cells #[.int .u8 92] 5)) (.slice al l.length cl) l) := World.ownsRow.alloc h _
  have O0 : Hid (OwnB base (w.alloc (.cells #[.int .u8 c.toNat] 5)) (.slice al l.length cl) l) := World.ownsRow.alloc h _
  have HE : Hid (∀ d, l ++ [92, d] = (l ++ [92]) ++ [d]) := fun d => by simp
  clear h
  rcases byte_four c.toNat with ⟨c1, n1⟩ | ⟨c1, c2, n1⟩ | ⟨c1, c2, c3, n1⟩ | ⟨c1, c2, c3, c4, n1⟩ | ⟨c1, c2, c3, c4, n1, n2, n3, n4⟩
  · have N1 := Lib.hid n1
    clear n1 O0
    have HX : Hid (escB c = [92, 110]) := esc_ten N1.out
    rw [HX.out, HE.out]
    go_enter Tryz.func86, Tryz.ntmps86
    go_wp2_with (first
        | (go_at_call 121; refine (cname_ten _ N1.out _).mono ?_; rintro e w1 ⟨rfl, hw1⟩; have hw2 := hw1.symm; subst hw2)
        | (at_builtin; (refine wpList_append_own_any _ rfl (.tmp 14) (.tmp 15) 62 rfl base 5 i0 _ 1 1 Tryz.underlying62 HI0.out HZ0.out HZ1.out HZ2.out (by rfl) (by decide) (.slice al l.length cl) l.length _ rfl O1.out (some ⟨w.heap.size, 0, none⟩) 1 1 [.int .u8 92] rfl rfl (fun h => by cases h) (byte_lit w _ _) (fun u hu => by simp at hu; subst hu; rfl) (by unfold maxLen; omega) (by omega) (by simp; omega) ?_)
           intro v2 w2 own2 hg2 hob2
           have G1 := Lib.hid ((grew_of (b := 92) own2 hg2 hob2).alloc)
           obtain ⟨al2, cl2, hv2⟩ := row_form own2
           subst hv2
           have hbs2 : base ≤ w2.heap.size := Nat.le_trans hb G1.out.2.1.size
           have O2 : Hid (World.ownsRow base (w := w2.alloc (.cells #[.int .u8 110] 5)) 5 1 (.slice al2 (l.length + 1) cl2) (l.length + 1) (Lib.byteCells l ++ [.int .u8 92])) := World.ownsRow.alloc own2 _
           clear own2 hg2 hob2)
        | (at_builtin; (refine wpList_append_own_any _ rfl (.tmp 17) (.tmp 19) 62 rfl base 5 i0 _ 1 1 Tryz.underlying62 HI0.out HZ0.out HZ1.out HZ2.out (by rfl) (by decide) (.slice al2 (l.length + 1) cl2) (l.length + 1) _ rfl O2.out (some ⟨w2.heap.size, 0, none⟩) 1 1 [.int .u8 110] rfl rfl (fun h => by cases h) (byte_lit w2 _ _) (fun u hu => by simp at hu; subst hu; rfl) (by unfold maxLen; omega) (by omega) (by simp; omega) ?_)
           intro v3 w3 own3 hg3 hob3
           obtain ⟨al3, cl3, hv3⟩ := row_form own3
           subst hv3
           have G3 : Hid (GrewB base w (.slice al l.length cl) ((l ++ [92]) ++ [110]) w3 (.slice al3 (l.length + 1 + 1) cl3)) := by
             have k : GrewB base (w2.alloc (.cells #[.int .u8 110] 5)) (.slice al2 (l.length + 1) cl2) ((l ++ [92]) ++ [110]) w3 (.slice al3 (l.length + 1 + 1) cl3) := grew_of (l := l ++ [92]) (b := 110) (by simpa [Lib.byteCells_append, Lib.byteCells] using own3) hg3 hob3
             exact G1.out.trans k.alloc
           clear own3 hg3 hob3))
    go_ret
    exact ⟨_, rfl, G3.out⟩
  · have N1 := Lib.hid n1
    clear n1 O0
    have HX : Hid (escB c = [92, 116]) := esc_nine N1.out
    rw [HX.out, HE.out]
    go_enter Tryz.func86, Tryz.ntmps86
    go_wp2_with (first
        | (go_at_call 121; refine (cname_nine _ (by have := N1.out; omega) _).mono ?_; rintro e w1 ⟨rfl, hw1⟩; have hw2 := hw1.symm; subst hw2)
        | (at_builtin; (refine wpList_append_own_any _ rfl (.tmp 14) (.tmp 15) 62 rfl base 5 i0 _ 1 1 Tryz.underlying62 HI0.out HZ0.out HZ1.out HZ2.out (by rfl) (by decide) (.slice al l.length cl) l.length _ rfl O1.out (some ⟨w.heap.size, 0, none⟩) 1 1 [.int .u8 92] rfl rfl (fun h => by cases h) (byte_lit w _ _) (fun u hu => by simp at hu; subst hu; rfl) (by unfold maxLen; omega) (by omega) (by simp; omega) ?_)
           intro v2 w2 own2 hg2 hob2
           have G1 := Lib.hid ((grew_of (b := 92) own2 hg2 hob2).alloc)
           obtain ⟨al2, cl2, hv2⟩ := row_form own2
           subst hv2
           have hbs2 : base ≤ w2.heap.size := Nat.le_trans hb G1.out.2.1.size
           have O2 : Hid (World.ownsRow base (w := w2.alloc (.cells #[.int .u8 116] 5)) 5 1 (.slice al2 (l.length + 1) cl2) (l.length + 1) (Lib.byteCells l ++ [.int .u8 92])) := World.ownsRow.alloc own2 _
           clear own2 hg2 hob2)
        | (at_builtin; (refine wpList_append_own_any _ rfl (.tmp 17) (.tmp 19) 62 rfl base 5 i0 _ 1 1 Tryz.underlying62 HI0.out HZ0.out HZ1.out HZ2.out (by rfl) (by decide) (.slice al2 (l.length + 1) cl2) (l.length + 1) _ rfl O2.out (some ⟨w2.heap.size, 0, none⟩) 1 1 [.int .u8 116] rfl rfl (fun h => by cases h) (byte_lit w2 _ _) (fun u hu => by simp at hu; subst hu; rfl) (by unfold maxLen; omega) (by omega) (by simp; omega) ?_)
           intro v3 w3 own3 hg3 hob3
           obtain ⟨al3, cl3, hv3⟩ := row_form own3
           subst hv3
           have G3 : Hid (GrewB base w (.slice al l.length cl) ((l ++ [92]) ++ [116]) w3 (.slice al3 (l.length + 1 + 1) cl3)) := by
             have k : GrewB base (w2.alloc (.cells #[.int .u8 116] 5)) (.slice al2 (l.length + 1) cl2) ((l ++ [92]) ++ [116]) w3 (.slice al3 (l.length + 1 + 1) cl3) := grew_of (l := l ++ [92]) (b := 116) (by simpa [Lib.byteCells_append, Lib.byteCells] using own3) hg3 hob3
             exact G1.out.trans k.alloc
           clear own3 hg3 hob3))
    go_ret
    exact ⟨_, rfl, G3.out⟩
  · have N1 := Lib.hid n1
    clear n1 O0
    have HX : Hid (escB c = [92, c]) := esc_bs (.inl N1.out)
    rw [HX.out, HE.out]
    go_enter Tryz.func86, Tryz.ntmps86
    go_wp2_with (first
        | (at_builtin; (refine wpList_append_own_any _ rfl (.tmp 14) (.tmp 15) 62 rfl base 5 i0 _ 1 1 Tryz.underlying62 HI0.out HZ0.out HZ1.out HZ2.out (by rfl) (by decide) (.slice al l.length cl) l.length _ rfl O1.out (some ⟨w.heap.size, 0, none⟩) 1 1 [.int .u8 92] rfl rfl (fun h => by cases h) (byte_lit w _ _) (fun u hu => by simp at hu; subst hu; rfl) (by unfold maxLen; omega) (by omega) (by simp; omega) ?_)
           intro v2 w2 own2 hg2 hob2
           have G1 := Lib.hid ((grew_of (b := 92) own2 hg2 hob2).alloc)
           obtain ⟨al2, cl2, hv2⟩ := row_form own2
           subst hv2
           have hbs2 : base ≤ w2.heap.size := Nat.le_trans hb G1.out.2.1.size
           have O2 : Hid (World.ownsRow base (w := w2.alloc (.cells #[.int .u8 c.toNat] 5)) 5 1 (.slice al2 (l.length + 1) cl2) (l.length + 1) (Lib.byteCells l ++ [.int .u8 92])) := World.ownsRow.alloc own2 _
           clear own2 hg2 hob2)
        | (at_builtin; (refine wpList_append_own_any _ rfl (.tmp 17) (.tmp 19) 62 rfl base 5 i0 _ 1 1 Tryz.underlying62 HI0.out HZ0.out HZ1.out HZ2.out (by rfl) (by decide) (.slice al2 (l.length + 1) cl2) (l.length + 1) _ rfl O2.out (some ⟨w2.heap.size, 0, none⟩) 1 1 [.int .u8 c.toNat] rfl rfl (fun h => by cases h) (byte_lit w2 _ _) (fun u hu => by simp at hu; subst hu; rfl) (by unfold maxLen; omega) (by omega) (by simp; omega) ?_)
           intro v3 w3 own3 hg3 hob3
           obtain ⟨al3, cl3, hv3⟩ := row_form own3
           subst hv3
           have G3 : Hid (GrewB base w (.slice al l.length cl) ((l ++ [92]) ++ [c]) w3 (.slice al3 (l.length + 1 + 1) cl3)) := by
             have k : GrewB base (w2.alloc (.cells #[.int .u8 c.toNat] 5)) (.slice al2 (l.length + 1) cl2) ((l ++ [92]) ++ [c]) w3 (.slice al3 (l.length + 1 + 1) cl3) := grew_of (l := l ++ [92]) (b := c) (by simpa [Lib.byteCells_append, Lib.byteCells] using own3) hg3 hob3
             exact G1.out.trans k.alloc
           clear own3 hg3 hob3))
    go_ret
    exact ⟨_, rfl, G3.out⟩
  · have N1 := Lib.hid n1
    clear n1 O0
    have HX : Hid (escB c = [92, c]) := esc_bs (.inr N1.out)
    rw [HX.out, HE.out]
    go_enter Tryz.func86, Tryz.ntmps86
    go_wp2_with (first
        | (at_builtin; (refine wpList_append_own_any _ rfl (.tmp 14) (.tmp 15) 62 rfl base 5 i0 _ 1 1 Tryz.underlying62 HI0.out HZ0.out HZ1.out HZ2.out (by rfl) (by decide) (.slice al l.length cl) l.length _ rfl O1.out (some ⟨w.heap.size, 0, none⟩) 1 1 [.int .u8 92] rfl rfl (fun h => by cases h) (byte_lit w _ _) (fun u hu => by simp at hu; subst hu; rfl) (by unfold maxLen; omega) (by omega) (by simp; omega) ?_)
           intro v2 w2 own2 hg2 hob2
           have G1 := Lib.hid ((grew_of (b := 92) own2 hg2 hob2).alloc)
           obtain ⟨al2, cl2, hv2⟩ := row_form own2
           subst hv2
           have hbs2 : base ≤ w2.heap.size := Nat.le_trans hb G1.out.2.1.size
           have O2 : Hid (World.ownsRow base (w := w2.alloc (.cells #[.int .u8 c.toNat] 5)) 5 1 (.slice al2 (l.length + 1) cl2) (l.length + 1) (Lib.byteCells l ++ [.int .u8 92])) := World.ownsRow.alloc own2 _
           clear own2 hg2 hob2)
        | (at_builtin; (refine wpList_append_own_any _ rfl (.tmp 17) (.tmp 19) 62 rfl base 5 i0 _ 1 1 Tryz.underlying62 HI0.out HZ0.out HZ1.out HZ2.out (by rfl) (by decide) (.slice al2 (l.length + 1) cl2) (l.length + 1) _ rfl O2.out (some ⟨w2.heap.size, 0, none⟩) 1 1 [.int .u8 c.toNat] rfl rfl (fun h => by cases h) (byte_lit w2 _ _) (fun u hu => by simp at hu; subst hu; rfl) (by unfold maxLen; omega) (by omega) (by simp; omega) ?_)
           intro v3 w3 own3 hg3 hob3
           obtain ⟨al3, cl3, hv3⟩ := row_form own3
           subst hv3
           have G3 : Hid (GrewB base w (.slice al l.length cl) ((l ++ [92]) ++ [c]) w3 (.slice al3 (l.length + 1 + 1) cl3)) := by
             have k : GrewB base (w2.alloc (.cells #[.int .u8 c.toNat] 5)) (.slice al2 (l.length + 1) cl2) ((l ++ [92]) ++ [c]) w3 (.slice al3 (l.length + 1 + 1) cl3) := grew_of (l := l ++ [92]) (b := c) (by simpa [Lib.byteCells_append, Lib.byteCells] using own3) hg3 hob3
             exact G1.out.trans k.alloc
           clear own3 hg3 hob3))
    go_ret
    exact ⟨_, rfl, G3.out⟩
  · have HX : Hid (escB c = [c]) := esc_self n1 n2 n3 n4
    clear n1 n2 n3 n4 O1
    rw [HX.out]
    go_enter Tryz.func86, Tryz.ntmps86
    go_wp2_with (first
        | (at_builtin; (refine wpList_append_own_any _ rfl (.tmp 17) (.tmp 19) 62 rfl base 5 i0 _ 1 1 Tryz.underlying62 HI0.out HZ0.out HZ1.out HZ2.out (by rfl) (by decide) (.slice al l.length cl) l.length _ rfl O0.out (some ⟨w.heap.size, 0, none⟩) 1 1 [.int .u8 c.toNat] rfl rfl (fun h => by cases h) (byte_lit w _ _) (fun u hu => by simp at hu; subst hu; rfl) (by unfold maxLen; omega) (by omega) (by simp; omega) ?_)
           intro v3 w3 own3 hg3 hob3
           have G1 := Lib.hid ((grew_of (b := c) own3 hg3 hob3).alloc)
           obtain ⟨al3, cl3, hv3⟩ := row_form own3
           subst hv3
           clear own3 hg3 hob3))
    go_ret
    exact ⟨_, rfl, G1.out⟩

theorem ownB_form {base : Nat} {w : World} {v : Value} {l : List UInt8} (h : OwnB base w v l) (hl : 0 < l.length) : ∃ g c, v = .slice (some ⟨g, 0, none⟩) l.length c ∧ ∀ j (hj : j < l.length), w.cell? ((⟨g, 0, none⟩ : Addr).add j) = some (.int .u8 (l[j].toNat : Int)) := by
  rcases h.2 with ⟨e, hn⟩ | ⟨g, cap, cur, e, hg, hx⟩
  · rw [hn] at hl; exact absurd hl (Nat.lt_irrefl 0)
  · refine ⟨g, cap, e, fun j hj => ?_⟩
    have := World.ownsRow.cells h (g := g) (by rw [e]; rfl) j (.int .u8 (l[j].toNat : Int)) (by simp [Lib.byteCells, List.getElem?_eq_getElem hj])
    exact this

/-- What Quote has of the first k bytes. -/
def qL (s : ByteArray) (k : Nat) : List UInt8 := 34 :: (s.data.toList.take k).flatMap escB
theorem qL_len (s : ByteArray) (k : Nat) (hk : k ≤ s.size) : (qL s k).length ≤ 1 + 2 * k := by
  rw [qL]
  have h1 := esc_len (s.data.toList.take k)
  have h2 := List.length_take_le k s.data.toList
  simp only [List.length_cons]
  omega
theorem qL_step (s : ByteArray) (k : Nat) (h : k < s.size) : qL s (k + 1) = qL s k ++ escB s[k] := by
  rw [qL, qL, take_one s k h, List.flatMap_append]
  simp
theorem qL_all (s : ByteArray) : qL s s.size ++ [34] = quoteL s.data.toList := by
  rw [qL, quoteL, List.take_of_length_le (by rw [← Lib.size_eq]; exact Nat.le_refl _)]
  rfl

set_option maxHeartbeats 1000000 in
theorem cQuote_any (s : ByteArray) (hs : s.size ≤ 1000000000000) (w : World) : Calls Tryz.prog 49 #[.string s] w fun e w' => e = .returned (.string ⟨(quoteL s.data.toList).toArray⟩) ∧ Below w.heap.size w w' := by
  obtain ⟨i0, hi, hz0, hz1, hz2⟩ := info_byte
  have HI0 := Lib.hid hi
  have HZ0 := Lib.hid hz0
  have HZ1 := Lib.hid hz1
  have HZ2 := Lib.hid hz2
  clear hi hz0 hz1 hz2
  go_enter Tryz.func49, Tryz.ntmps49
  go_wp2_with (first
    | (at_make; (refine wpList_make_own _ rfl _ _ 62 rfl w.heap.size 5 i0 _ 1 Tryz.underlying62 HI0.out HZ0.out HZ1.out .i64 .i64 _ (s.size + 2) rfl rfl (by simp) (by rw [HZ2.out]; omega) (by unfold maxLen; omega) (Nat.le_refl _) ?_)
       intro w1 own1 hg1
       have HB1 := Lib.hid ((Below.refl w.heap.size w).grown hg1 (Nat.le_refl _) (by simp))
       have O1 : Hid (OwnB w.heap.size (w1.alloc (.cells #[.int .u8 34] 5)) (.slice (some ⟨w.heap.size, 0, none⟩) 0 (s.size + 2)) []) := World.ownsRow.alloc own1 _
       have hs1 : w.heap.size ≤ w1.heap.size := HB1.out.size
       clear own1 hg1)
    | (at_builtin; (refine wpList_append_own_any _ rfl (.tmp 9) (.tmp 10) 62 rfl w.heap.size 5 i0 _ 1 1 Tryz.underlying62 HI0.out HZ0.out HZ1.out HZ2.out (by rfl) (by decide) (.slice (some ⟨w.heap.size, 0, none⟩) 0 (s.size + 2)) 0 _ rfl O1.out (some ⟨w1.heap.size, 0, none⟩) 1 1 [.int .u8 34] rfl rfl (fun h => by cases h) (byte_lit w1 _ _) (fun u hu => by simp at hu; subst hu; rfl) (by unfold maxLen; omega) (by omega) (by simp; omega) ?_)
       intro v2 w2 own2 hg2 hob2
       have G2 := Lib.hid ((grew_of (l := []) (b := 34) own2 hg2 hob2))
       have HB2 : Hid (Below w.heap.size w w2) := Below.grown (HB1.out.alloc HB1.out.size _) hg2 (by simp; omega) (fun k hk => ((World.ownsRow.lt O1.out) k hk).1)
       clear own2 hg2 hob2))
  go_loopw [3, 14] (fun v vi wr => ∃ k : Nat, k ≤ s.size ∧ vi = .int .i64 k ∧ OwnB w.heap.size wr v (qL s k) ∧ Below w.heap.size w wr) (fun _ vi _ => s.size - (intOf vi).toNat)
  case atStart => exact ⟨0, Nat.zero_le _, rfl, G2.out.1, HB2.out⟩
  case round =>
    obtain ⟨k, hk, rfl, hown, hbel⟩ := hrel
    have HO := Lib.hid hown
    have HBL := Lib.hid hbel
    have hbs : w.heap.size ≤ wr.heap.size := hbel.size
    have hql := qL_len s k hk
    clear hown hbel
    by_cases hkl : k < s.size
    · have HS := Lib.hid (qL_step s k hkl)
      go_wp2_with (go_at_call 86; refine (cquoted_any wr HO.out s[k] (by omega) hbs).mono ?_; rintro e w2 ⟨v2, rfl, hg⟩
                   have G := Lib.hid hg
                   have HBN : Hid (Below w.heap.size w w2) := Below.grown HBL.out hg.2.1 hbs (fun j hj => ((World.ownsRow.lt HO.out) j hj).1)
                   clear hg)
      go_roundw
      case rel => exact ⟨k + 1, by omega, by go_num, by rw [HS.out]; exact G.out.1, HBN.out⟩
      case measure => simp [intOf]; omega
    · have hke : k = s.size := by omega
      have HQ : Hid (qL s k ++ [34] = quoteL s.data.toList) := by show _ = _; rw [hke]; exact qL_all s
      clear hke
      obtain ⟨al, cl, rfl⟩ := row_form HO.out
      have O3 : Hid (OwnB w.heap.size (wr.alloc (.cells #[.int .u8 34] 5)) (.slice al (qL s k).length cl) (qL s k)) := World.ownsRow.alloc HO.out _
      go_wp2_with (first
        | (at_builtin; (refine wpList_append_own_any _ rfl (.tmp 23) (.tmp 24) 62 rfl w.heap.size 5 i0 _ 1 1 Tryz.underlying62 HI0.out HZ0.out HZ1.out HZ2.out (by rfl) (by decide) (.slice al (qL s k).length cl) (qL s k).length _ rfl O3.out (some ⟨wr.heap.size, 0, none⟩) 1 1 [.int .u8 34] rfl rfl (fun h => by cases h) (byte_lit wr _ _) (fun u hu => by simp at hu; subst hu; rfl) (by unfold maxLen; omega) (by omega) (by simp; omega) ?_)
           intro v4 w4 own4 hg4 hob4
           have HB4 : Hid (Below w.heap.size w w4) := Below.grown (HBL.out.alloc HBL.out.size _) hg4 (by simp; omega) (fun j hj => ((World.ownsRow.lt O3.out) j hj).1)
           have own5 : OwnB w.heap.size w4 v4 (qL s k ++ [34]) := (grew_of (b := 34) own4 hg4 hob4).1
           obtain ⟨g, c, hv4, hcells⟩ := ownB_form own5 (by simp)
           subst hv4
           have hconv := run_convert_bytes_back (P := Tryz.prog) w4 62 9 5 ⟨g, 0, none⟩ c (qL s k ++ [34]) Tryz.underlying62 Tryz.underlying5 Tryz.underlying9 hcells
           rw [HQ.out] at hconv
           rw [HQ.out]
           clear own4 hg4 hob4 own5 hcells))
      go_ret
      exact ⟨rfl, HB4.out⟩

end Go.Proofs.YtclkinokmpcigaaGreatDoor
