/-
  Package trim's Split.
-/
import Derived.Test.YtomdkmhaohcofaaDoorTrimKept
set_option linter.unusedVariables false
set_option linter.unusedSimpArgs false
namespace Go.Proofs.YtomdkmhaohcofaaDoor
open Go.RowKit

theorem own_weak {w : World} {base base' : Nat} {e : TypeId} {size : Nat} {v : Value} {n : Nat} {xs : List Value} (h : w.ownsRow base e size v n xs) (hb : base' ≤ base) : w.ownsRow base' e size v n xs :=
  ⟨h.1, h.2.imp id fun ⟨g, cap, cur, h1, h2, h3⟩ => ⟨g, cap, cur, h1, Nat.le_trans hb h2, h3⟩⟩

/-- What Split leaves. -/
def SplitIn (w : World) (l : List UInt8) (e : Ending) (w' : World) : Prop :=
  Below w.heap.size w w' ∧ ((splitT l 0 false = none ∧ e = .returned (.tuple #[.slice none 0 0, .int .i64 21])) ∨ ∃ ts v, splitT l 0 false = some ts ∧ e = .returned (.tuple #[v, .int .i64 0]) ∧ OwnT w.heap.size w' v ts)

/-- A variable of type action. -/
structure Box3 (w : World) (g : Nat) (x : ByteArray) (a b : Bool) : Prop where
  c0 : w.cell? ⟨g, 0, none⟩ = some (.string x)
  c1 : w.cell? ⟨g, 1, none⟩ = some (.bool a)
  c2 : w.cell? ⟨g, 2, none⟩ = some (.bool b)
  f : ∀ j, w.frozen? ⟨g, j, none⟩ = false
  lt : g < w.heap.size

theorem Box3.of_block {w w' : World} {g : Nat} {x : ByteArray} {a b : Bool} (h : Box3 w g x a b) (he : w'.heap[g]? = w.heap[g]?) (hl : w.heap.size ≤ w'.heap.size) : Box3 w' g x a b :=
  ⟨by rw [← h.c0]; exact World.cell?_of_block (w := w) he, by rw [← h.c1]; exact World.cell?_of_block (w := w) he, by rw [← h.c2]; exact World.cell?_of_block (w := w) he,
   fun j => by rw [← h.f j]; exact World.frozen?_of_block (w := w) he, Nat.lt_of_lt_of_le h.lt hl⟩
theorem Box3.later {w w' : World} {g : Nat} {x : ByteArray} {a b : Bool} (h : Box3 w g x a b) (hb : Below w.heap.size w w') : Box3 w' g x a b := h.of_block (hb.block g h.lt) hb.size
theorem Box3.drewN {w : World} {g : Nat} {x : ByteArray} {a b : Bool} (h : Box3 w g x a b) (n : Nat) : Box3 (w.drewN n) g x a b := h.of_block rfl (Nat.le_refl _)
theorem Box3.alloc {w : World} {g : Nat} {x : ByteArray} {a b : Bool} (h : Box3 w g x a b) (o : Obj) : Box3 (w.alloc o) g x a b := h.of_block (Below.heap_alloc w o g h.lt) (by simp)
theorem Box3.new (w : World) (x : ByteArray) (a b : Bool) (t : TypeId) : Box3 (w.alloc (.cells #[.string x, .bool a, .bool b] t)) w.heap.size x a b :=
  ⟨by rw [World.cell?_alloc_new]; rfl, by rw [World.cell?_alloc_new]; rfl, by rw [World.cell?_alloc_new]; rfl, fun j => World.frozen?_alloc_new .., by simp⟩
theorem Box3.grew {w w' : World} {g : Nat} {x : ByteArray} {a b : Bool} (h : Box3 w g x a b) {row : Option Nat} (hg : w.grownBy w' row) (hne : some g ≠ row) : Box3 w' g x a b := h.of_block (hg.block g h.lt hne) hg.size
theorem Box3.set {w : World} {g : Nat} {x : ByteArray} {a b : Bool} (h : Box3 w g x a b) (y : ByteArray) (c d : Bool) : Box3 (setRow w g 0 [.string y, .bool c, .bool d]) g y c d := by
  have hc := setRow_cell g [.string y, .bool c, .bool d] w 0 (fun i hi => by
    have hi3 : i = 0 ∨ i = 1 ∨ i = 2 := by simp at hi; omega
    rcases hi3 with rfl | rfl | rfl
    · exact ⟨_, h.c0⟩
    · exact ⟨_, h.c1⟩
    · exact ⟨_, h.c2⟩)
  exact ⟨by simpa using hc 0 (by simp), by simpa using hc 1 (by simp), by simpa using hc 2 (by simp), fun j => by rw [setRow_frozen]; exact h.f j, by rw [setRow_size]; exact h.lt⟩

/-- Where Split's loop stands. -/
structure St (w0 w : World) (v : Value) (ts : List Tok) (x : ByteArray) (a b : Bool) : Prop where
  below : Below w0.heap.size w0 w
  own : OwnT (w0.heap.size + 1) w v ts
  box : Box3 w w0.heap.size x a b

section
variable {w0 w : World} {v : Value} {ts : List Tok} {x : ByteArray} {a b : Bool}
theorem St.later {w' : World} (h : St w0 w v ts x a b) (hb : Below w.heap.size w w') : St w0 w' v ts x a b :=
  ⟨h.below.trans (hb.mono h.below.size), World.ownsRow.kept h.own (grown_of_below hb v.ownBlock |> fun g => (grown_of_below hb none)) (by
    cases hv : v.ownBlock with
    | none => exact .inl rfl
    | some k => exact .inr (by simp)), h.box.later hb⟩
theorem St.drewN (h : St w0 w v ts x a b) (n : Nat) : St w0 (w.drewN n) v ts x a b := h.later (bdrewN (Below.refl _ _) n)
theorem St.alloc (h : St w0 w v ts x a b) (o : Obj) : St w0 (w.alloc o) v ts x a b := h.later ((Below.refl _ _).alloc (Nat.le_refl _) o)
theorem St.ne (h : St w0 w v ts x a b) : some w0.heap.size ≠ v.ownBlock := fun e => by
  have := (World.ownsRow.lt h.own) _ e.symm
  omega
theorem St.kept {w' : World} {v' : Value} {ts' : List Tok} (h : St w0 w v ts x a b) (hk : GrewT (w0.heap.size + 1) w v ts' w' v') : St w0 w' v' ts' x a b :=
  ⟨h.below.grown hk.2.1 h.below.size (fun k hk' => by have := (World.ownsRow.lt h.own) _ hk'; omega), hk.1, h.box.grew hk.2.1 h.ne⟩
theorem St.set (h : St w0 w v ts x a b) (y : ByteArray) (c d : Bool) : St w0 (setRow w w0.heap.size 0 [.string y, .bool c, .bool d]) v ts y c d :=
  have hb := setRow_below (A := 0) w0.heap.size (Nat.zero_le _) [.string y, .bool c, .bool d] w 0 (Below.refl 0 w)
  ⟨setRow_below _ (Nat.le_refl _) _ _ _ h.below, World.ownsRow.kept (row := some w0.heap.size) h.own ⟨hb.os, hb.tape, hb.output, hb.size, fun k hk hne => setRow_heap _ _ _ _ _ (fun e => hne (by rw [e]))⟩ (.inr (fun e => h.ne e.symm)), h.box.set y c d⟩
end

theorem cut_true {l sub t r : List UInt8} (h : Lib.cut l sub = (t, r, true)) : ∃ i, t = l.take i ∧ r = l.drop (i + sub.length) ∧ i + sub.length ≤ l.length := by
  unfold Lib.cut at h
  split at h
  · rename_i h0
    injection h with h1 h2
    injection h2 with h2 _
    have := Lib.index_room l sub h0
    exact ⟨_, h1.symm, h2.symm, by omega⟩
  · injection h with h1 h2
    injection h2 with _ h3
    cases h3
theorem cut_false {l sub t r : List UInt8} (h : Lib.cut l sub = (t, r, false)) : t = l := by
  unfold Lib.cut at h
  split at h
  · injection h with h1 h2
    injection h2 with _ h3
    cases h3
  · injection h with h1 h2
    exact h1.symm

theorem mkept_at {base : Nat} {v : Value} {ts us : List Tok} (w : World) (h : OwnT base w v ts) (t : Tok) (hu : ts ++ oneT t = us) (hn : ts.length ≤ 100000) (hb : base ≤ w.heap.size) :
    Calls Tryd.prog 18 #[v, .agg (tokC t)] w (KeptIn base w v us) := hu ▸ mkept_any w h t hn hb

/-- The head of Split's loop. -/
def Head (w : World) (s : ByteArray) (v vi : Value) (wr : World) : Prop :=
  ∃ (j : Nat) (ts : List Tok) (x : ByteArray) (a b : Bool), j ≤ s.size ∧ ts.length ≤ j ∧ vi = .int .i64 j ∧ St w wr v ts x a b ∧ Hid (splitT s.data.toList 0 false = (splitT (s.data.toList.drop j) j b).map (ts ++ ·))

theorem trimS_le (l c : List UInt8) : (Lib.trimS l c).length ≤ l.length := by
  unfold Lib.trimS
  exact Nat.le_trans (trimLeftS_le _ _) (trimRightS_le _ _)
theorem readA_le (l : List UInt8) : (readA l).1.length ≤ l.length := by
  by_cases h : l = [45]
  · rw [h, readA_dash]
    simp
  · rw [readA_more h]
    exact Nat.le_trans (trimS_le _ _) (Nat.le_trans (trimSuffix_le _ _) (trimPrefix_le _ _))

set_option maxRecDepth 100000 in
set_option maxHeartbeats 1000000 in
theorem msplit_any (s : ByteArray) (hs : s.size ≤ 65536) (m : Int) (w : World) (hm : w.cell? ⟨0, 0, none⟩ = some (.int .i64 m)) (h0 : 0 < w.heap.size) :
    Calls Tryd.prog 11 #[.string s] w (SplitIn w s.data.toList) := by
  have HM := Lib.hid hm
  clear hm
  obtain ⟨i0, hi, hz0, hz1, hz2⟩ := info_tok
  have HI0 := Lib.hid hi
  have HZ0 := Lib.hid hz0
  have HZ1 := Lib.hid hz1
  have HZ2 := Lib.hid hz2
  clear hi hz0 hz1 hz2
  have hst0 : Hid (St w (w.alloc (.cells #[.string ⟨#[]⟩, .bool false, .bool false] 36)) (.slice none 0 0) [] ⟨#[]⟩ false false) :=
    ⟨(Below.refl _ _).alloc (Nat.le_refl _) _, ⟨by simp [flatT], .inl ⟨rfl, rfl⟩⟩, Box3.new _ _ _ _ _⟩
  go_enter Tryd.func11, Tryd.ntmps11
  go_wp2_with fail
  go_loopw [4, 6] (fun v vi wr => Head w s v vi wr) (fun _ vi _ => s.size - (intOf vi).toNat)
  case atStart => exact ⟨0, [], _, _, _, Nat.zero_le _, Nat.zero_le _, rfl, hst0.out, by
    show _ = _
    rw [List.drop_zero]
    cases splitT s.data.toList 0 false <;> rfl⟩
  case round =>
    obtain ⟨j, ts, x, b1, b2, hj, htl, rfl, hst, HB⟩ := hrel
    clear hst0
    obtain ⟨al, cl, rfl⟩ := row_form hst.own
    have c0 := hst.box.c0
    have c1 := hst.box.c1
    have c2 := hst.box.c2
    have HST := Lib.hid hst
    have HM1 : Hid (wr.cell? ⟨0, 0, none⟩ = some (.int .i64 m)) := (hst.below.cell (p := ⟨0, 0, none⟩) h0).trans HM.out
    clear hst
    rcases hcut : Lib.cut (s.data.toList.drop j) [123, 123] with ⟨text, rest, found⟩
    have HC := Lib.hid hcut
    clear hcut
    have hex : (s.extract j s.size).size ≤ 65536 := by simp; omega
    cases found
    · have htx : Hid (text = s.data.toList.drop j) := cut_false HC.out
      have hts : (⟨text.toArray⟩ : ByteArray).size ≤ 65536 := by
        rw [Lib.size_eq, htx.out]
        simp [← Lib.size_eq]
        rw [Lib.size_eq] at hs
        omega
      go_wp2_with (first
        | (go_at_call 17; refine (Tryd.strings_Cut _ _ m _ (by omega) HM1.out).mono ?_; rintro e w1 ⟨he, nq, rfl⟩; rw [ext_drop, HC.out] at he; subst he)
        | (go_at_call 19; refine (mleft_any _ j _ _ _ _ _ _ hts (by omega) _).mono ?_; rintro e w2 ⟨rfl, hb2⟩
           have S2 := Lib.hid ((HST.out.drewN nq).later hb2)
           clear hb2)
        | (go_at_call 18; refine (mkept_any w2 S2.out.own _ (by omega) S2.out.box.lt).mono ?_; rintro e w3 ⟨v3, rfl, hk3⟩
           have S3 := Lib.hid (S2.out.kept hk3)
           clear hk3))
      go_ret2
      refine ⟨S3.out.below, .inr ⟨_, _, ?_, rfl, own_weak S3.out.own (Nat.le_succ _)⟩⟩
      rw [HB.out, split_last HC.out]
      rfl
    · obtain ⟨i, htx, hrs, hroom⟩ := cut_true HC.out
      have hsl : s.data.toList.length = s.size := (Lib.size_eq s).symm
      rw [List.length_drop, hsl] at hroom
      have hil : i + 2 + j ≤ s.size := by simp at hroom; omega
      have hti : text.length = i := by
        rw [htx, List.length_take, List.length_drop, hsl]
        omega
      have hts : (⟨text.toArray⟩ : ByteArray).size ≤ 65536 := by
        rw [Lib.size_eq]
        simp only
        rw [hti]
        omega
      have hrl : rest.length + i + 2 + j = s.size := by
        rw [hrs, List.length_drop, List.length_drop, hsl]
        simp
        omega
      have htb : text.length ≤ i := by omega
      have hrz : (⟨rest.toArray⟩ : ByteArray).size = rest.length := by rw [Lib.size_eq]
      have HTX := Lib.hid htx
      have HRS := Lib.hid hrs
      have HTI := Lib.hid hti
      have HRZ := Lib.hid hrz
      clear htx hrs hti hrz hroom hsl
      rcases lenG_room rest 0 0 with hlen | ⟨k, hlen, hk⟩
      · have HL := Lib.hid hlen
        clear hlen
        go_wp2_with (first
          | (go_at_call 17; refine (Tryd.strings_Cut _ _ m _ (by omega) HM1.out).mono ?_; rintro e w1 ⟨he, nq, rfl⟩; rw [ext_drop, HC.out] at he; subst he)
          | (go_at_call 20; refine (mlength_any _ (by rw [HRZ.out]; omega) _).mono ?_; rintro e w2 ⟨he, rfl⟩; rw [HL.out] at he; subst he))
        go_ret2
        refine ⟨HST.out.below.trans (bdrewN (Below.refl _ _) nq), .inl ⟨?_, rfl⟩⟩
        rw [HB.out, split_open HC.out (by rw [HL.out]; decide)]
        rfl
      · rw [Nat.zero_add] at hlen
        have HL := Lib.hid hlen
        clear hlen
        rcases hread : readA (rest.take k) with ⟨y, a', b'⟩
        have HR := Lib.hid hread
        clear hread
        obtain ⟨us, hus⟩ : ∃ us, ts ++ oneT (leftT text j b2 a') = us := ⟨_, rfl⟩
        have hone : us.length ≤ ts.length + 1 := by
          rw [← hus, List.length_append]
          have : (oneT (leftT text j b2 a')).length ≤ 1 := by unfold oneT; split <;> simp
          omega
        have HUS := Lib.hid hus
        clear hus
        go_wp2_with (first
          | (go_at_call 17; refine (Tryd.strings_Cut _ _ m _ (by omega) HM1.out).mono ?_; rintro e w1 ⟨he, nq, rfl⟩; rw [ext_drop, HC.out] at he; subst he)
          | (go_at_call 20; refine (mlength_any _ (by rw [HRZ.out]; omega) _).mono ?_; rintro e w2 ⟨he, rfl⟩; rw [HL.out] at he; subst he)
          | (go_at_call 21; refine (mread_any _ (by have := HRZ.out; simp at this ⊢; omega) _).mono ?_; rintro e w3 ⟨he, hb3⟩; rw [ext_take] at he
             have he2 : e = .returned (.agg #[.string ⟨y.toArray⟩, .bool a', .bool b']) := by
               refine he.trans ?_
               have : readA (List.take k (⟨rest.toArray⟩ : ByteArray).data.toList) = (y, a', b') := HR.out
               rw [this]
             clear he
             subst he2
             have S3 := Lib.hid ((HST.out.drewN nq).later hb3)
             have S4 := Lib.hid (S3.out.alloc (.cells #[.string ⟨y.toArray⟩, .bool a', .bool b'] 36))
             have BX4 := Lib.hid (Box3.new w3 ⟨y.toArray⟩ a' b' 36)
             have NE3 : Hid (some w3.heap.size ≠ (Value.slice al ts.length cl).ownBlock) := fun e => by
               have := (World.ownsRow.lt S3.out.own) _ e.symm
               omega
             clear hb3 c0 c1 c2
             have c0 := S4.out.box.c0
             have c1 := S4.out.box.c1
             have c2 := S4.out.box.c2
             have d0 := BX4.out.c0
             have d1 := BX4.out.c1
             have d2 := BX4.out.c2)
          | (go_at_call 19; refine (mleft_any _ j _ _ _ _ _ _ hts (by omega) _).mono ?_; rintro e w5 ⟨rfl, hb5⟩
             have S5 := Lib.hid (S4.out.later hb5)
             have BX5 := Lib.hid (BX4.out.later hb5)
             clear hb5 c0 c1 c2 d0 d1 d2)
          | (go_at_call 18; refine (mkept_at w5 S5.out.own _ HUS.out (by omega) S5.out.box.lt).mono ?_; rintro e w6 ⟨v6, rfl, hk6⟩
             have s6 := S5.out.kept hk6
             obtain ⟨al6, cl6, hv6⟩ := row_form s6.own
             subst hv6
             have S6 := Lib.hid s6
             clear s6
             have BX6 := Lib.hid (BX5.out.grew hk6.2.1 NE3.out)
             have NE6 : Hid (some w3.heap.size ≠ (Value.slice al6 us.length cl6).ownBlock) := by
               rcases hk6.2.2 with e | ⟨g, hg, e⟩
               · exact fun h => NE3.out (h.trans e)
               · intro h
                 have h1 := h.trans e
                 injection h1 with h1
                 have h2 := BX5.out.lt
                 omega
             clear hk6
             have d0 := BX6.out.c0
             have d1 := BX6.out.c1
             have d2 := BX6.out.c2))
        have hyl : y.length ≤ 65536 := by
          have h1 : (readA (rest.take k)).1 = y := by rw [HR.out]
          rw [← h1]
          have h2 := readA_le (rest.take k)
          have h3 := List.length_take_le k rest
          omega
        have hyz : (⟨y.toArray⟩ : ByteArray).size ≤ 140737488355328 := by
          rw [Lib.size_eq]
          simp only
          omega
        have hsum : Hid (∀ vs, splitT (s.data.toList.drop (j + text.length + (2 + k + 2))) (j + text.length + (2 + k + 2)) b' = vs → splitT s.data.toList 0 false = vs.map ((us ++ actT y (j + text.length)) ++ ·)) := fun vs hus => by
          rw [HB.out, split_more HC.out HL.out, HR.out]
          simp only
          have e1 : rest.drop (k + 2) = s.data.toList.drop (j + text.length + (2 + k + 2)) := by
            rw [HRS.out, List.drop_drop, List.drop_drop, HTI.out]
            congr 1
            simp
            omega
          rw [e1, hus, ← HUS.out]
          cases vs with
          | none => rfl
          | some vs => simp
        rcases hcm : commentA y with _ | _
        · have HCM := Lib.hid hcm
          clear hcm
          have hact : Hid (actT y (j + text.length) = [⟨true, y, j + text.length⟩]) := by show _ = _; rw [actT, if_neg (by rw [HCM.out]; decide)]
          have N2 : Hid (∀ u ∈ [Value.bool true, .string ⟨y.toArray⟩, .int .i64 (j + text.length)], u.oneCell' = true) := fun u hu => by
            simp at hu
            rcases hu with rfl | rfl | rfl <;> rfl
          have hul : us.length ≤ 100000 := by omega
          go_wp2_with (first
            | (go_at_call 22; refine (mcomment_any _ _ _ hyz _).mono ?_; rintro e w7 ⟨he, hb7⟩
               have he2 : e = .returned (.bool false) := he.trans (ret_bool HCM.out)
               clear he
               subst he2
               have S7 := Lib.hid (S6.out.later hb7)
               have BX7 := Lib.hid (BX6.out.later hb7)
               clear hb7 d0 d1 d2
               have d0 := BX7.out.c0
               have d1 := BX7.out.c1
               have d2 := BX7.out.c2
               have O8 : Hid (St w (w7.alloc (.cells #[.bool true, .string ⟨y.toArray⟩, .int .i64 (j + text.length)] 30)) (.slice al6 us.length cl6) us x b1 b2) := S7.out.alloc _
               have B8 : Hid (Box3 (w7.alloc (.cells #[.bool true, .string ⟨y.toArray⟩, .int .i64 (j + text.length)] 30)) w3.heap.size ⟨y.toArray⟩ a' b') := BX7.out.alloc _
               have N1 : Hid (∀ ad : Addr, some (⟨w7.heap.size, 0, none⟩ : Addr) = some ad → ∀ j' u, [Value.bool true, .string ⟨y.toArray⟩, .int .i64 (j + text.length)][j']? = some u → (w7.alloc (.cells #[.bool true, .string ⟨y.toArray⟩, .int .i64 (j + text.length)] 30)).cell? (ad.add j') = some u) := fun ad h j' u hu => by
                 injection h with h
                 subst h
                 exact tok_lit w7 #[.bool true, .string ⟨y.toArray⟩, .int .i64 (j + text.length)] 30 j' u hu)
            | (at_builtin; (refine wpList_append_own_any _ rfl (.tmp 55) (.tmp 60) 25 rfl (w.heap.size + 1) 30 i0 _ 3 32 Tryd.underlying25 HI0.out HZ0.out HZ1.out HZ2.out (by rfl) (by decide) (.slice al6 us.length cl6) us.length _ rfl O8.out.own (some ⟨w7.heap.size, 0, none⟩) 1 1 [.bool true, .string ⟨y.toArray⟩, .int .i64 (j + text.length)] rfl rfl (fun h => by cases h) N1.out N2.out (by unfold maxLen; omega) (by omega) (by have := O8.out.box.lt; omega) ?_)
               intro v9 w9 own9 hg9 hob9
               obtain ⟨al9, cl9, hv9⟩ := row_form own9
               subst hv9
               have OW : OwnT (w.heap.size + 1) w9 (.slice al9 (us.length + 1) cl9) (us ++ [⟨true, y, j + text.length⟩]) := by
                 show World.ownsRow _ _ _ _ _ _ _
                 rw [flatT_snoc, List.length_append]
                 simpa [tokC] using own9
               have S9 := Lib.hid (St.kept O8.out ⟨OW, hg9, by
                 rcases hob9 with e | e
                 · exact .inl e
                 · exact .inr ⟨_, Nat.le_refl _, e⟩⟩)
               have B9 : Hid (Box3 w9 w3.heap.size ⟨y.toArray⟩ a' b') := B8.out.grew hg9 NE6.out
               clear own9 hg9 hob9 OW d0 d1 d2
               have d0 := B9.out.c0
               have d1 := B9.out.c1
               have d2 := B9.out.c2
               have c0 := S9.out.box.c0
               have c1 := S9.out.box.c1
               have c2 := S9.out.box.c2
               have cf := S9.out.box.f))
          go_roundw
          case rel => exact ⟨j + text.length + (2 + k + 2), us ++ [⟨true, y, j + text.length⟩], _, _, _, by omega, by simp; omega, by go_num, by
              have := S9.out.set ⟨y.toArray⟩ a' b'
              exact this, by
            show _ = _
            have := hsum.out _ rfl
            rw [hact.out] at this
            exact this⟩
          case measure => simp [intOf]; omega
        · have HCM := Lib.hid hcm
          clear hcm
          go_wp2_with (go_at_call 22; refine (mcomment_any _ _ _ hyz _).mono ?_; rintro e w7 ⟨he, hb7⟩
                       have he2 : e = .returned (.bool true) := he.trans (ret_bool HCM.out)
                       clear he
                       subst he2
                       have S7 := Lib.hid (S6.out.later hb7)
                       have BX7 := Lib.hid (BX6.out.later hb7)
                       clear hb7 d0 d1 d2
                       have d0 := BX7.out.c0
                       have d1 := BX7.out.c1
                       have d2 := BX7.out.c2
                       have c0 := S7.out.box.c0
                       have c1 := S7.out.box.c1
                       have c2 := S7.out.box.c2
                       have cf := S7.out.box.f)
          have hact : Hid (actT y (j + text.length) = []) := by show _ = _; rw [actT, if_pos HCM.out]
          go_roundw
          case rel => exact ⟨j + text.length + (2 + k + 2), us, _, _, _, by omega, by omega, by go_num, S7.out.set ⟨y.toArray⟩ a' b', by
            show _ = _
            have := hsum.out _ rfl
            rw [hact.out, List.append_nil] at this
            exact this⟩
          case measure => simp [intOf]; omega

end Go.Proofs.YtomdkmhaohcofaaDoor
