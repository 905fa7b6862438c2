/-
  The library's stable sort by blocks, on the lists alone.
-/
import Derived.Test.YthjdeckdklhphaaGreatDoorOverSM
set_option linter.unusedVariables false
set_option linter.unusedSimpArgs false
namespace Go.Proofs.YthjdeckdklhphaaGreatDoor
open Go.RowKit Go.Sort

/-- l pairs from i on. -/
def sg (C : List E) (i l : Nat) : List E := (C.drop i).take l
theorem sg_before {C C' : List E} {a i l : Nat} (h : C'.take a = C.take a) (hi : i + l ≤ a) : sg C' i l = sg C i l := by
  have e : ∀ X : List E, (X.drop i).take l = ((X.take a).drop i).take l := fun X => by rw [List.drop_take, List.take_take, Nat.min_eq_left (by omega)]
  unfold sg
  rw [e C', e C, h]
theorem sg_after {C C' : List E} {b i l : Nat} (h : C'.drop b = C.drop b) (hi : b ≤ i) : sg C' i l = sg C i l := by
  have e : ∀ X : List E, X.drop i = (X.drop b).drop (i - b) := fun X => by rw [List.drop_drop]; congr 1; omega
  unfold sg
  rw [e C', e C, h]
theorem sg_len (C : List E) (i l : Nat) : (sg C i l).length = min l (C.length - i) := by unfold sg; rw [List.length_take, List.length_drop]
theorem sg_two (C : List E) (i l l2 : Nat) : sg C i (l + l2) = sg C i l ++ sg C (i + l) l2 := by
  unfold sg
  rw [List.take_add, List.drop_drop]
theorem sg_none {C : List E} {i : Nat} (h : C.length ≤ i) (l : Nat) : sg C i l = [] := by
  unfold sg
  rw [List.drop_of_length_le h, List.take_nil]
theorem sg_all {C : List E} {i l : Nat} (h : C.length ≤ i + l) : sg C i l = C.drop i := by
  unfold sg
  exact List.take_of_length_le (by rw [List.length_drop]; omega)
theorem cut3 (C : List E) (a l : Nat) : C = C.take a ++ (sg C a l ++ C.drop (a + l)) := by
  unfold sg
  rw [← List.drop_drop, List.take_append_drop, List.take_append_drop]
theorem cut4 (C : List E) (a l l2 : Nat) : C = C.take a ++ (sg C a l ++ (sg C (a + l) l2 ++ C.drop (a + l + l2))) := by
  have h := cut3 C a (l + l2)
  rw [sg_two, List.append_assoc, ← Nat.add_assoc] at h
  exact h
/-- What is laid between a and b. -/
theorem laid_sg {C Z : List E} {a b : Nat} (ha : a ≤ C.length) (hb : a + Z.length = b) : (C.take a ++ (Z ++ C.drop b)).take a = C.take a ∧ (C.take a ++ (Z ++ C.drop b)).drop b = C.drop b ∧ sg (C.take a ++ (Z ++ C.drop b)) a Z.length = Z := by
  have l1 : (C.take a).length = a := by rw [List.length_take]; omega
  refine ⟨?_, ?_, ?_⟩
  · rw [List.take_append_of_le_length (by omega), List.take_of_length_le (by omega)]
  · rw [← List.append_assoc, List.drop_append_of_le_length (by rw [List.length_append]; omega), List.drop_of_length_le (by rw [List.length_append]; omega), List.nil_append]
  · unfold sg
    rw [List.drop_append_of_le_length (by omega), List.drop_of_length_le (by omega), List.nil_append, List.take_append_of_le_length (Nat.le_refl _), List.take_of_length_le (Nat.le_refl _)]

/-- From i on l pairs are sorted, and what they were. -/
def Blk (D C : List E) (i l : Nat) : Prop := Srt (sg C i l) ∧ (sg C i l).Perm (sg D i l)
theorem Blk.none {D C : List E} {i : Nat} (h1 : D.length ≤ i) (h2 : C.length ≤ i) (l : Nat) : Blk D C i l := by
  rw [Blk, sg_none h1, sg_none h2]
  exact ⟨List.Pairwise.nil, List.Perm.refl _⟩
theorem Blk.of_eq {D C C' : List E} {i l : Nat} (h : Blk D C i l) (e : sg C' i l = sg C i l) : Blk D C' i l := by rw [Blk, e]; exact h
/-- Places rise. -/
def Tgs (D : List E) : Prop := D.Pairwise fun x y => x.2 < y.2
theorem Tgs.sg {D : List E} (h : Tgs D) (i l : Nat) : Tgs (sg D i l) := List.Pairwise.sublist ((List.take_sublist _ _).trans (List.drop_sublist _ _)) h
theorem Tgs.apart {D : List E} (h : Tgs D) {i l l2 : Nat} : ∀ x ∈ Go.Proofs.YthjdeckdklhphaaGreatDoor.sg D i l, ∀ y ∈ Go.Proofs.YthjdeckdklhphaaGreatDoor.sg D (i + l) l2, x.2 < y.2 := by
  have h2 := h.sg i (l + l2)
  rw [sg_two] at h2
  exact (List.pairwise_append.1 h2).2.2

structure S1 (D : List E) (a : Nat) (C : List E) : Prop where
  len : C.length = D.length
  rest : C.drop a = D.drop a
  blks : ∀ k, 20 * k + 20 ≤ a → Blk D C (20 * k) 20
theorem S1.start (D : List E) : S1 D 0 D := ⟨rfl, rfl, fun k h => absurd h (by omega)⟩
theorem S1.sg_eq {D C : List E} {a : Nat} (h : S1 D a C) (l : Nat) : sg C a l = sg D a l := sg_after h.rest (Nat.le_refl _)
theorem S1.step {D C Z : List E} {a q : Nat} (h : S1 D a C) (hq : a = 20 * q) (ha : a + 20 ≤ D.length) (hz : Srt Z) (hp : Z.Perm (sg C a 20)) : S1 D (a + 20) (C.take a ++ (Z ++ C.drop (a + 20))) := by
  have hl := h.len
  have lz : Z.length = 20 := by rw [hp.length_eq, sg_len]; omega
  obtain ⟨e1, e2, e3⟩ := laid_sg (C := C) (Z := Z) (a := a) (b := a + 20) (by omega) (by omega)
  rw [lz] at e3
  refine ⟨?_, ?_, fun k hk => ?_⟩
  · rw [List.length_append, List.length_append, List.length_take, List.length_drop]; omega
  · rw [e2, ← List.drop_drop, h.rest, List.drop_drop]
  · rcases Nat.lt_or_ge k q with h1 | h1
    · exact (h.blks k (by omega)).of_eq (sg_before e1 (by omega))
    · obtain rfl : k = q := by omega
      rw [← hq, Blk, e3, ← h.sg_eq]
      exact ⟨hz, hp⟩
theorem S1.last {D C Z : List E} {a q : Nat} (h : S1 D a C) (hq : a = 20 * q) (ha : a ≤ D.length) (hb : D.length < a + 20) (hz : Srt Z) (hp : Z.Perm (C.drop a)) : (C.take a ++ Z).length = D.length ∧ ∀ k, Blk D (C.take a ++ Z) (20 * k) 20 := by
  have hl := h.len
  have lz : Z.length = D.length - a := by rw [hp.length_eq, List.length_drop]; omega
  obtain ⟨e1, e2, e3⟩ := laid_sg (C := C) (Z := Z) (a := a) (b := D.length) (by omega) (by omega)
  rw [List.drop_of_length_le (by omega : C.length ≤ D.length), List.append_nil] at e1 e2 e3
  have l2 : (C.take a ++ Z).length = D.length := by rw [List.length_append, List.length_take]; omega
  refine ⟨l2, fun k => ?_⟩
  rcases Nat.lt_or_ge k q with h1 | h1
  · exact (h.blks k (by omega)).of_eq (sg_before e1 (by omega))
  · rcases Nat.lt_or_ge q k with h3 | h3
    · exact Blk.none (by omega) (by omega) _
    · obtain rfl : k = q := by omega
      rw [← hq, Blk, ← h.sg_eq]
      have e4 : sg (C.take a ++ Z) a 20 = Z := by
        rw [sg_all (by omega), ← sg_all (C := C.take a ++ Z) (i := a) (l := Z.length) (by omega)]
        exact e3
      rw [e4, sg_all (C := C) (by omega)]
      exact ⟨hz, hp⟩

structure S2 (D : List E) (bs : Nat) (C : List E) : Prop where
  len : C.length = D.length
  blks : ∀ k, Blk D C (bs * k) bs
theorem S2.done {D C : List E} {bs : Nat} (h : S2 D bs C) (hb : D.length ≤ bs) : Srt C ∧ C.Perm D := by
  have h1 := h.blks 0
  rw [Nat.mul_zero, Blk, sg_all (by rw [h.len]; omega), sg_all (by omega), List.drop_zero, List.drop_zero] at h1
  exact h1
structure S3 (D : List E) (bs q : Nat) (C : List E) : Prop where
  len : C.length = D.length
  big : ∀ k, k < q → Blk D C (2 * bs * k) (2 * bs)
  small : ∀ k, 2 * q ≤ k → Blk D C (bs * k) bs
theorem S2.three {D C : List E} {bs : Nat} (h : S2 D bs C) : S3 D bs 0 C := ⟨h.len, fun k hk => absurd hk (by omega), fun k _ => h.blks k⟩
theorem S3.pair {D C : List E} {bs q a : Nat} (h : S3 D bs q C) (ha : a = 2 * bs * q) : Blk D C a bs ∧ Blk D C (a + bs) bs := by
  have h1 := h.small (2 * q) (Nat.le_refl _)
  have h2 := h.small (2 * q + 1) (by omega)
  have e1 : bs * (2 * q) = a := by rw [ha, ← Nat.mul_assoc, Nat.mul_comm bs 2]
  rw [Nat.mul_add, Nat.mul_one, e1] at h2
  rw [e1] at h1
  exact ⟨h1, h2⟩
/-- a merge of two blocks, of which the second one may be short. -/
theorem S3.merged {D C Z : List E} {bs q a l2 : Nat} (h : S3 D bs q C) (ha : a = 2 * bs * q) (h2 : l2 ≤ bs) (hn : a + bs + l2 ≤ D.length) (hz : Srt Z) (hp : Z.Perm (sg C a bs ++ sg C (a + bs) l2)) (hl2 : l2 = bs ∨ a + bs + l2 = D.length) :
    (C.take a ++ (Z ++ C.drop (a + bs + l2))).length = D.length ∧ (∀ k, k < q → Blk D (C.take a ++ (Z ++ C.drop (a + bs + l2))) (2 * bs * k) (2 * bs)) ∧ Blk D (C.take a ++ (Z ++ C.drop (a + bs + l2))) a (bs + l2) ∧ (∀ i l, a + bs + l2 ≤ i → sg (C.take a ++ (Z ++ C.drop (a + bs + l2))) i l = sg C i l) := by
  have hl := h.len
  obtain ⟨b1, b2⟩ := h.pair ha
  have lz : Z.length = bs + l2 := by rw [hp.length_eq, List.length_append, sg_len, sg_len]; omega
  obtain ⟨e1, e2, e3⟩ := laid_sg (C := C) (Z := Z) (a := a) (b := a + bs + l2) (by omega) (by omega)
  rw [lz] at e3
  refine ⟨?_, fun k hk => (h.big k hk).of_eq (sg_before e1 ?_), ?_, fun i l hi => sg_after e2 hi⟩
  · rw [List.length_append, List.length_append, List.length_take, List.length_drop]; omega
  · have := Nat.mul_le_mul_left (2 * bs) (show k + 1 ≤ q from hk)
    rw [Nat.mul_add, Nat.mul_one] at this
    omega
  · rw [Blk, e3]
    refine ⟨hz, hp.trans ?_⟩
    rw [sg_two]
    refine b1.2.append ?_
    rcases hl2 with e | e
    · rw [e]; exact b2.2
    · have f1 : sg C (a + bs) l2 = sg C (a + bs) bs := by rw [sg_all (by omega), sg_all (by omega)]
      have f2 : sg D (a + bs) l2 = sg D (a + bs) bs := by rw [sg_all (by omega), sg_all (by omega)]
      rw [f1, f2]; exact b2.2
theorem S3.step {D C Z : List E} {bs q a : Nat} (h : S3 D bs q C) (ha : a = 2 * bs * q) (hn : a + bs + bs ≤ D.length) (hz : Srt Z) (hp : Z.Perm (sg C a bs ++ sg C (a + bs) bs)) : S3 D bs (q + 1) (C.take a ++ (Z ++ C.drop (a + bs + bs))) := by
  obtain ⟨h1, h2, h3, h4⟩ := h.merged ha (Nat.le_refl _) hn hz hp (.inl rfl)
  refine ⟨h1, fun k hk => ?_, fun k hk => (h.small k (by omega)).of_eq (h4 _ _ ?_)⟩
  · rcases Nat.lt_or_ge k q with hkq | hkq
    · exact h2 k hkq
    · obtain rfl : k = q := by omega
      rw [← ha, Nat.two_mul]
      exact h3
  · have := Nat.mul_le_mul_left bs hk
    have e : bs * (2 * (q + 1)) = a + bs + bs := by rw [ha, Nat.mul_add, Nat.mul_add, ← Nat.mul_assoc, Nat.mul_comm bs 2]; omega
    omega
theorem S3.end0 {D C : List E} {bs q a : Nat} (h : S3 D bs q C) (ha : a = 2 * bs * q) (hn : D.length ≤ a + bs) : S2 D (2 * bs) C :=
  ⟨h.len, fun k => by
    have hl := h.len
    rcases Nat.lt_or_ge k q with hkq | hkq
    · exact h.big k hkq
    · rcases Nat.lt_or_ge q k with h3 | h3
      · have := Nat.mul_le_mul_left (2 * bs) (show q + 1 ≤ k from h3)
        rw [Nat.mul_add, Nat.mul_one] at this
        exact Blk.none (by omega) (by omega) _
      · obtain rfl : k = q := by omega
        have h1 := (h.pair ha).1
        rw [← ha, Blk, Nat.two_mul, sg_two, sg_two, sg_none (C := C) (i := a + bs) (by omega), sg_none (C := D) (i := a + bs) (by omega), List.append_nil, List.append_nil]
        exact h1⟩
theorem S3.end1 {D C Z : List E} {bs q a : Nat} (h : S3 D bs q C) (ha : a = 2 * bs * q) (hn : a + bs < D.length) (hn2 : D.length < a + bs + bs) (hz : Srt Z) (hp : Z.Perm (sg C a bs ++ C.drop (a + bs))) : S2 D (2 * bs) (C.take a ++ Z) := by
  have hl := h.len
  obtain ⟨l2, hl2⟩ : ∃ l2, l2 = D.length - (a + bs) := ⟨_, rfl⟩
  have e0 : a + bs + l2 = D.length := by omega
  obtain ⟨h1, h2, h3, h4⟩ := h.merged (Z := Z) (l2 := l2) ha (by omega) (by omega) hz (by rw [sg_all (C := C) (i := a + bs) (by omega)]; exact hp) (.inr e0)
  rw [e0, List.drop_of_length_le (by omega : C.length ≤ D.length), List.append_nil] at h1 h2 h3
  refine ⟨h1, fun k => ?_⟩
  rcases Nat.lt_or_ge k q with hkq | hkq
  · exact h2 k hkq
  · rcases Nat.lt_or_ge q k with h5 | h5
    · have := Nat.mul_le_mul_left (2 * bs) (show q + 1 ≤ k from h5)
      rw [Nat.mul_add, Nat.mul_one] at this
      exact Blk.none (by omega) (by omega) _
    · obtain rfl : k = q := by omega
      rw [← ha, Blk]
      rw [Blk] at h3
      rw [sg_all (by omega), sg_all (by omega)] at h3 ⊢
      exact h3

end Go.Proofs.YthjdeckdklhphaaGreatDoor
