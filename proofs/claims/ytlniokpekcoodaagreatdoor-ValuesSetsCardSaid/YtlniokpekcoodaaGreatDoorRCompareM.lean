/-
  The reference's Compare: it is package tree's.
-/
import Derived.Test.YtlniokpekcoodaaGreatDoorGoodM
import Derived.Test.YtlniokpekcoodaaGreatDoorCloneP
import Derived.Lib.QuietBelow
import Derived.Test.YtlniokpekcoodaaGreatDoorRightM
import Derived.Test.YtlniokpekcoodaaGreatDoorLaid
import Derived.Test.YtlniokpekcoodaaGreatDoorPathCM
import Derived.Test.YtlniokpekcoodaaGreatDoorPathGM
import Derived.Test.YtlniokpekcoodaaGreatDoorOverZM
import Derived.Test.YtlniokpekcoodaaGreatDoorSpecsEM
import Derived.Test.YtlniokpekcoodaaGreatDoorWordW
import Derived.Test.YtlniokpekcoodaaGreatDoorCPrintM
import Derived.Test.YtlniokpekcoodaaGreatDoorValSet
import Derived.DataShut
set_option linter.unusedVariables false
set_option linter.unusedSimpArgs false
namespace Go.Proofs.YtlniokpekcoodaaGreatDoor
open Go.RowKit Go.Sort

def befV (a b : Bool) : Int := if a = true then -1 else if b = true then 1 else 0
end Go.Proofs.YtlniokpekcoodaaGreatDoor

/-
  TreeCompares, walked.
-/
set_option linter.unusedVariables false
set_option linter.unusedSimpArgs false
namespace Go.Proofs.YtlniokpekcoodaaGreatDoor
open Go.RowKit Go.Sort

end Go.Proofs.YtlniokpekcoodaaGreatDoor

/-
  The reference's Get.
-/
set_option linter.unusedVariables false
set_option linter.unusedSimpArgs false
namespace Go.Proofs.YtlniokpekcoodaaGreatDoor
open Go.RowKit Go.Sort

theorem alloc_snd {v w : World} {cs zs : Array Value} {ty tz : TypeId} (h : Below ((v.alloc (.cells cs ty)).alloc (.cells zs tz)).heap.size ((v.alloc (.cells cs ty)).alloc (.cells zs tz)) w) :
    (∀ j, w.cell? ⟨v.heap.size + 1, j, none⟩ = zs[j]?) ∧ (∀ j, w.frozen? ⟨v.heap.size + 1, j, none⟩ = false) ∧ Below v.heap.size v w ∧ v.heap.size + 1 < w.heap.size := by
  have e : (v.alloc (.cells cs ty)).heap.size = v.heap.size + 1 := by simp
  have y := one_boxL (w := v.alloc (.cells cs ty)) h
  rw [e] at y
  refine ⟨y.1, y.2, bstep ((Below.refl _ _).alloc (Nat.le_refl _) (.cells cs ty)) (bstep ((Below.refl _ _).alloc (Nat.le_refl _) (.cells zs tz)) h (by simp)) (by simp), ?_⟩
  have := h.size
  simp at this
  omega
theorem findR_at {key : ByteArray} : ∀ (m : Prs) (j : Nat) (hj : j < m.length), (∀ i (hi : i < m.length), i < j → m[i].1 ≠ key) → m[j].1 = key → findR key m = some m[j].2
  | p :: r, 0, _, _, he => findR_here he
  | p :: r, j + 1, hj, h0, he => by
    rw [findR_skip (by have := h0 0 (by simp) (by omega); exact this)]
    exact findR_at r j (by simpa using hj) (fun i hi hij => by have := h0 (i + 1) (by simpa using hi) (by omega); simpa using this) (by simpa using he)
theorem findR_no {key : ByteArray} {m : Prs} (h : ∀ i (hi : i < m.length), i < m.length → m[i].1 ≠ key) : findR key m = none := findR_none fun q hq => by
  obtain ⟨i, hi, rfl⟩ := List.getElem_of_mem hq
  exact h i hi hi

/-- What the reference's Get hands back. -/
def RGot (w0 : World) (R : Nat → Prop) (w : World) (r : Option T) (e : Ending) (w' : World) : Prop := ∃ ds, e = .returned (.tuple #[.agg ds, .bool r.isSome]) ∧ Lies w' (fun b => R b ∧ b < w0.heap.size) (r.getD T.nil) ds ∧ Below w.heap.size w w'

set_option maxRecDepth 100000 in
set_option maxHeartbeats 2000000 in
theorem rGet_any {w0 : World} {R : Nat → Prop} {t : T} {cs : Array Value} (h : Lies w0 R t cs) (key : ByteArray) (w : World) (hw : Below w0.heap.size w0 w) :
    Calls Tryz.prog 34 #[.agg cs, .string key] w (RGot w0 R w (findR key t.map)) := by
  cases h with
  | mk k b n s l m la lc ma mc cl cm hk hn hs hl hm rl rm ks il im =>
    have HM : Hid (SliceP w0 R m ma mc cm) := ⟨hm, rm, ks, im⟩
    have FA := Lib.hid (findR_at (key := key) m)
    have FN := Lib.hid (findR_no (key := key) (m := m))
    have hle := hm.le
    have hbig := hm.big
    have hmap : (T.mk k b n s l m).map = m := rfl
    rw [hmap]
    have A2 := Lib.hid (((Below.refl w.heap.size w).alloc (Nat.le_refl _) (.cells #[.int .i64 k, .bool b, .int .i64 n, .string s, .slice la l.length lc, .slice ma m.length mc] 25)).alloc (by simp) (.cells #[.int .i64 0, .bool false, .int .i64 0, .string ⟨#[]⟩, .slice none 0 0, .slice none 0 0] 25))
    obtain ⟨y3, y4, _, hlt⟩ := alloc_snd (v := w) (cs := #[.int .i64 k, .bool b, .int .i64 n, .string s, .slice la l.length lc, .slice ma m.length mc]) (zs := #[.int .i64 0, .bool false, .int .i64 0, .string ⟨#[]⟩, .slice none 0 0, .slice none 0 0]) (ty := 25) (tz := 25) (Below.refl _ _)
    have x5 : ((w.alloc (.cells #[.int .i64 k, .bool b, .int .i64 n, .string s, .slice la l.length lc, .slice ma m.length mc] 25)).alloc (.cells #[.int .i64 0, .bool false, .int .i64 0, .string ⟨#[]⟩, .slice none 0 0, .slice none 0 0] 25)).cell? ⟨w.heap.size, 5, none⟩ = some (.slice ma m.length mc) := (one_boxL ((Below.refl _ _).alloc (Nat.le_refl _) _)).1 5
    clear hk hn hs hl hm rl rm ks il im hmap
    obtain ⟨dd, hu, hdd⟩ := Tryz.structV
    have DD := Lib.hid hdd
    have HU := Lib.hid hu
    clear hu hdd
    go_enter Tryz.func34, Tryz.ntmps34
    go_wp2_with fail
    generalize hv : (w.alloc (.cells #[.int .i64 k, .bool b, .int .i64 n, .string s, .slice la l.length lc, .slice ma m.length mc] 25)).alloc (.cells #[.int .i64 0, .bool false, .int .i64 0, .string ⟨#[]⟩, .slice none 0 0, .slice none 0 0] 25) = v at *
    have Y3 := Lib.hid y3
    have Y4 := Lib.hid y4
    have HLT := Lib.hid hlt
    have HW := Lib.hid (bstep hw A2.out hw.size)
    clear hv y3 y4 hlt
    go_loopw [6] (fun vi wr => ∃ j : Nat, j ≤ m.length ∧ vi = .int .i64 j ∧ Hid (∀ i (hi : i < m.length), i < j → m[i].1 ≠ key) ∧ wr = v) (fun vi _ => m.length - (intOf vi).toNat)
    case atStart => exact ⟨0, by omega, rfl, fun i _ hi => absurd hi (Nat.not_lt_zero _), rfl⟩
    case round =>
      obtain ⟨j, hj, rfl, h0, rfl⟩ := hrel
      by_cases hjl : j < m.length
      · obtain ⟨bl, ol, c0, c1, c2, c3, c4, c4l, c4c, c5, c5l, c5c, rfl, hc, r0, r1, r2, r3, r4, r5, r6⟩ := openM HW.out HM.out.hdr HM.out.rows hjl (HM.out.each j hjl)
        have hLx := HM.out.each j hjl
        rw [hc] at hLx
        have HLX := Lib.hid hLx
        clear hc hLx
        by_cases he : m[j].1 = key
        · have f1 : (m[j].1.toList == key.toList) = true := by rw [he]; simp
          have HE := Lib.hid (FA.out j hjl h0.out he)
          have z2 := Y3.out
          have f2 := Y4.out
          clear he
          go_wp2_with fail
          rw [HE.out]
          have hl2 := HLT.out
          refine ret_cells_tmp wr (w.heap.size + 1) [.int .i64 c0, .bool c1, .int .i64 c2, .string c3, .slice c4 c4l c4c, .slice c5 c5l c5c] rfl Tryz.results34 rfl rfl DD.out HU.out Tryz.sizeV (fun i hi => ⟨_, (Y3.out i).trans (Array.getElem?_eq_getElem (show i < 6 from hi))⟩) ?_
          exact ⟨_, rfl, ((HLX.out.bound.later HW.out).keep (fun x hx => setRow_heap _ [.int .i64 c0, .bool c1, .int .i64 c2, .string c3, .slice c4 c4l c4c, .slice c5 c5l c5c] _ _ _ (by have := hx.2; have := hw.size; omega))), setRow_below _ (by omega) [.int .i64 c0, .bool c1, .int .i64 c2, .string c3, .slice c4 c4l c4c, .slice c5 c5l c5c] _ _ A2.out⟩
        · have f1 := str_ne he
          have H1 : Hid (∀ i (hi : i < m.length), i < j + 1 → m[i].1 ≠ key) := fun i hi hij => by
            by_cases e : i = j
            · subst e; exact he
            · exact h0.out i hi (by omega)
          clear he
          go_wp2_with fail
          go_roundw
          case rel => exact ⟨j + 1, by omega, by go_num, H1, trivial⟩
          case measure => simp [intOf]; omega
      · obtain rfl : j = m.length := by omega
        have HE := Lib.hid (FN.out h0.out)
        have z2 := Y3.out
        have f2 := Y4.out
        go_wp2_with fail
        rw [HE.out]
        have hl2 := HLT.out
        refine ret_cells_tmp wr (w.heap.size + 1) [.int .i64 0, .bool false, .int .i64 0, .string ⟨#[]⟩, .slice none 0 0, .slice none 0 0] rfl Tryz.results34 rfl rfl DD.out HU.out Tryz.sizeV (fun i hi => ⟨_, (Y3.out i).trans (Array.getElem?_eq_getElem (show i < 6 from hi))⟩) ?_
        exact ⟨_, rfl, nil_lies _ _, setRow_below _ (by omega) [.int .i64 0, .bool false, .int .i64 0, .string ⟨#[]⟩, .slice none 0 0, .slice none 0 0] _ _ A2.out⟩

end Go.Proofs.YtlniokpekcoodaaGreatDoor

/-
  The path reference's Get.
-/
set_option linter.unusedVariables false
set_option linter.unusedSimpArgs false
namespace Go.Proofs.YtlniokpekcoodaaGreatDoor
open Go.RowKit Go.Sort

/-- What the reference finds at a path. -/
def getQ : List ByteArray → T → Option T
  | [], t => some t
  | k :: r, t => (findR k t.map).bind (getQ r)

end Go.Proofs.YtlniokpekcoodaaGreatDoor

/-
  A value with another one laid over it that has a leaf alone, at a path (pure).
-/
set_option linter.unusedVariables false
set_option linter.unusedSimpArgs false
namespace Go.Proofs.YtlniokpekcoodaaGreatDoor
open Go.RowKit Go.Sort

/-- Pairs without one key. -/
def goneS (k : ByteArray) (ps : Prs) : Prs := cutB k ps ++ cutA k ps
/-- A leaf at a path, in maps of one pair. -/
def pathU : List ByteArray → T → T
  | [], x => x
  | k :: r, x => .mk 5 false 0 ⟨#[]⟩ [] [(k, pathU r x)]
theorem put_nil : ∀ (l : List ByteArray) (x : T), putL l T.nil x = pathU l x
  | [], x => rfl
  | k :: r, x => by
    rw [putL, pathU, show inL k T.nil = T.nil from rfl, put_nil r x]
    rfl
theorem put_five : ∀ (l : List ByteArray) (x : T), putL l T.none5 x = pathU l x
  | [], x => rfl
  | k :: r, x => by
    rw [putL, pathU, show inL k T.none5 = T.nil from rfl, put_nil r x]
    rfl
/-- .. taken out. -/
def goneL : List ByteArray → T → T
  | [], _ => T.nil
  | [k], t => .mk 5 false 0 ⟨#[]⟩ [] (goneS k t.pairs)
  | k :: k2 :: r, t => t.put k (goneL (k2 :: r) (inL k t))

end Go.Proofs.YtlniokpekcoodaaGreatDoor

/-
  ScalarNumbers: the law's contract.
-/
set_option linter.unusedVariables false
set_option linter.unusedSimpArgs false
namespace Go.Proofs.YtlniokpekcoodaaGreatDoor
open Go.RowKit

/-- What is known of a numeral's text. -/
structure Numeral (p : ByteArray) (n : Int) : Prop where
  named : namedB p.data.toList = false
  number : numberL p.data.toList = true
  parse : Lib.parseIntB 64 p.data.toList = .ok n
  bare : bareL p.data.toList = false
  size : p.size ≤ 40

end Go.Proofs.YtlniokpekcoodaaGreatDoor

/-
  Set at a path that is joined of words, with a number, or with nothing.
-/
set_option linter.unusedVariables false
set_option linter.unusedSimpArgs false
namespace Go.Proofs.YtlniokpekcoodaaGreatDoor
open Go.RowKit

/-- A text cut at its first equals sign. -/
theorem cut_eq_here (r : List UInt8) : Lib.cut (61 :: r) [61] = ([], r, true) := by
  have : Lib.index (61 :: r) [61] = 0 := by rw [Lib.index_one]; rfl
  unfold Lib.cut
  rw [this]
  rfl
theorem cut_eq_on (r : List UInt8) {c : UInt8} (h : c ≠ 61) {p q : List UInt8} (hc : Lib.cut r [61] = (p, q, true)) : Lib.cut (c :: r) [61] = (c :: p, q, true) := by
  have e : Lib.index (c :: r) [61] = if Lib.index r [61] == -1 then -1 else Lib.index r [61] + 1 := by
    rw [Lib.index_one, Lib.index_one, Lib.indexByte, show (c == 61) = false from beq_eq_false_iff_ne.2 h]
    rfl
  unfold Lib.cut at hc ⊢
  rw [e]
  by_cases h0 : 0 ≤ Lib.index r [61]
  · have n1 : (Lib.index r [61] == -1) = false := by rw [beq_eq_false_iff_ne]; omega
    rw [if_pos h0] at hc
    rw [n1]
    simp only [Bool.false_eq_true, if_false]
    rw [if_pos (by omega)]
    injection hc with h1 h2
    injection h2 with h2 h3
    subst h1 h2
    have : (Lib.index r [61] + 1).toNat = (Lib.index r [61]).toNat + 1 := by omega
    rw [this]
    rfl
  · rw [if_neg h0] at hc
    injection hc with h1 h2
    injection h2 with h2 h3
    cases h3
theorem cut_eq_at (r : List UInt8) : ∀ a : List UInt8, (61 : UInt8) ∉ a → Lib.cut (a ++ 61 :: r) [61] = (a, r, true)
  | [], _ => cut_eq_here r
  | c :: a, h => by
    rw [List.cons_append]
    exact cut_eq_on _ (fun e => h (by simp [e])) (cut_eq_at r a fun hm => h (by simp [hm]))

/-- A path as it is written. -/
structure PathOf (ks : List ByteArray) (p : ByteArray) : Prop where
  join : p.data.toList = joinD (datS ks)
  words : ∀ k ∈ ks, wordL k.data.toList = true
  some : ks ≠ []
  few : ks.length ≤ 15
theorem PathOf.dot {ks : List ByteArray} {p : ByteArray} (h : PathOf ks p) : ∀ a ∈ datS ks, (46 : UInt8) ∉ a := fun a ha => by
  obtain ⟨k, hk, rfl⟩ := List.mem_map.1 ha
  exact word_dot (h.words k hk)
theorem PathOf.parse {ks : List ByteArray} {p : ByteArray} (h : PathOf ks p) : parseD p.data.toList = (datS ks, 0) := by
  have hne : datS ks ≠ [] := by
    unfold datS
    intro e
    exact h.some (List.map_eq_nil_iff.1 e)
  have hlen : (datS ks).length = ks.length := by unfold datS; rw [List.length_map]
  have hall : (datS ks).all wordL = true := by
    rw [List.all_eq_true]
    intro a ha
    obtain ⟨k, hk, rfl⟩ := List.mem_map.1 ha
    exact h.words k hk
  unfold parseD
  rw [h.join, cutD_join _ hne h.dot, if_neg (by have := h.few; omega), hall, if_pos rfl]
theorem PathOf.steps {ks : List ByteArray} {p : ByteArray} (h : PathOf ks p) : stepsD p.data.toList = ks := by
  unfold stepsD
  rw [h.parse]
  exact (dat_inj (xs := ks) rfl).symm
theorem word_eq {l : List UInt8} (h : wordL l = true) : (61 : UInt8) ∉ l := fun hm => by
  unfold wordL at h
  simp only [Bool.and_eq_true] at h
  have := (List.all_eq_true.1 h.1.1) _ hm
  revert this
  decide
theorem join_eq : ∀ L : List (List UInt8), (∀ a ∈ L, (61 : UInt8) ∉ a) → (61 : UInt8) ∉ joinD L
  | [], _ => by rw [show joinD [] = [] from rfl]; simp
  | [a], h => by rw [joinD_one]; exact h a (by simp)
  | a :: b :: r, h => by
    rw [joinD_cons]
    intro hm
    rcases List.mem_append.1 hm with hm | hm
    · exact h a (by simp) hm
    · rcases List.mem_cons.1 hm with hm | hm
      · revert hm; decide
      · exact join_eq (b :: r) (fun x hx => h x (by simp only [List.mem_cons] at hx ⊢; exact .inr hx)) hm
theorem PathOf.eq {ks : List ByteArray} {p : ByteArray} (h : PathOf ks p) : (61 : UInt8) ∉ p.data.toList := by
  rw [h.join]
  refine join_eq _ fun a ha => ?_
  obtain ⟨k, hk, rfl⟩ := List.mem_map.1 ha
  exact word_eq (h.words k hk)
theorem PathOf.cut {ks : List ByteArray} {p : ByteArray} (h : PathOf ks p) (q : ByteArray) : CutAt (p ++ ⟨#[61]⟩ ++ q) p q true := by
  unfold CutAt
  have : (p ++ ⟨#[61]⟩ ++ q).data.toList = p.data.toList ++ 61 :: q.data.toList := by simp [ByteArray.data_append]
  rw [this]
  exact cut_eq_at _ _ h.eq
theorem PathOf.setR {ks : List ByteArray} {p : ByteArray} (h : PathOf ks p) (t x : T) : setR t true p.data.toList x 0 = overC (T.over t (pathU ks x)) := by
  rw [Go.Proofs.YtlniokpekcoodaaGreatDoor.setR, if_neg (by simp), if_neg (by rw [h.parse]; simp), if_neg (by simp), h.steps, put_five]

def intT (n : Int) : T := .mk 2 false n ⟨#[]⟩ [] []
end Go.Proofs.YtlniokpekcoodaaGreatDoor
