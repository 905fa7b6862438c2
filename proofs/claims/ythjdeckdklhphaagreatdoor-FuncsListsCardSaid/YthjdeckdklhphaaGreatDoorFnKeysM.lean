/-
  Package funcs' keys: the list of a map's keys.
-/
import Derived.Test.YthjdeckdklhphaaGreatDoorFnLst
import Derived.Test.YthjdeckdklhphaaGreatDoorGet
set_option linter.unusedVariables false
set_option linter.unusedSimpArgs false
namespace Go.Proofs.YthjdeckdklhphaaGreatDoor
open Go.RowKit

def keyT (s : ByteArray) : T := .mk 3 false 0 s [] []
theorem lies_key (w : World) (R : Nat → Prop) (s : ByteArray) (hs : s.size ≤ 140737488355328) : Lies w R (keyT s) #[.int .i64 3, .bool false, .int .i64 0, .string s, .slice none 0 0, .slice none 0 0] :=
  .mk 3 false 0 s [] [] none 0 none 0 (fun _ => #[]) (fun _ => #[]) (by decide) (by decide) hs ⟨by simp, by simp, fun _ => rfl, fun h => absurd h (by simp), by simp⟩ ⟨by simp, by simp, fun _ => rfl, fun h => absurd h (by simp), by simp⟩
    (fun i h => absurd h (by simp)) (fun i h => absurd h (by simp)) (fun i h => absurd h (by simp)) (fun i h => absurd h (by simp)) (fun i h => absurd h (by simp))

set_option maxRecDepth 100000 in
set_option maxHeartbeats 2000000 in
theorem fkeys_map {w0 : World} {R : Nat → Prop} {m : List (ByteArray × T)} {cs : Array Value} (h : Lies w0 R (.mk 5 false 0 ⟨#[]⟩ [] m) cs) (w : World) (hw : Below w0.heap.size w0 w) :
    Calls Tryz.prog 41 #[.agg cs] w fun e w' => ∃ ds, e = .returned (.tuple #[.agg ds, .int .i64 0]) ∧ Lies w' (fun b => w.heap.size ≤ b) (T.listOf (m.map fun p => keyT p.1)) ds ∧ Below w.heap.size w w' := by
  obtain ⟨c0, c1, c2, c3, c4, c4l, c4c, c5, c5l, c5c, rfl⟩ := h.six
  have hk : c0 = 5 ∧ c5l = m.length := by cases h; exact ⟨rfl, rfl⟩
  obtain ⟨rfl, rfl⟩ := hk
  have hS : ∃ cm, SliceP w0 R m c5 c5c cm := by
    cases h with
    | mk k b n s l m la lc ma mc cl cm hk hn hs hl hm rl rm ks il im => exact ⟨cm, hm, rm, ks, im⟩
  obtain ⟨cm, hS⟩ := hS
  obtain ⟨ts, hts⟩ : ∃ ts, ts = m.map fun p => keyT p.1 := ⟨_, rfl⟩
  have hlen : ts.length = m.length := by rw [hts, List.length_map]
  have hat : ∀ (j : Nat) (h : j < ts.length) (h2 : j < m.length), ts[j] = keyT m[j].1 := fun j h h2 => by subst hts; rw [List.getElem_map]
  rw [← hts]
  have hm := hS.hdr
  have hle := hm.le
  have hbig := hm.big
  have HS := Lib.hid hS
  have HAT := Lib.hid hat
  obtain ⟨i0, hi, hz0, hz1, hz2⟩ := info_parts Tryz.infoV
  clear hS h hts hat
  obtain ⟨dd, hu, hdd⟩ := Tryz.structV
  have DD := Lib.hid hdd
  have HU := Lib.hid hu
  clear hdd hu
  have hbv : Below w.heap.size w ((w.alloc (.cells #[.int .i64 5, .bool c1, .int .i64 c2, .string c3, .slice c4 c4l c4c, .slice c5 m.length c5c] 28)).alloc (.cells zeroV 28)) := (((Below.refl _ _).alloc (Nat.le_refl _) _).alloc (by simp) _)
  have b0 : Box6 ((w.alloc (.cells #[.int .i64 5, .bool c1, .int .i64 c2, .string c3, .slice c4 c4l c4c, .slice c5 m.length c5c] 28)).alloc (.cells zeroV 28)) (w.heap.size) #[.int .i64 5, .bool c1, .int .i64 c2, .string c3, .slice c4 c4l c4c, .slice c5 m.length c5c] := by
    have := Box6.new w #[.int .i64 5, .bool c1, .int .i64 c2, .string c3, .slice c4 c4l c4c, .slice c5 m.length c5c] 28
    exact this.later ((Below.refl (w.heap.size + 1) _).alloc (by simp) _) (by omega)
  have b1 : Box6 ((w.alloc (.cells #[.int .i64 5, .bool c1, .int .i64 c2, .string c3, .slice c4 c4l c4c, .slice c5 m.length c5c] 28)).alloc (.cells zeroV 28)) (w.heap.size + 1) zeroV := by
    have := Box6.new (w.alloc (.cells #[.int .i64 5, .bool c1, .int .i64 c2, .string c3, .slice c4 c4l c4c, .slice c5 m.length c5c] 28)) zeroV 28
    simp only [World.size_alloc] at this
    exact this
  have tz := Thaw.new (w.alloc (.cells #[.int .i64 5, .bool c1, .int .i64 c2, .string c3, .slice c4 c4l c4c, .slice c5 m.length c5c] 28)) zeroV 28
  simp only [World.size_alloc] at tz
  have es : ((w.alloc (.cells #[.int .i64 5, .bool c1, .int .i64 c2, .string c3, .slice c4 c4l c4c, .slice c5 m.length c5c] 28)).alloc (.cells zeroV 28)).heap.size = w.heap.size + 2 := by simp
  have B0 := Lib.hid b0
  have B1 := Lib.hid b1
  have TZ := Lib.hid tz
  have HV := Lib.hid hbv
  have ES := Lib.hid es
  clear hbv tz es b0 b1
  go_enter Tryz.func41, Tryz.ntmps41
  go_upto_region 1 with fail
  generalize ((w.alloc (.cells #[.int .i64 5, .bool c1, .int .i64 c2, .string c3, .slice c4 c4l c4c, .slice c5 m.length c5c] 28)).alloc (.cells zeroV 28)) = v at *
  have hvs := Nat.le_of_eq ES.out.symm
  have HWV := Lib.hid (bstep hw HV.out hw.size)
  obtain ⟨x0, x1, x2, x3, x4, x5⟩ := B0.out.six
  go_wp2_with (at_make; refine wpList_make_own _ rfl _ _ 22 rfl v.heap.size 28 i0 _ 6 Tryz.underlying22 hi hz0 hz1 .i64 .i64 _ m.length rfl rfl rfl (by rw [hz2]; omega) (by unfold maxLen; omega) (Nat.le_refl _) ?_; intro w1 hown hgrow; have hbw1 := (Below.refl v.heap.size v).grown hgrow (Nat.le_refl _) (by simp); obtain ⟨x0, x1, x2, x3, x4, x5⟩ := (B0.out.later hbw1 (by omega)).six)
  go_loopw [4, 18] (fun vn vi wr => ∃ (j : Nat) (D : List (Array Value)), vi = .int .i64 j ∧ vn = .slice (some ⟨v.heap.size, 0, none⟩) j m.length ∧ BuiltV v wr v.heap.size ts j m.length D ∧ Below v.heap.size v wr ∧ v.heap.size < wr.heap.size) (fun _ vi _ => m.length - (intOf vi).toNat)
  case atStart => exact ⟨0, [], rfl, rfl, ⟨rfl, by omega, hown, fun i _ h' => absurd h' (by simp)⟩, (Below.refl _ _).grown hgrow (Nat.le_refl _) (by simp), by
    have := hown.lt v.heap.size (by simp [Value.ownBlock]); omega⟩
  case round =>
    clear x0 x1 x2 x3 x4 x5
    obtain ⟨j, D, rfl, rfl, hB, hbw, hlt⟩ := hrel
    have hj := hB.le
    have hbw2 := bstep HWV.out hbw HWV.out.size
    by_cases hjl : j < m.length
    · have hkz := HS.out.keys j hjl
      obtain ⟨bl, ol, d0, d1, d2, d3, d4, d4l, d4c, d5, d5l, d5c, rfl, hcl, r0, r1, r2, r3, r4, r5, r6⟩ := openM hbw2 HS.out.hdr HS.out.rows hjl (HS.out.each j hjl)
      clear hcl
      have HTJ := Lib.hid (HAT.out j (by omega) hjl)
      obtain ⟨key, hkey⟩ : ∃ key, key = m[j].1 := ⟨_, rfl⟩
      rw [← hkey] at r0 hkz HTJ
      clear hkey
      have HD := Lib.hid hB
      clear hB
      go_wp2_with fail
      refine (tStr_any _ _).mono ?_
      rintro e w2 ⟨rfl, hb1⟩
      have own2 := (HD.out.own.alloc (.cells #[.string key, .int .i64 d0, .bool d1, .int .i64 d2, .string d3, .slice d4 d4l d4c, .slice d5 d5l d5c] 48)).kept (grown_of_below hb1 none) (.inr (by simp [Value.ownBlock]))
      have hb2 := bstep hbw (bunbox hb1 (Nat.le_refl _) (by simp)) hbw.size
      have hL : Lies w2 (fun b => (wr.alloc (.cells #[.string key, .int .i64 d0, .bool d1, .int .i64 d2, .string d3, .slice d4 d4l d4c, .slice d5 d5l d5c] 48)).heap.size ≤ b) ts[j] #[.int .i64 3, .bool false, .int .i64 0, .string key, .slice none 0 0, .slice none 0 0] := by rw [HTJ.out]; exact lies_key _ _ key hkz
      go_wp2_with (at_builtin; refine wpList_append_fits _ rfl (.tmp 22) (.tmp 26) 22 rfl v.heap.size 28 i0 6 Tryz.underlying22 hi hz1 v.heap.size j m.length _ rfl (own2.alloc _) ⟨w2.heap.size, 0, none⟩ 1 1 [.int .i64 3, .bool false, .int .i64 0, .string key, .slice none 0 0, .slice none 0 0] rfl rfl ?c1 ?c2 ?c3 ?_)
      case c1 => exact fun j u hu => lit_cells w2 _ _ j u hu
      case c2 => exact hL.one
      case c3 => omega
      intro w3 own3 hg3
      have HB := HD.out.step hlt hbw.size (by omega) hb1 hL own3 hg3
      have hb3 := ((Below.alloc hb2 hb2.size _).grown hg3 (by have := hb2.size; simp; omega) (by simp))
      have hlt3 : v.heap.size < w3.heap.size := by have := hg3.size; simp at this; have := hb1.size; simp at this; omega
      have HB3 := Lib.hid HB
      have hb3' := Lib.hid hb3
      clear HB hb3
      go_wp2_with fail
      go_roundw
      case rel => exact ⟨j + 1, _, by go_num, rfl, HB3.out, hb3'.out, hlt3⟩
      case measure => simp [intOf]; omega
    · obtain rfl : j = m.length := by omega
      have hB2 : BuiltV v wr v.heap.size ts ts.length m.length D := by rw [hlen]; exact hB
      have HT := Lib.hid (hB2.done (Nat.le_refl _) (by omega) (by omega) (by omega))
      have TL := Lib.hid (tList_any HT.out wr (Below.refl _ _))
      rw [hlen] at TL
      have HBW := Lib.hid hbw
      clear hB hB2 hbw
      go_wp2_with (go_at_call 14; refine TL.out.mono ?_; rintro e w5 ⟨ds, rfl, hL, hb5⟩; obtain ⟨m0, m1, m2, m3, m4, m4l, m4c, m5, m5l, m5c, rfl⟩ := hL.six; have HV5 := Lib.hid (bstep HBW.out hb5 HBW.out.size); have HL5 := Lib.hid hL; obtain ⟨c0', c1', c2', c3', c4', c5'⟩ := (B1.out.later HV5.out (by omega)).six; obtain ⟨f0, f1, f2, f3, f4, f5⟩ := (TZ.out.later HV5.out (by omega)).six; clear hb5 hL)
      exact ret_cells_tmp w5 (w.heap.size + 1) [.int .i64 m0, .bool m1, .int .i64 m2, .string m3, .slice m4 m4l m4c, .slice m5 m5l m5c] rfl Tryz.results41 rfl rfl DD.out HU.out Tryz.sizeV ((B1.out.later HV5.out (by omega)).cells rfl) ⟨_, rfl, (HL5.out.keep (w' := setRow w5 (w.heap.size + 1) 0 [.int .i64 m0, .bool m1, .int .i64 m2, .string m3, .slice m4 m4l m4c, .slice m5 m5l m5c]) (fun b hb => setRow_heap _ _ _ _ _ (by omega))).weaken fun b hb => by omega, setRow_below _ (by omega) _ _ _ (bstep HV.out HV5.out HV.out.size)⟩

end Go.Proofs.YthjdeckdklhphaaGreatDoor

/-
  A map with a value under a key, and without one: on the trees alone.
-/
set_option linter.unusedVariables false
set_option linter.unusedSimpArgs false
namespace Go.Proofs.YthjdeckdklhphaaGreatDoor
open Go.RowKit

/-- Go's '<' on texts. -/
def ltS (a b : ByteArray) : Bool := Op.bytesLess a.toList b.toList

/-- The pairs below, this one, the pairs above. -/
def putR (key : ByteArray) (x : T) : List (ByteArray × T) → List (ByteArray × T)
  | [] => [(key, x)]
  | p :: r => if ltS p.1 key = true then p :: putR key x r else if p.1 = key then (key, x) :: r else (key, x) :: p :: r

/-- What is under a key. -/
def findR (key : ByteArray) (m : List (ByteArray × T)) : Option T := (m.find? fun p => decide (p.1 = key)).map (·.2)

theorem findR_skip {key : ByteArray} {p : ByteArray × T} {r : List (ByteArray × T)} (h : p.1 ≠ key) : findR key (p :: r) = findR key r := by
  unfold findR
  rw [List.find?_cons_of_neg (by simpa using h)]
theorem findR_here {key : ByteArray} {p : ByteArray × T} {r : List (ByteArray × T)} (h : p.1 = key) : findR key (p :: r) = some p.2 := by
  unfold findR
  rw [List.find?_cons_of_pos (by simpa using h)]
  rfl

theorem ltS_ne {a b : ByteArray} (h : ltS a b = true) (irr : ∀ l, Op.bytesLess l l = false) : a ≠ b := fun e => by
  subst e
  unfold ltS at h
  rw [irr] at h
  cases h

theorem bytesLess_irr : ∀ l : List UInt8, Op.bytesLess l l = false
  | [] => rfl
  | x :: r => by
    rw [Op.bytesLess]
    simp [bytesLess_irr r]

theorem ltS_irr (a : ByteArray) : ltS a a = false := bytesLess_irr _

theorem putR_lt {key : ByteArray} {x : T} {p : ByteArray × T} {r : List (ByteArray × T)} (h : ltS p.1 key = true) : putR key x (p :: r) = p :: putR key x r := by rw [putR, if_pos h]
theorem putR_eq {key : ByteArray} {x : T} {p : ByteArray × T} {r : List (ByteArray × T)} (h : p.1 = key) : putR key x (p :: r) = (key, x) :: r := by
  rw [putR, if_neg (by rw [h, ltS_irr]; simp), if_pos h]
theorem putR_gt {key : ByteArray} {x : T} {p : ByteArray × T} {r : List (ByteArray × T)} (h : ltS p.1 key = false) (h2 : p.1 ≠ key) : putR key x (p :: r) = (key, x) :: p :: r := by
  rw [putR, if_neg (by simp [h]), if_neg h2]

theorem putR_cases (p : ByteArray × T) (key : ByteArray) : (ltS p.1 key = true ∧ p.1 ≠ key) ∨ (p.1 = key) ∨ (ltS p.1 key = false ∧ p.1 ≠ key) := by
  by_cases h : p.1 = key
  · exact .inr (.inl h)
  · cases h2 : ltS p.1 key with
    | true => exact .inl ⟨rfl, h⟩
    | false => exact .inr (.inr ⟨rfl, h⟩)

theorem putR_find (key : ByteArray) (x : T) : ∀ m, findR key (putR key x m) = some x
  | [] => findR_here rfl
  | p :: r => by
    rcases putR_cases p key with ⟨h, hn⟩ | h | ⟨h, hn⟩
    · rw [putR_lt h, findR_skip hn, putR_find key x r]
    · rw [putR_eq h]; exact findR_here rfl
    · rw [putR_gt h hn]; exact findR_here rfl

theorem putR_other (key other : ByteArray) (x : T) (ho : other ≠ key) : ∀ m, findR other (putR key x m) = findR other m
  | [] => by
    show findR other [(key, x)] = findR other []
    exact findR_skip (p := (key, x)) (fun e => ho e.symm)
  | p :: r => by
    rcases putR_cases p key with ⟨h, hn⟩ | h | ⟨h, hn⟩
    · rw [putR_lt h]
      by_cases e : p.1 = other
      · rw [findR_here e, findR_here e]
      · rw [findR_skip e, findR_skip e, putR_other key other x ho r]
    · rw [putR_eq h, findR_skip (p := p) (by rw [h]; exact fun e => ho e.symm)]; exact findR_skip (p := (key, x)) (fun e => ho e.symm)
    · rw [putR_gt h hn]; exact findR_skip (p := (key, x)) (fun e => ho e.symm)

theorem putR_twice (key : ByteArray) (x y : T) : ∀ m, putR key x (putR key y m) = putR key x m
  | [] => by
    show putR key x [(key, y)] = [(key, x)]
    exact putR_eq (p := (key, y)) rfl
  | p :: r => by
    rcases putR_cases p key with ⟨h, hn⟩ | h | ⟨h, hn⟩
    · rw [putR_lt h, putR_lt h, putR_lt h, putR_twice key x y r]
    · rw [putR_eq h, putR_eq h]; exact putR_eq (p := (key, y)) rfl
    · rw [putR_gt h hn, putR_gt h hn]; exact putR_eq (p := (key, y)) rfl

/-- Without a key. -/
def dropR (key : ByteArray) (m : List (ByteArray × T)) : List (ByteArray × T) := m.filter fun p => !decide (p.1 = key)
theorem dropR_find (key : ByteArray) (m : List (ByteArray × T)) : findR key (dropR key m) = none := by
  unfold findR dropR
  rw [List.find?_eq_none.2 fun p hp => by have := (List.mem_filter.1 hp).2; simpa using this]
  rfl

/-- A map with a value under a key; of others a map with that alone. -/
def T.put (t : T) (key : ByteArray) (x : T) : T := .mk 5 false 0 ⟨#[]⟩ [] (putR key x t.pairs)
/-- A map without a key; others are as they are. -/
def T.drop (t : T) (key : ByteArray) : T := if t.kind = 5 then .mk 5 false 0 ⟨#[]⟩ [] (dropR key t.map) else t

theorem T.get_find (t : T) (key : ByteArray) : t.get key = findR key t.pairs := rfl
theorem put_pairs (t : T) (key : ByteArray) (x : T) : (t.put key x).pairs = putR key x t.pairs := by rw [T.put, T.pairs, if_pos rfl]
theorem get_put (t : T) (key : ByteArray) (x : T) : (t.put key x).get key = some x := by rw [T.get_find, put_pairs, putR_find]
theorem get_put_other (t : T) (key other : ByteArray) (x : T) (h : other ≠ key) : (t.put key x).get other = t.get other := by rw [T.get_find, put_pairs, putR_other key other x h, T.get_find]
theorem put_put (t : T) (key : ByteArray) (x y : T) : (t.put key y).put key x = t.put key x := by
  rw [T.put, put_pairs, putR_twice, T.put]
theorem get_drop (t : T) (key : ByteArray) : (t.drop key).get key = none := by
  obtain ⟨k, b, n, s, l, m⟩ := t
  unfold T.drop
  by_cases h : k = 5
  · rw [if_pos (show (T.mk k b n s l m).kind = 5 from h), T.get_find, T.pairs, if_pos rfl, dropR_find]
  · rw [if_neg (show ¬ (T.mk k b n s l m).kind = 5 from h), T.get_find, T.pairs, if_neg h]
    rfl

end Go.Proofs.YthjdeckdklhphaaGreatDoor
