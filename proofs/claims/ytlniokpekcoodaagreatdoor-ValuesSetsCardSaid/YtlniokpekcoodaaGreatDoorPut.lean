/-
  Package tree's Put.
-/
import Derived.Test.YtlniokpekcoodaaGreatDoorConcat
import Derived.Test.YtlniokpekcoodaaGreatDoorGetM
import Derived.Deep.DeepCutAuto
import Derived.Deep.RegionHeld3
set_option linter.unusedVariables false
set_option linter.unusedSimpArgs false
namespace Go.Proofs.YtlniokpekcoodaaGreatDoor
open Go.RowKit Go.Sort

set_option maxHeartbeats 400000 in
/-- The closure in Put: is the key that one, or above? -/
theorem put1_any (p : ByteArray × T) (k : Int) (b : Bool) (n : Int) (s : ByteArray) (la : Option Addr) (ll lc : Nat) (ma : Option Addr) (ml mc : Nat) (key : ByteArray) (kb : Nat) (w : World) (hk : w.cell? ⟨kb, 0, none⟩ = some (.string key)) :
    Calls Tryz.prog 141 #[.agg #[.string p.1, .int .i64 k, .bool b, .int .i64 n, .string s, .slice la ll lc, .slice ma ml mc], .pointer (some ⟨kb, 0, none⟩)] w fun e w' => e = .returned (.bool (!ltS p.1 key)) ∧ Below w.heap.size w w' := by
  have hlt := World.block_lt_of_cell? _ _ hk
  have hne : kb ≠ w.heap.size := by simp at hlt; omega
  have HB := Lib.hid ((Below.refl w.heap.size w).alloc (Nat.le_refl _) (.cells #[.string p.1, .int .i64 k, .bool b, .int .i64 n, .string s, .slice la ll lc, .slice ma ml mc] 51))
  have hk2 : (w.alloc (.cells #[.string p.1, .int .i64 k, .bool b, .int .i64 n, .string s, .slice la ll lc, .slice ma ml mc] 51)).cell? ⟨kb, 0, none⟩ = some (.string key) := by rw [World.cell?_alloc_lt _ _ _ hlt]; exact hk
  go_enter Tryz.func141, Tryz.ntmps141
  go_wp2_with fail
  go_ret
  exact ⟨ret_bool rfl, HB.out⟩

/-- The place of the first of that key, or above; -1: there is none. -/
def putIx (ps : List (ByteArray × T)) (key : ByteArray) : Int := match ps.findIdx? fun p => !ltS p.1 key with | some i => (i : Int) | none => -1
theorem putIx_none (ps : List (ByteArray × T)) (key : ByteArray) (h : ∀ i (hi : i < ps.length), ltS ps[i].1 key = true) : putIx ps key = -1 := by
  unfold putIx
  rw [List.findIdx?_eq_none_iff.2 fun p hp => by obtain ⟨i, hi, rfl⟩ := List.getElem_of_mem hp; simpa using h i hi]
theorem putIx_hit (ps : List (ByteArray × T)) (key : ByteArray) (j : Nat) (hj : j < ps.length) (h : ∀ i (hi : i < ps.length), i < j → ltS ps[i].1 key = true) (he : ltS ps[j].1 key = false) : putIx ps key = j := by
  unfold putIx
  have : (ps.findIdx? fun p => !ltS p.1 key) = some j := by
    rw [List.findIdx?_eq_some_iff_getElem]
    exact ⟨hj, by simp [he], fun i hi => by simpa using h i (by omega) hi⟩
  rw [this]

set_option maxHeartbeats 400000 in
theorem indexPut_any {w0 : World} {R : Nat → Prop} {ps : List (ByteArray × T)} {a : Option Addr} {cap : Nat} {cm : Nat → Array Value} (h : SliceP w0 R ps a cap cm) (key : ByteArray) (kb : Nat) (w : World) (hw : Below w0.heap.size w0 w) (hk : w.cell? ⟨kb, 0, none⟩ = some (.string key)) :
    Calls Tryz.prog 50 #[.slice a ps.length cap, .func (Fn.func 141) #[] #[.pointer (some ⟨kb, 0, none⟩)]] w fun e w' => e = .returned (.int .i64 (putIx ps key)) ∧ Below w.heap.size w w' := by
  have hl := h.hdr
  have ll := hl.le
  have lx := hl.big
  have KN := Lib.hid (putIx_none ps key)
  have KH := Lib.hid (putIx_hit ps key)
  go_enter Tryz.func50, Tryz.ntmps50
  go_wp2_with fail
  go_loopw [8] (fun vi wr => ∃ j : Nat, j ≤ ps.length ∧ vi = .int .i64 j ∧ Hid (∀ i (hi : i < ps.length), i < j → ltS ps[i].1 key = true) ∧ Below w.heap.size w wr) (fun vi _ => ps.length - (intOf vi).toNat)
  case atStart => exact ⟨0, by omega, rfl, fun i _ hi => absurd hi (Nat.not_lt_zero _), Below.refl _ _⟩
  case round =>
    obtain ⟨j, hj, rfl, h0, hbw⟩ := hrel
    have hbw2 := bstep hw hbw hw.size
    have hk2 := cells_frame hbw hk
    by_cases hjl : j < ps.length
    · have KJ := Lib.hid (KH.out j hjl h0.out)
      obtain ⟨bl, ol, c0, c1, c2, c3, c4, c4l, c4c, c5, c5l, c5c, rfl, hc, r0, r1, r2, r3, r4, r5, r6⟩ := openM hbw2 hl h.rows hjl (h.each j hjl)
      clear hc
      cases he : ltS ps[j].1 key with
      | false =>
        have HR := Lib.hid (KJ.out he)
        have P1 := put1_any ps[j] c0 c1 c2 c3 c4 c4l c4c c5 c5l c5c key kb
        rw [he] at P1
        have P1 := Lib.hid P1
        clear he
        go_wp2_with fail
        refine (P1.out _ hk2).mono ?_
        rintro e w1 ⟨rfl, hb1⟩
        have hb2 := bstep hbw hb1 hbw.size
        go_wp2_with fail
        go_ret
        exact ⟨ret_int HR.out.symm, hb2⟩
      | true =>
        have HR := Lib.hid he
        have P1 := put1_any ps[j] c0 c1 c2 c3 c4 c4l c4c c5 c5l c5c key kb
        rw [he] at P1
        have P1 := Lib.hid P1
        clear he
        go_wp2_with fail
        refine (P1.out _ hk2).mono ?_
        rintro e w1 ⟨rfl, hb1⟩
        have hb2 := bstep hbw hb1 hbw.size
        go_wp2_with fail
        go_roundw
        case rel => exact ⟨j + 1, by omega, by go_num, fun i hi hij => by
          by_cases e : i = j
          · subst e; exact HR.out
          · exact h0.out i hi (by omega), hb2⟩
        case measure => simp [intOf]; omega
    · obtain rfl : j = ps.length := by omega
      have HR := Lib.hid (KN.out fun i hi => h0.out i hi hi)
      go_wp2_with fail
      go_ret
      exact ⟨ret_int HR.out.symm, hbw⟩

theorem putR_at (key : ByteArray) (x : T) : ∀ (i : Nat) (ps : List (ByteArray × T)), i ≤ ps.length → (∀ j (h : j < ps.length), j < i → ltS ps[j].1 key = true) → (∀ h : i < ps.length, ltS ps[i].1 key = false) →
    ((∃ h : i < ps.length, ps[i].1 = key ∧ putR key x ps = ps.take i ++ (key, x) :: ps.drop (i + 1)) ∨ ((∀ h : i < ps.length, ps[i].1 ≠ key) ∧ putR key x ps = ps.take i ++ (key, x) :: ps.drop i))
  | 0, [], _, _, _ => .inr ⟨fun h => absurd h (by simp), by simp [putR]⟩
  | 0, p :: r, _, _, h1 => by
    have hf : ltS p.1 key = false := h1 (by simp)
    by_cases e : p.1 = key
    · exact .inl ⟨by simp, e, by rw [putR_eq e]; simp⟩
    · exact .inr ⟨fun _ => e, by rw [putR_gt hf e]; simp⟩
  | i + 1, [], h, _, _ => absurd h (by simp)
  | i + 1, p :: r, h, h0, h1 => by
    have hf : ltS p.1 key = true := h0 0 (by simp) (by omega)
    rcases putR_at key x i r (by simpa using h) (fun j hj hij => by have := h0 (j + 1) (by simpa using hj) (by omega); simpa using this) (fun hi => by have := h1 (by simpa using hi); simpa using this) with ⟨hi, e, hp⟩ | ⟨hn, hp⟩
    · exact .inl ⟨by simpa using hi, by simpa using e, by rw [putR_lt hf, hp]; simp⟩
    · exact .inr ⟨fun hi => by simpa using hn (by simpa using hi), by rw [putR_lt hf, hp]; simp⟩

/-- Where a pair goes. -/
theorem put_place (ps : List (ByteArray × T)) (key : ByteArray) (x : T) : ∃ i : Nat, i ≤ ps.length ∧ ((putIx ps key = -1 ∧ i = ps.length) ∨ (putIx ps key = i ∧ i < ps.length)) ∧
    ((∃ h : i < ps.length, ps[i].1 = key ∧ putR key x ps = ps.take i ++ (key, x) :: ps.drop (i + 1)) ∨ ((∀ h : i < ps.length, ps[i].1 ≠ key) ∧ putR key x ps = ps.take i ++ (key, x) :: ps.drop i)) := by
  cases hx : ps.findIdx? fun p => !ltS p.1 key with
  | none =>
    have h0 := List.findIdx?_eq_none_iff.1 hx
    refine ⟨ps.length, Nat.le_refl _, .inl ⟨by unfold putIx; rw [hx], rfl⟩, putR_at key x ps.length ps (Nat.le_refl _) (fun j h _ => by simpa using h0 ps[j] (List.getElem_mem h)) (fun h => absurd h (Nat.lt_irrefl _))⟩
  | some i =>
    obtain ⟨h1, h2, h3⟩ := List.findIdx?_eq_some_iff_getElem.1 hx
    refine ⟨i, by omega, .inr ⟨by unfold putIx; rw [hx], h1⟩, putR_at key x i ps (by omega) (fun j h hj => by simpa using h3 j hj) (fun h => by simpa using h2)⟩

theorem putR_len (key : ByteArray) (x : T) : ∀ ps : List (ByteArray × T), (putR key x ps).length ≤ ps.length + 1
  | [] => by simp [putR]
  | p :: r => by
    have := putR_len key x r
    rcases putR_cases p key with ⟨h, _⟩ | h | ⟨h, hn⟩
    · rw [putR_lt h]; simp; omega
    · rw [putR_eq h]; simp
    · rw [putR_gt h hn]; simp

theorem four_boxes {w w1 : World} {c1 c2 c3 c4 : Array Value} {t1 t2 t3 t4 : TypeId} {B : Nat} (h : Below B ((((w.alloc (.cells c1 t1)).alloc (.cells c2 t2)).alloc (.cells c3 t3)).alloc (.cells c4 t4)) w1) (hB : w.heap.size + 3 < B) :
    (∀ j, w1.cell? ⟨w.heap.size, j, none⟩ = c1[j]?) ∧ (∀ j, w1.cell? ⟨w.heap.size + 1, j, none⟩ = c2[j]?) ∧ (∀ j, w1.cell? ⟨w.heap.size + 2, j, none⟩ = c3[j]?) ∧ (∀ j, w1.cell? ⟨w.heap.size + 3, j, none⟩ = c4[j]?) ∧ (∀ j, w1.frozen? ⟨w.heap.size + 3, j, none⟩ = false) := by
  have e1 : w.heap.size + 1 = (w.alloc (.cells c1 t1)).heap.size := by simp
  have e2 : w.heap.size + 2 = ((w.alloc (.cells c1 t1)).alloc (.cells c2 t2)).heap.size := by simp
  have e3 : w.heap.size + 3 = (((w.alloc (.cells c1 t1)).alloc (.cells c2 t2)).alloc (.cells c3 t3)).heap.size := by simp
  refine ⟨fun j => ?_, fun j => ?_, fun j => ?_, fun j => ?_, fun j => ?_⟩
  · rw [h.cell (p := ⟨w.heap.size, j, none⟩) (by simp only; omega), World.cell?_alloc_lt _ _ _ (by simp <;> omega), World.cell?_alloc_lt _ _ _ (by simp <;> omega), World.cell?_alloc_lt _ _ _ (by simp), World.cell?_alloc_new]
  · rw [h.cell (p := ⟨w.heap.size + 1, j, none⟩) (by simp only; omega), World.cell?_alloc_lt _ _ _ (by simp <;> omega), World.cell?_alloc_lt _ _ _ (by simp), e1, World.cell?_alloc_new]
  · rw [h.cell (p := ⟨w.heap.size + 2, j, none⟩) (by simp only; omega), World.cell?_alloc_lt _ _ _ (by simp), e2, World.cell?_alloc_new]
  · rw [h.cell (p := ⟨w.heap.size + 3, j, none⟩) (by simp only; omega), e3, World.cell?_alloc_new]
  · rw [h.frozen (p := ⟨w.heap.size + 3, j, none⟩) (by simp only; omega), e3, World.frozen?_alloc_new]

theorem SliceP.take {w : World} {R : Nat → Prop} {ps : List (ByteArray × T)} {a : Option Addr} {cap : Nat} {cm : Nat → Array Value} (h : SliceP w R ps a cap cm) (i : Nat) (hi : i ≤ ps.length) : SliceP w R (ps.take i) a cap cm := by
  have e : (ps.take i).length = i := by simp; omega
  refine ⟨⟨by have := h.hdr.le; omega, by have := h.hdr.big; rw [e]; omega, h.hdr.none, fun hp => h.hdr.some (by omega), h.hdr.max⟩, fun j hj bl ol ea => ?_, fun j hj => ?_, fun j hj => ?_⟩
  · have := h.rows j (by omega) bl ol ea
    simpa using this
  · have := h.keys j (by omega)
    simpa using this
  · have := h.each j (by omega)
    simpa using this
theorem SliceP.drop {w : World} {R : Nat → Prop} {ps : List (ByteArray × T)} {a : Option Addr} {cap : Nat} {cm : Nat → Array Value} (h : SliceP w R ps a cap cm) (i : Nat) (hi : i ≤ ps.length) : SliceP w R (ps.drop i) (if cap = i then a else a.map (fun x => x.add (i * 7))) (cap - i) (fun j => cm (i + j)) := by
  have e : (ps.drop i).length = ps.length - i := by simp
  have h1 := h.hdr.le
  refine ⟨⟨by omega, by have := h.hdr.big; rw [e]; omega, fun hn => ?_, fun hp => ?_, by have := h.hdr.max; omega⟩, fun j hj bl ol ea => ?_, fun j hj => ?_, fun j hj => ?_⟩
  · by_cases hc : cap = i
    · omega
    · rw [if_neg hc] at hn
      have := h.hdr.none (by simpa using hn)
      omega
  · obtain ⟨b, o, ea, hR⟩ := h.hdr.some (by omega)
    rw [if_neg (by omega), ea, Option.map_some, Addr.add_lit]
    exact ⟨b, o + i * 7, rfl, hR⟩
  · obtain ⟨b, o, ea', hR⟩ := h.hdr.some (by omega)
    rw [if_neg (by omega), ea', Option.map_some, Addr.add_lit] at ea
    have e2 : (⟨b, o + i * 7, none⟩ : Addr) = ⟨bl, ol, none⟩ := Option.some.inj ea
    obtain ⟨rfl, rfl⟩ : b = bl ∧ o + i * 7 = ol := by simpa using e2
    have := h.rows (i + j) (by omega) b o ea'
    rw [show o + i * 7 + j * 7 = o + (i + j) * 7 by omega]
    simpa using this
  · have := h.keys (i + j) (by omega)
    simpa using this
  · have := h.each (i + j) (by omega)
    simpa using this

theorem one_box {w w1 : World} {cs : Array Value} {ty : TypeId} (h : Below (w.alloc (.cells cs ty)).heap.size (w.alloc (.cells cs ty)) w1) :
    (∀ j, w1.cell? ⟨w.heap.size, j, none⟩ = cs[j]?) ∧ (∀ j, w1.frozen? ⟨w.heap.size, j, none⟩ = false) :=
  ⟨fun j => by rw [h.cell (p := ⟨w.heap.size, j, none⟩) (by simp), World.cell?_alloc_new], fun j => by rw [h.frozen (p := ⟨w.heap.size, j, none⟩) (by simp), World.frozen?_alloc_new]⟩

theorem one_box_drew {w w1 : World} {cs : Array Value} {ty : TypeId} (h : Below (w.alloc (.cells cs ty)).drew.heap.size (w.alloc (.cells cs ty)).drew w1) :
    (∀ j, w1.cell? ⟨w.heap.size, j, none⟩ = cs[j]?) ∧ (∀ j, w1.frozen? ⟨w.heap.size, j, none⟩ = false) := one_box (undrew h)

theorem slice_one {a' : Option Addr} {q c' : Nat} (h : c' = 1) (f : Addr → Addr) : Value.slice a' (q - 1) 0 = Value.slice (if c' = 1 then a' else a'.map f) (q - 1) (c' - 1) := by subst h; rfl
theorem slice_more {a' : Option Addr} {q c' : Nat} (h : ¬ c' = 1) (f : Addr → Addr) : Value.slice (a'.map f) (q - 1) (c' - 1) = Value.slice (if c' = 1 then a' else a'.map f) (q - 1) (c' - 1) := by rw [if_neg h]

/-- One pair in a new block. -/
theorem one_pair {u : World} {R : Nat → Prop} {base : Nat} {x : T} {ds : Array Value} (h : Lies u R x ds) (key : ByteArray) (hkey : key.size ≤ 140737488355328) (hR : ∀ b, R b → base ≤ b) (hbase : base ≤ u.heap.size) :
    SliceP (u.alloc (.cells (#[Value.string key] ++ ds) 51)) (fun b => base ≤ b) [(key, x)] (some ⟨u.heap.size, 0, none⟩) 1 (fun _ => ds) := by
  refine ⟨⟨Nat.le_refl 1, by simp, by simp, fun _ => ⟨_, _, rfl, hbase⟩, by omega⟩, fun i hi bl ol e j hj => ?_, fun i hi => ?_, fun i hi => ?_⟩
  · simp only [Option.some.injEq, Addr.mk.injEq, and_true] at e
    obtain ⟨rfl, rfl⟩ := e
    obtain rfl : i = 0 := by simpa using hi
    rw [Nat.zero_mul, Nat.zero_add, World.cell?_alloc_new]
    exact Array.getElem?_eq_getElem hj
  · obtain rfl : i = 0 := by simpa using hi
    exact hkey
  · obtain rfl : i = 0 := by simpa using hi
    exact (h.later ((Below.refl _ _).alloc (Nat.le_refl _) _)).weaken hR

/-- Concat of three slices, the second of which is one pair. -/
theorem concat3_any {v : World} {base : Nat} {ps1 ps3 : List (ByteArray × T)} {q : ByteArray × T} {a1 a2 a3 : Option Addr} {c1 c2 c3 : Nat} {m1 m2 m3 : Nat → Array Value} (n1 n3 : Nat) (e1 : n1 = ps1.length) (e3 : n3 = ps3.length)
    (h1 : SliceP v (fun b => base ≤ b) ps1 a1 c1 m1) (h2 : SliceP v (fun b => base ≤ b) [q] a2 c2 m2) (h3 : SliceP v (fun b => base ≤ b) ps3 a3 c3 m3) (hbase : base ≤ v.heap.size) (hx : (ps1.length + 1 + ps3.length) * 104 ≤ 140737488355328) (gb : Nat) (hgb : gb = v.heap.size) :
    Calls Tryz.prog 142 #[.slice (some ⟨gb, 0, none⟩) 3 3] (v.alloc (.cells #[.slice a1 n1 c1, .slice a2 1 c2, .slice a3 n3 c3] 23)) (Joined (v.alloc (.cells #[.slice a1 n1 c1, .slice a2 1 c2, .slice a3 n3 c3] 23)) base (ps1 ++ q :: ps3)) := by
  subst e1 e3 hgb
  have hb := (Below.refl v.heap.size v).alloc (Nat.le_refl _) (.cells #[.slice a1 ps1.length c1, .slice a2 1 c2, .slice a3 ps3.length c3] 23)
  have hH : Heads (v.alloc (.cells #[.slice a1 ps1.length c1, .slice a2 1 c2, .slice a3 ps3.length c3] 23)) (v.alloc (.cells #[.slice a1 ps1.length c1, .slice a2 1 c2, .slice a3 ps3.length c3] 23)) base v.heap.size [ps1, [q], ps3] := by
    refine ⟨fun j hj => ?_, Below.refl _ _⟩
    have hj3 : j < 3 := hj
    rcases (by omega : j = 0 ∨ j = 1 ∨ j = 2) with rfl | rfl | rfl
    · exact ⟨a1, c1, m1, by rw [World.cell?_alloc_new]; rfl, h1.later hb⟩
    · exact ⟨a2, c2, m2, by rw [World.cell?_alloc_new]; rfl, h2.later hb⟩
    · exact ⟨a3, c3, m3, by rw [World.cell?_alloc_new]; rfl, h3.later hb⟩
  have hfl : ([ps1, [q], ps3] : List (List (ByteArray × T))).flatten = ps1 ++ q :: ps3 := by simp
  have := concat_any hH (by simp; omega) (by simp) (ps1.length + 1 + ps3.length) (by simp; omega) (by omega) hx
  rw [hfl] at this
  exact this

theorem wfp5 : (Lit.int .i64 5).wf = true := by decide
theorem wfp0 : (Lit.int .i64 0).wf = true := by decide
theorem empty_sp : (⟨#[]⟩ : ByteArray).size ≤ 140737488355328 := Nat.zero_le _
theorem empty_sVp (w : World) (R : Nat → Prop) : SliceV w R [] none 0 (fun _ => #[]) := ⟨⟨by simp, by simp, fun _ => rfl, fun hp => absurd hp (by simp), by omega⟩, fun i hi => absurd hi (by simp), fun i hi => absurd hi (by simp)⟩

/-- A number that is no variable. -/
def hidN (n : Nat) : Nat := n

def PutIn (w : World) (t : T) (e : Ending) (w' : World) : Prop := ∃ ds, e = .returned (.agg ds) ∧ Lies w' (fun b => w.heap.size ≤ b) t ds ∧ Below w.heap.size w w'

/-- .. a new map, whose array is its own. -/
def NewMap (w : World) (base : Nat) (ps : List (ByteArray × T)) (ds : Array Value) : Prop :=
  ∃ a cap dl, ds = #[.int .i64 5, .bool false, .int .i64 0, .string ⟨#[]⟩, .slice none 0 0, .slice a ps.length cap] ∧ SliceP w (fun b => base ≤ b) ps a cap dl ∧ OwnM w base ps a dl
def PutNew (w : World) (ps : List (ByteArray × T)) (e : Ending) (w' : World) : Prop := ∃ ds, e = .returned (.agg ds) ∧ NewMap w' w.heap.size ps ds ∧ Below w.heap.size w w'
theorem NewMap.lies {w : World} {base : Nat} {ps : List (ByteArray × T)} {ds : Array Value} (h : NewMap w base ps ds) : Lies w (fun b => base ≤ b) (.mk 5 false 0 ⟨#[]⟩ [] ps) ds := by
  obtain ⟨a, cap, dl, rfl, hS, _⟩ := h
  exact Lies.of_slices wfp5 wfp0 empty_sp (empty_sVp _ _) hS

set_option maxRecDepth 100000 in
set_option maxHeartbeats 16000000 in
theorem tPut_new {w0 : World} {R R2 : Nat → Prop} {t x : T} {cs es : Array Value} (h : Lies w0 R t cs) (hx : Lies w0 R2 x es) (key : ByteArray) (hkey : key.size ≤ 140737488355328) (hbig : (t.pairs.length + 1) * 104 ≤ 140737488355328) (w : World) (hw : Below w0.heap.size w0 w) :
    Calls Tryz.prog 118 #[.agg cs, .string key, .agg es] w (PutNew w (putR key x t.pairs)) := by
  obtain ⟨a, cap, cm, hP, hcall⟩ := node_pairs h
  have HC := Lib.hid hcall
  have HI := Lib.hid (indexPut_any hP key)
  have CX := Lib.hid (tClone_any hx)
  obtain ⟨i, hi, hix, hput⟩ := put_place t.pairs key x
  have HPL := Lib.hid hput
  have HPS := Lib.hid hP
  have hle := hP.hdr.le
  have hmax := hP.hdr.max
  have hnone := Lib.hid hP.hdr.none
  have hsome := Lib.hid hP.hdr.some
  obtain ⟨k, b, n, s, la, ll, lc, ma, ml, mc, rfl⟩ := h.six
  obtain ⟨k2, b2, n2, s2, la2, ll2, lc2, ma2, ml2, mc2, rfl⟩ := hx.six
  clear hcall hput hP
  go_enter Tryz.func118, Tryz.ntmps118
  go_wp2_with fail
  refine (HC.out _).mono ?_
  rintro e w1 ⟨rfl, hb1⟩
  obtain ⟨q0, q1, q2, q3, q4⟩ := four_boxes hb1 (by simp)
  have hA := bstep (((((Below.refl w.heap.size w).alloc (Nat.le_refl _) _).alloc (by simp) _).alloc (by simp; omega) _).alloc (by simp; omega) _) hb1 (by simp; omega)
  have hs1 : w.heap.size + 4 ≤ w1.heap.size := by have := hb1.size; simp at this; omega
  have k1 : w1.cell? ⟨w.heap.size + 1, 0, none⟩ = some (.string key) := q1 0
  have Q2 := Lib.hid q2
  have Q3 := Lib.hid q3
  have Q4 := Lib.hid q4
  clear q0 q1 q2 q3 q4 hb1
  go_wp2_with fail
  refine (HI.out (w.heap.size + 1) _ (bstep hw hA hw.size) k1).mono ?_
  rintro e w2 ⟨rfl, hb2⟩
  have hA2 := Lib.hid (bstep hA hb2 hA.size)
  have hs2 : w.heap.size + 4 ≤ w2.heap.size := by have := hb2.size; omega
  have k2c : w2.cell? ⟨w.heap.size + 1, 0, none⟩ = some (.string key) := cells_frame hb2 k1
  have Z2 : Hid (∀ j, w2.cell? ⟨w.heap.size + 2, j, none⟩ = _) := fun j => (hb2.cell (p := ⟨w.heap.size + 2, j, none⟩) (by simp only; omega)).trans (Q2.out j)
  have Z3 : Hid (∀ j, w2.cell? ⟨w.heap.size + 3, j, none⟩ = _) := fun j => (hb2.cell (p := ⟨w.heap.size + 3, j, none⟩) (by simp only; omega)).trans (Q3.out j)
  have Z4 : Hid (∀ j, w2.frozen? ⟨w.heap.size + 3, j, none⟩ = false) := fun j => (hb2.frozen (p := ⟨w.heap.size + 3, j, none⟩) (by simp only; omega)).trans (Q4.out j)
  clear Q2 Q3 Q4 k1 hb2 hA
  have HIX := Lib.hid hix
  go_upto_if 18 with fail
  go_cut [8] (fun v wx => v = .int .i64 i ∧ wx = w2)
  case first =>
    rcases hix with ⟨h1, h2⟩ | ⟨h1, h2⟩
    · subst h2
      rw [h1]
      clear h1
      go_wp2_with fail
      go_meet
      case rel => exact ⟨rfl, rfl⟩
    · rw [h1]
      have h3 : ((i : Int) < 0) = False := by simp
      clear h1 h2
      go_wp2_with fail
      go_meet
      case rel => exact ⟨rfl, rfl⟩
  case rest =>
    obtain ⟨rfl, rfl⟩ := hcut
    obtain ⟨w2, rfl⟩ : ∃ w2 : World, w2 = wc := ⟨_, rfl⟩
    clear hix
    go_upto_region 5 with fail
    go_cut [9, 10] (fun v9 v10 wx => v9 = .slice a i cap ∧ (∃ a' q c', v10 = .slice a' q (hidN c') ∧ Hid (q = t.pairs.length - i) ∧ Hid (SliceP w0 R (t.pairs.drop i) a' c' (fun j => cm (i + j)))) ∧ Below w2.heap.size w2 wx)
    case first =>
      go_quiet (fail)
      have HD := HPS.out.drop i hi
      generalize (if cap = i then a else Option.map (fun x => x.add (i * 7)) a) = a' at HD ⊢
      have HD := Lib.hid HD
      go_wp2_with fail
      go_meet
      case rel => exact ⟨rfl, ⟨_, _, _, rfl, rfl, HD.out⟩, bdrewN (Below.refl _ _) _⟩
    case rest =>
      obtain ⟨rfl, ⟨a', q, c', rfl, HQ, HD⟩, hb3⟩ := hcut
      obtain ⟨w3, rfl⟩ : ∃ w3 : World, w3 = wc := ⟨_, rfl⟩
      have k3c := cells_frame hb3 k2c
      go_upto_region 6 with fail
      go_cut [37] (fun v wx => (∃ d : Bool, v = .bool d ∧ Hid (d = true → ∃ h : i < t.pairs.length, t.pairs[i].1 = key) ∧ Hid (d = false → ∀ h : i < t.pairs.length, t.pairs[i].1 ≠ key)) ∧ Below w2.heap.size w2 wx)
      case first =>
        by_cases hin : i < t.pairs.length
        · have e0 : 0 < (t.pairs.drop i).length := by simp; omega
          have hle' := HD.out.hdr.le
          have elen : (t.pairs.drop i).length = t.pairs.length - i := by simp
          obtain ⟨bl, ol, c0, c1, c2, c3, c4, c4l, c4c, c5, c5l, c5c, rfl, hc, r0, _⟩ := openM (bstep (bstep hw hA2.out hw.size) hb3 (by have := hA2.out.size; have := hw.size; omega)) HD.out.hdr HD.out.rows e0 (HD.out.each 0 e0)
          have r0' : w3.cell? ⟨bl, ol, none⟩ = some (.string t.pairs[i].1) := by simpa using r0
          clear hc r0
          have f1 : 0 < q := by rw [HQ.out]; omega
          clear e0 elen
          by_cases hk : t.pairs[i].1 = key
          · have f2 : (t.pairs[i].1.toList == key.toList) = true := by rw [hk]; simp
            have HK := Lib.hid hk
            clear hk
            go_quiet (fail)
            go_wp2_with fail
            go_meet
            case rel => exact ⟨⟨true, rfl, fun _ => ⟨hin, HK.out⟩, fun h => (by cases h)⟩, bdrewN hb3 _⟩
          · have f2 := str_ne hk
            have HK := Lib.hid hk
            clear hk
            go_quiet (fail)
            go_wp2_with fail
            go_meet
            case rel => exact ⟨⟨false, rfl, fun h => (by cases h), fun _ _ => HK.out⟩, bdrewN hb3 _⟩
        · have f1 : decide (0 < q) = false := by rw [HQ.out]; simp; omega
          go_quiet (fail)
          go_wp2_with fail
          go_meet
          case rel => exact ⟨⟨false, rfl, fun h => (by cases h), fun _ h => absurd h hin⟩, bdrewN hb3 _⟩
      case rest =>
        obtain ⟨⟨d, rfl, hd1, hd2⟩, hb4⟩ := hcut
        obtain ⟨w4, rfl⟩ : ∃ w4 : World, w4 = wc := ⟨_, rfl⟩
        clear hb3 k3c
        go_upto_if 37 with fail
        go_cut [10] (fun v wx => ∃ (B : List (ByteArray × T)) (a3 : Option Addr) (c3 : Nat) (cm3 : Nat → Array Value), v = .slice a3 B.length c3 ∧ Hid (SliceP w0 R B a3 c3 cm3) ∧ Hid (putR key x t.pairs = t.pairs.take i ++ (key, x) :: B) ∧ wx = w4)
        case first =>
          cases d with
          | true =>
            obtain ⟨hin, hk⟩ := hd1.out rfl
            have HD2 := HD.out.drop 1 (by simp; omega)
            have elen : ((t.pairs.drop i).drop 1).length = q - 1 := by rw [HQ.out]; simp; omega
            have hP1 : putR key x t.pairs = t.pairs.take i ++ (key, x) :: (t.pairs.drop i).drop 1 := by
              rcases HPL.out with ⟨_, _, h⟩ | ⟨h, _⟩
              · rw [h]; simp
              · exact absurd hk (h hin)
            have f1 : 1 ≤ q := by rw [HQ.out]; omega
            have f2 : q ≤ c' := by have := HD.out.hdr.le; rw [HQ.out]; simpa using this
            have f3 : q ≤ hidN c' := f2
            have HP1 := Lib.hid hP1
            have HE := Lib.hid elen
            have HD2' := Lib.hid HD2
            clear hP1 elen hk hin f2 HD2
            go_wp2_with fail
            all_goals
              go_meet
              case rel => exact ⟨_, _, _, _, by rw [HE.out]; first | exact slice_one (show c' = 1 by assumption) _ | exact slice_more (show ¬ c' = 1 by assumption) _, HD2'.out, HP1.out, rfl⟩
          | false =>
            have hP1 : putR key x t.pairs = t.pairs.take i ++ (key, x) :: t.pairs.drop i := by
              rcases HPL.out with ⟨h1, h2, _⟩ | ⟨_, h⟩
              · exact absurd h2 (hd2.out rfl h1)
              · exact h
            have HP1 := Lib.hid hP1
            clear hP1
            go_wp2_with fail
            go_meet
            case rel => exact ⟨List.drop i t.pairs, a', c', _, by rw [HQ.out, List.length_drop]; rfl, HD.out, HP1.out, rfl⟩
        case rest =>
          obtain ⟨B, a3, c3, cm3, rfl, HS3, HPB, rfl⟩ := hcut
          obtain ⟨w4, rfl⟩ : ∃ w4 : World, w4 = wc := ⟨_, rfl⟩
          have k4c := cells_frame hb4 k2c
          have hsz4 := hb4.size
          have X4 : ∀ j, w4.cell? ⟨w.heap.size + 2, j, none⟩ = _ := fun j => (hb4.cell (p := ⟨w.heap.size + 2, j, none⟩) (by simp only; omega)).trans (Z2.out j)
          have x0 := X4 0
          have x1 := X4 1
          have x2 := X4 2
          have x3 := X4 3
          have x4 := X4 4
          have x5 := X4 5
          simp at x0 x1 x2 x3 x4 x5
          have hA4 := bstep hA2.out hb4 hA2.out.size
          have hW4 := Lib.hid (bstep hw hA4 hw.size)
          clear X4
          have hZ := (Below.refl w4.heap.size w4).alloc (Nat.le_refl _) (.cells #[.string ⟨#[]⟩, .int .i64 0, .bool false, .int .i64 0, .string ⟨#[]⟩, .slice none 0 0, .slice none 0 0] 51)
          have kz := cells_frame hZ k4c
          have xz0 := cells_frame hZ x0
          have xz1 := cells_frame hZ x1
          have xz2 := cells_frame hZ x2
          have xz3 := cells_frame hZ x3
          have xz4 := cells_frame hZ x4
          have xz5 := cells_frame hZ x5
          go_upto_region 8 with fail
          go_cut [11] (fun v wx => ∃ (g : Nat) (ds : Array Value), v = .pointer (some ⟨g, 0, none⟩) ∧ Hid (Lies wx (fun b => w.heap.size + 4 ≤ b) x ds) ∧ Hid (∀ j, j < 7 → wx.cell? ⟨g, j, none⟩ = (#[Value.string key] ++ ds)[j]?) ∧ w.heap.size + 4 ≤ g ∧ Below w4.heap.size w4 wx)
          case first =>
            go_region_with (go_at_call 52; refine (CX.out _ (by first | exact hW4.out.drew | exact (bbox hW4.out _ hW4.out.size).drew)).mono ?_; rintro e w5 ⟨ds, rfl, hL, hb5⟩; obtain ⟨d0, d1, d2, d3, d4, d4l, d4c, d5, d5l, d5c, rfl⟩ := hL.six; first | (change Below (World.drew (World.alloc w4 (.cells _ _))).heap.size (World.drew (World.alloc w4 (.cells _ _))) _ at hb5; obtain ⟨y1, y2⟩ := one_box_drew hb5; have k5 := cells_frame (undrew hb5) kz) | have k5 := cells_frame (undrew hb5) k4c; have k6 := cells_frame ((Below.refl w5.heap.size w5).alloc (Nat.le_refl _) (.cells #[.string ⟨#[]⟩, .int .i64 0, .bool false, .int .i64 0, .string ⟨#[]⟩, .slice none 0 0, .slice none 0 0] 51)) k5)
            all_goals first
              | (
                   have hy := y1
                   have hsz5 := hb5.size
                   simp only [World.size_drew, World.size_alloc] at hsz5
                   have hb6 := setRow_below (A := w4.heap.size) w4.heap.size (Nat.le_refl _) [.string key, .int .i64 d0, .bool d1, .int .i64 d2, .string d3, .slice d4 d4l d4c, .slice d5 d5l d5c] w5 0 (bunbox (undrew hb5) (Nat.le_refl _) (by simp))
                   have hL2 : Lies (setRow w5 w4.heap.size 0 [.string key, .int .i64 d0, .bool d1, .int .i64 d2, .string d3, .slice d4 d4l d4c, .slice d5 d5l d5c]) (fun b => w.heap.size + 4 ≤ b) x #[.int .i64 d0, .bool d1, .int .i64 d2, .string d3, .slice d4 d4l d4c, .slice d5 d5l d5c] := (hL.keep (fun b hb => setRow_heap _ _ _ _ _ (by simp only [World.size_drew, World.size_alloc] at hb; omega))).weaken (fun b hb => by simp only [World.size_drew, World.size_alloc] at hb; omega)
                   have hC : ∀ j, j < 7 → (setRow w5 w4.heap.size 0 [.string key, .int .i64 d0, .bool d1, .int .i64 d2, .string d3, .slice d4 d4l d4c, .slice d5 d5l d5c]).cell? ⟨w4.heap.size, j, none⟩ = (#[Value.string key] ++ #[.int .i64 d0, .bool d1, .int .i64 d2, .string d3, .slice d4 d4l d4c, .slice d5 d5l d5c])[j]? := fun j hj => by
                     have := setRow_cell w4.heap.size [.string key, .int .i64 d0, .bool d1, .int .i64 d2, .string d3, .slice d4 d4l d4c, .slice d5 d5l d5c] w5 0 (fun i hi => ⟨_, by rw [Nat.zero_add, y1 i]; exact Array.getElem?_eq_getElem (show i < 7 from hi)⟩) j hj
                     rw [Nat.zero_add] at this
                     rw [this]
                     rcases (by omega : j = 0 ∨ j = 1 ∨ j = 2 ∨ j = 3 ∨ j = 4 ∨ j = 5 ∨ j = 6) with rfl | rfl | rfl | rfl | rfl | rfl | rfl <;> rfl
                   have HL := Lib.hid hL2
                   have HB6 := Lib.hid hb6
                   have HC6 := Lib.hid hC
                   clear hb6 hL hL2 hC y1 y2
                   go_wp2_with fail
                   go_meet
                   case rel => exact ⟨w4.heap.size, #[.int .i64 d0, .bool d1, .int .i64 d2, .string d3, .slice d4 d4l d4c, .slice d5 d5l d5c], rfl, HL.out, HC6.out, by omega, HB6.out⟩)
              | (
                   have hsz5 := hb5.size
                   simp only [World.size_drew] at hsz5
                   have hb6 := (undrew hb5).alloc (by simp; omega) (.cells #[.string key, .int .i64 d0, .bool d1, .int .i64 d2, .string d3, .slice d4 d4l d4c, .slice d5 d5l d5c] 51)
                   have HL := Lib.hid hL
                   have HB6 := Lib.hid hb6
                   clear hb6 hL
                   go_wp2_with fail
                   go_meet
                   case rel => exact ⟨w5.heap.size, #[.int .i64 d0, .bool d1, .int .i64 d2, .string d3, .slice d4 d4l d4c, .slice d5 d5l d5c], rfl, (HL.out.later ((Below.refl _ _).alloc (Nat.le_refl _) _)).weaken (fun b hb => by simp only [World.size_drew] at hb; omega), fun j hj => by rw [World.cell?_alloc_new]; rfl, by omega, HB6.out⟩)
          case rest =>
            obtain ⟨g, ds, rfl, HLX, HCX, hgl, hb6⟩ := hcut
            obtain ⟨w6, rfl⟩ : ∃ w6 : World, w6 = wc := ⟨_, rfl⟩
            have hds := HLX.out.six
            obtain ⟨d0, d1, d2, d3, d4, d4l, d4c, d5, d5l, d5c, rfl⟩ := hds
            have hW6 := Lib.hid (bstep hW4.out hb6 (by have := hW4.out.size; omega))
            have hA6 := Lib.hid (bstep hA4 hb6 hA4.size)
            have g0 : w6.cell? ⟨g, 0, none⟩ = some (.string key) := HCX.out 0 (by omega)
            have g1 : w6.cell? ⟨g, 1, none⟩ = some (.int .i64 d0) := HCX.out 1 (by omega)
            have g2 : w6.cell? ⟨g, 2, none⟩ = some (.bool d1) := HCX.out 2 (by omega)
            have g3 : w6.cell? ⟨g, 3, none⟩ = some (.int .i64 d2) := HCX.out 3 (by omega)
            have g4 : w6.cell? ⟨g, 4, none⟩ = some (.string d3) := HCX.out 4 (by omega)
            have g5 : w6.cell? ⟨g, 5, none⟩ = some (.slice d4 d4l d4c) := HCX.out 5 (by omega)
            have g6 : w6.cell? ⟨g, 6, none⟩ = some (.slice d5 d5l d5c) := HCX.out 6 (by omega)
            clear kz xz0 xz1 xz2 xz3 xz4 xz5 x0 x1 x2 x3 x4 x5 k4c hA4 hZ
            have hs6 : w.heap.size + 4 ≤ w6.heap.size := by have := hb6.size; omega
            have hlenA : (t.pairs.take i).length = i := by rw [List.length_take]; omega
            have hsumB : i + 1 + B.length ≤ t.pairs.length + 1 := by
              have h1 := congrArg List.length HPB.out
              have h2 := putR_len key x t.pairs
              rw [h1] at h2
              simp [hlenA] at h2
              omega
            have CA : Hid (∀ w, Below w0.heap.size w0 w → Calls Tryz.prog 73 #[.slice a i cap] w (ClonedM w (t.pairs.take i))) := fun w hw => by
              have := clonePairs_any (HPS.out.take i hi) (fun j p w hw => tClone_any ((HPS.out.take i hi).each j p) w hw) w hw
              rw [hlenA] at this
              exact this
            have CB : Hid (∀ w, Below w0.heap.size w0 w → Calls Tryz.prog 73 #[.slice a3 B.length c3] w (ClonedM w B)) := fun w hw => clonePairs_any HS3.out (fun j p w hw => tClone_any (HS3.out.each j p) w hw) w hw
            have HLA := Lib.hid hlenA
            have HSB := Lib.hid hsumB
            clear hlenA hsumB
            have SK : Hid (∀ wx : World, Below w6.heap.size w6 wx → wx.cell? ⟨g, 0, none⟩ = some (.string key) ∧ wx.cell? ⟨g, 1, none⟩ = some (.int .i64 d0) ∧ wx.cell? ⟨g, 2, none⟩ = some (.bool d1) ∧ wx.cell? ⟨g, 3, none⟩ = some (.int .i64 d2) ∧ wx.cell? ⟨g, 4, none⟩ = some (.string d3) ∧ wx.cell? ⟨g, 5, none⟩ = some (.slice d4 d4l d4c) ∧ wx.cell? ⟨g, 6, none⟩ = some (.slice d5 d5l d5c)) :=
              fun wx hx => ⟨cells_frame hx g0, cells_frame hx g1, cells_frame hx g2, cells_frame hx g3, cells_frame hx g4, cells_frame hx g5, cells_frame hx g6⟩
            have hgne : g ≠ w.heap.size + 3 := by omega
            have SKC : ∀ (wx : World) (v0 v1 v2 v3 v4 v5 : Value) (j : Nat), ((((((wx.setCell ⟨w.heap.size + 1 + 1 + 1, 0, none⟩ v0).setCell ⟨w.heap.size + 1 + 1 + 1, 1, none⟩ v1).setCell ⟨w.heap.size + 1 + 1 + 1, 2, none⟩ v2).setCell ⟨w.heap.size + 1 + 1 + 1, 3, none⟩ v3).setCell ⟨w.heap.size + 1 + 1 + 1, 4, none⟩ v4).setCell ⟨w.heap.size + 1 + 1 + 1, 5, none⟩ v5).cell? ⟨g, j, none⟩ = wx.cell? ⟨g, j, none⟩ := fun wx v0 v1 v2 v3 v4 v5 j => by
              rw [World.cell?_setCell_other _ _ _ _ (by intro e; have := congrArg Addr.block e; simp only at this; omega), World.cell?_setCell_other _ _ _ _ (by intro e; have := congrArg Addr.block e; simp only at this; omega), World.cell?_setCell_other _ _ _ _ (by intro e; have := congrArg Addr.block e; simp only at this; omega), World.cell?_setCell_other _ _ _ _ (by intro e; have := congrArg Addr.block e; simp only at this; omega), World.cell?_setCell_other _ _ _ _ (by intro e; have := congrArg Addr.block e; simp only at this; omega), World.cell?_setCell_other _ _ _ _ (by intro e; have := congrArg Addr.block e; simp only at this; omega)]
            have SK2 : Hid (∀ (wx : World) (v0 v1 v2 v3 v4 v5 : Value), wx.cell? ⟨g, 0, none⟩ = some (.string key) ∧ wx.cell? ⟨g, 1, none⟩ = some (.int .i64 d0) ∧ wx.cell? ⟨g, 2, none⟩ = some (.bool d1) ∧ wx.cell? ⟨g, 3, none⟩ = some (.int .i64 d2) ∧ wx.cell? ⟨g, 4, none⟩ = some (.string d3) ∧ wx.cell? ⟨g, 5, none⟩ = some (.slice d4 d4l d4c) ∧ wx.cell? ⟨g, 6, none⟩ = some (.slice d5 d5l d5c) → ((((((wx.setCell ⟨w.heap.size + 1 + 1 + 1, 0, none⟩ v0).setCell ⟨w.heap.size + 1 + 1 + 1, 1, none⟩ v1).setCell ⟨w.heap.size + 1 + 1 + 1, 2, none⟩ v2).setCell ⟨w.heap.size + 1 + 1 + 1, 3, none⟩ v3).setCell ⟨w.heap.size + 1 + 1 + 1, 4, none⟩ v4).setCell ⟨w.heap.size + 1 + 1 + 1, 5, none⟩ v5).cell? ⟨g, 0, none⟩ = some (.string key) ∧ ((((((wx.setCell ⟨w.heap.size + 1 + 1 + 1, 0, none⟩ v0).setCell ⟨w.heap.size + 1 + 1 + 1, 1, none⟩ v1).setCell ⟨w.heap.size + 1 + 1 + 1, 2, none⟩ v2).setCell ⟨w.heap.size + 1 + 1 + 1, 3, none⟩ v3).setCell ⟨w.heap.size + 1 + 1 + 1, 4, none⟩ v4).setCell ⟨w.heap.size + 1 + 1 + 1, 5, none⟩ v5).cell? ⟨g, 1, none⟩ = some (.int .i64 d0) ∧ ((((((wx.setCell ⟨w.heap.size + 1 + 1 + 1, 0, none⟩ v0).setCell ⟨w.heap.size + 1 + 1 + 1, 1, none⟩ v1).setCell ⟨w.heap.size + 1 + 1 + 1, 2, none⟩ v2).setCell ⟨w.heap.size + 1 + 1 + 1, 3, none⟩ v3).setCell ⟨w.heap.size + 1 + 1 + 1, 4, none⟩ v4).setCell ⟨w.heap.size + 1 + 1 + 1, 5, none⟩ v5).cell? ⟨g, 2, none⟩ = some (.bool d1) ∧ ((((((wx.setCell ⟨w.heap.size + 1 + 1 + 1, 0, none⟩ v0).setCell ⟨w.heap.size + 1 + 1 + 1, 1, none⟩ v1).setCell ⟨w.heap.size + 1 + 1 + 1, 2, none⟩ v2).setCell ⟨w.heap.size + 1 + 1 + 1, 3, none⟩ v3).setCell ⟨w.heap.size + 1 + 1 + 1, 4, none⟩ v4).setCell ⟨w.heap.size + 1 + 1 + 1, 5, none⟩ v5).cell? ⟨g, 3, none⟩ = some (.int .i64 d2) ∧ ((((((wx.setCell ⟨w.heap.size + 1 + 1 + 1, 0, none⟩ v0).setCell ⟨w.heap.size + 1 + 1 + 1, 1, none⟩ v1).setCell ⟨w.heap.size + 1 + 1 + 1, 2, none⟩ v2).setCell ⟨w.heap.size + 1 + 1 + 1, 3, none⟩ v3).setCell ⟨w.heap.size + 1 + 1 + 1, 4, none⟩ v4).setCell ⟨w.heap.size + 1 + 1 + 1, 5, none⟩ v5).cell? ⟨g, 4, none⟩ = some (.string d3) ∧ ((((((wx.setCell ⟨w.heap.size + 1 + 1 + 1, 0, none⟩ v0).setCell ⟨w.heap.size + 1 + 1 + 1, 1, none⟩ v1).setCell ⟨w.heap.size + 1 + 1 + 1, 2, none⟩ v2).setCell ⟨w.heap.size + 1 + 1 + 1, 3, none⟩ v3).setCell ⟨w.heap.size + 1 + 1 + 1, 4, none⟩ v4).setCell ⟨w.heap.size + 1 + 1 + 1, 5, none⟩ v5).cell? ⟨g, 5, none⟩ = some (.slice d4 d4l d4c) ∧ ((((((wx.setCell ⟨w.heap.size + 1 + 1 + 1, 0, none⟩ v0).setCell ⟨w.heap.size + 1 + 1 + 1, 1, none⟩ v1).setCell ⟨w.heap.size + 1 + 1 + 1, 2, none⟩ v2).setCell ⟨w.heap.size + 1 + 1 + 1, 3, none⟩ v3).setCell ⟨w.heap.size + 1 + 1 + 1, 4, none⟩ v4).setCell ⟨w.heap.size + 1 + 1 + 1, 5, none⟩ v5).cell? ⟨g, 6, none⟩ = some (.slice d5 d5l d5c)) := fun wx v0 v1 v2 v3 v4 v5 h => by
              simp only [SKC]
              exact h
            clear SKC
            clear g0 g1 g2 g3 g4 g5 g6
            go_upto_region 9 with fail
            go_region_held3 (fun wx : World => wx.cell? ⟨g, 0, none⟩ = some (.string key) ∧ wx.cell? ⟨g, 1, none⟩ = some (.int .i64 d0) ∧ wx.cell? ⟨g, 2, none⟩ = some (.bool d1) ∧ wx.cell? ⟨g, 3, none⟩ = some (.int .i64 d2) ∧ wx.cell? ⟨g, 4, none⟩ = some (.string d3) ∧ wx.cell? ⟨g, 5, none⟩ = some (.slice d4 d4l d4c) ∧ wx.cell? ⟨g, 6, none⟩ = some (.slice d5 d5l d5c))
              (first
                | with_reducible exact SK2.out _ _ _ _ _ _ _ (SK.out _ hV9)
                | with_reducible exact SK.out _ (Below.refl _ _).drew
                | with_reducible exact SK.out _ (bbox (Below.refl _ _) _ (Nat.le_refl _)).drew
                | with_reducible exact SK.out _ hV9
                | with_reducible exact SK.out _ (bbox hV68.out _ (by first | exact hV68.out.size | (have := hV68.out.size; simp only [World.size_alloc]; omega)))
                | with_reducible exact SK.out _ (bbox (bbox hV68.out _ hV68.out.size) _ (by have := hV68.out.size; simp only [World.size_alloc]; omega))
                | with_reducible exact SK.out _ hV68.out
                | with_reducible exact SK.out _ (bbox hV7 _ hV7.size)
                | with_reducible exact SK.out _ hV7)
              (first
              | (go_at_call 73
                 first
                 | (have hy := hT7
                    refine (CB.out _ (by first | exact hX7 | exact bbox hX7 _ hX7.size)).mono ?_
                    rintro e w8 ⟨a8, c8, dl8, rfl, hS8, hb8⟩
                    have hV8 : Below w7.heap.size w7 w8 := by first | exact hb8 | exact bunbox hb8 (Nat.le_refl _) (by simp)
                    have hs8 := hV8.size
                    have hT8 := Lib.hid (hS8.weaken (R' := fun b => w.heap.size + 4 ≤ b) (fun b hb => by (try simp only [World.size_alloc] at hb); omega))
                    have hU8 := Lib.hid (hT7.out.later hV8)
                    have hV68 := Lib.hid (bstep hV7 hV8 hV7.size)
                    clear hS8)
                 | (refine (CA.out _ (by first | exact hW6.out.drew | exact (bbox hW6.out _ hW6.out.size).drew)).mono ?_
                    rintro e w7 ⟨a7, c7, dl7, rfl, hS7, hb7⟩
                    have hV7 : Below w6.heap.size w6 w7 := by first | exact undrew hb7 | exact bunbox (undrew hb7) (Nat.le_refl _) (by simp)
                    have hX7 := bstep hW6.out hV7 hW6.out.size
                    have hs7 := hV7.size
                    have hT7 := Lib.hid (hS7.weaken (R' := fun b => w.heap.size + 4 ≤ b) (fun b hb => by simp only [World.size_drew, World.size_alloc] at hb; omega))
                    clear hS7))
              | (go_at_call 142
                 first
                 | refine (concat3_any (v := w8.alloc (.cells #[.string key, .int .i64 d0, .bool d1, .int .i64 d2, .string d3, .slice d4 d4l d4c, .slice d5 d5l d5c] 51)) i B.length HLA.out.symm rfl (hU8.out.later ((Below.refl _ _).alloc (Nat.le_refl _) _))
                     (one_pair ((HLX.out.later hV7).later hV8) key hkey (fun _ h => h) (by omega))
                     (hT8.out.later ((Below.refl _ _).alloc (Nat.le_refl _) _)) (by simp only [World.size_alloc]; omega) (by have := HSB.out; rw [HLA.out]; omega) _ (by simp only [World.size_alloc])).mono ?_
                 | refine (concat3_any (v := w8) i B.length HLA.out.symm rfl hU8.out
                     (by first
                       | exact (one_pair (HLX.out.later hV7) key hkey (fun _ h => h) (by omega)).later hb8
                       | exact ((one_pair HLX.out key hkey (fun _ h => h) hs6).later (undrew hb7)).later hb8)
                     hT8.out (by omega) (by have := HSB.out; rw [HLA.out]; omega) _ rfl).mono ?_
                 rintro e w9 ⟨a9, c9, dl9, rfl, hS9, hb9, hM9⟩
                 have hV89 : Below w8.heap.size w8 w9 := by first | exact bunbox hb9 (Nat.le_refl _) (by simp) | exact bunbox (bunbox hb9 (Nat.le_refl _) (by simp)) (Nat.le_refl _) (by simp)
                 have hs9 := hV89.size
                 have hV9 := bstep hV68.out hV89 hV68.out.size
                 have hF : Below w2.heap.size w2 w9 := bstep (bstep hb4 hb6 hb4.size) hV9 (by have := hb4.size; have := hb6.size; omega)
                 have y3 : ∀ j, w9.cell? ⟨w.heap.size + 1 + 1 + 1, j, none⟩ = _ := fun j => (hF.cell (p := ⟨w.heap.size + 3, j, none⟩) (by simp only; omega)).trans (Z3.out j)
                 have y4 : ∀ j, w9.frozen? ⟨w.heap.size + 1 + 1 + 1, j, none⟩ = false := fun j => (hF.frozen (p := ⟨w.heap.size + 3, j, none⟩) (by simp only; omega)).trans (Z4.out j)
                 have x0 : w9.cell? ⟨w.heap.size + 1 + 1 + 1, 0, none⟩ = some (.int .i64 0) := y3 0
                 have x1 : w9.cell? ⟨w.heap.size + 1 + 1 + 1, 1, none⟩ = some (.bool false) := y3 1
                 have x2 : w9.cell? ⟨w.heap.size + 1 + 1 + 1, 2, none⟩ = some (.int .i64 0) := y3 2
                 have x3 : w9.cell? ⟨w.heap.size + 1 + 1 + 1, 3, none⟩ = some (.string ⟨#[]⟩) := y3 3
                 have x4 : w9.cell? ⟨w.heap.size + 1 + 1 + 1, 4, none⟩ = some (.slice none 0 0) := y3 4
                 have x5 : w9.cell? ⟨w.heap.size + 1 + 1 + 1, 5, none⟩ = some (.slice none 0 0) := y3 5
                 have Y3 := Lib.hid y3
                 clear y3
                 rw [← HPB.out] at hS9 hM9
                 have HS9 := Lib.hid hS9
                 have HM9 := Lib.hid (hM9.lower (base' := w.heap.size + 4) (by omega))
                 have HF := Lib.hid hF
                 clear hS9 hF hM9))
            all_goals
              have HLN : Hid ((putR key x t.pairs).length = i + (B.length + 1)) := by
                show _ = _
                rw [HPB.out, List.length_append, HLA.out, List.length_cons]
              go_wp2_with fail
              obtain ⟨dd, hu, hdd⟩ := Tryz.structV
              refine ret_cells w9 (w.heap.size + 3) [.int .i64 5, .bool false, .int .i64 0, .string ⟨#[]⟩, .slice none 0 0, .slice a9 (i + (B.length + 1)) c9] rfl Tryz.results118 rfl rfl hdd hu Tryz.sizeV (fun i hi => ⟨_, (Y3.out i).trans (Array.getElem?_eq_getElem (show i < 6 from hi))⟩) ?_
              rw [← HLN.out]
              refine ⟨_, rfl, ⟨a9, c9, _, rfl, (HS9.out.keepB (fun x hx _ => ?_)).weaken (fun x hx => ?_), (HM9.out.keep (by rw [setRow_size]; exact Nat.le_refl _) (fun x hx _ => ?_)).lower (by omega)⟩, setRow_below _ (by omega) _ _ _ (bstep hA6.out hV9 (by omega))⟩
              · exact setRow_heap _ _ _ _ _ (by omega)
              · omega
              · exact setRow_heap _ _ _ _ _ (by omega)

end Go.Proofs.YtlniokpekcoodaaGreatDoor
