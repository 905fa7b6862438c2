/-
  The reference's Put.
-/
import Derived.Test.YtfmlhdkodnbfaaaPathCM
import Derived.Test.YtfmlhdkodnbfaaaPathF
set_option linter.unusedVariables false
set_option linter.unusedSimpArgs false
namespace Go.Proofs.Ytfmlhdkodnbfaaa
open Go.RowKit Go.Sort

/-- Pairs with one laid among them, as the reference goes through them. -/
def rputG (key : ByteArray) (x : T) : Bool → Prs → Prs
  | laid, [] => if laid = true then [] else [(key, x)]
  | laid, p :: r => (if ltS p.1 key = false ∧ laid = false then [(key, x)] else []) ++ ((if p.1 = key then [] else [p]) ++ rputG key x (laid || !ltS p.1 key) r)
theorem rputG_true {key : ByteArray} (x : T) : ∀ {m : Prs}, (∀ q ∈ m, q.1 ≠ key) → rputG key x true m = m
  | [], _ => rfl
  | p :: r, h => by
    rw [rputG, if_neg (by simp), if_neg (h p (by simp)), Bool.true_or, rputG_true x fun q hq => h q (by simp [hq])]
    rfl
theorem rputG_put (key : ByteArray) (x : T) : ∀ {m : Prs}, Asc m → rputG key x false m = putR key x m
  | [], _ => rfl
  | p :: r, h => by
    rcases putR_cases p key with ⟨hl, hn⟩ | he | ⟨hl, hn⟩
    · rw [putR_lt hl, rputG, if_neg (by simp [hl]), if_neg hn, hl]
      show [] ++ ([p] ++ rputG key x false r) = _
      rw [rputG_put key x h.tail]
      rfl
    · have hl : ltS p.1 key = false := by rw [he, ltS_irr]
      rw [putR_eq he, rputG, if_pos ⟨hl, rfl⟩, if_pos he, hl]
      show [(key, x)] ++ ([] ++ rputG key x true r) = _
      rw [rputG_true x fun q hq e => by have := h.head q hq; rw [e, he, ltS_irr] at this; cases this]
      rfl
    · rw [putR_gt hl hn, rputG, if_pos ⟨hl, rfl⟩, if_neg hn, hl]
      show [(key, x)] ++ ([p] ++ rputG key x true r) = _
      rw [rputG_true x fun q hq e => by have := ltS_trans (ltS_total hl hn) (h.head q hq); rw [e, ltS_irr] at this; cases this]
      rfl
theorem drop_cons {α : Type} (l : List α) (j : Nat) (h : j < l.length) : l.drop j = l[j] :: l.drop (j + 1) := List.drop_eq_getElem_cons h
theorem rputG_next (key : ByteArray) (x : T) (laid : Bool) (m : Prs) (j : Nat) (hj : j < m.length) : rputG key x laid (m.drop j) = (if ltS m[j].1 key = false ∧ laid = false then [(key, x)] else []) ++ ((if m[j].1 = key then [] else [m[j]]) ++ rputG key x (laid || !ltS m[j].1 key) (m.drop (j + 1))) := by
  rw [drop_cons m j hj, rputG]

/-- A slice of pairs of one's own, whose values go through such blocks, but not through this one. -/
structure OwnW (S : Nat → Prop) (ex : Nat) (w : World) (v : Value) (K : List Q) : Prop where
  own : w.ownsRow (ex + 1) 51 7 v K.length (flatQ K)
  each : ∀ i (h : i < K.length), Lies w (fun b => S b ∧ b < w.heap.size ∧ v.ownBlock ≠ some b ∧ b ≠ ex) K[i].2.1 K[i].2.2
  keys : ∀ i (h : i < K.length), K[i].1.size ≤ 140737488355328
theorem OwnW.nil (S : Nat → Prop) (ex : Nat) (w : World) : OwnW S ex w (.slice none 0 0) [] := ⟨World.ownsRow_nil w (ex + 1) 51 7, fun i h => absurd h (by simp), fun i h => absurd h (by simp)⟩
theorem OwnW.block {S : Nat → Prop} {ex : Nat} {w : World} {v : Value} {K : List Q} (h : OwnW S ex w v K) {g : Nat} (hg : v.ownBlock = some g) : ex < g ∧ g < w.heap.size := by
  rcases h.own.2 with ⟨e, hn⟩ | ⟨g', cap, cur, e, hb, hg', _⟩
  · rw [e] at hg; cases hg
  · rw [e] at hg
    obtain rfl : g' = g := by injection hg
    exact ⟨hb, (Array.getElem?_eq_some_iff.1 hg').1⟩
/-- What keeps all but one block. -/
theorem OwnW.keep {S : Nat → Prop} {ex : Nat} {w w' : World} {v : Value} {K : List Q} (h : OwnW S ex w v K) (hb : ∀ b, b < w.heap.size → b ≠ ex → w'.heap[b]? = w.heap[b]?) (hs : w.heap.size ≤ w'.heap.size) : OwnW S ex w' v K := by
  refine ⟨⟨h.own.1, ?_⟩, fun i hi => ((h.each i hi).keepB (fun b hR hlt => hb b hlt hR.2.2.2)).weaken fun b hb' => ⟨hb'.1.1, by have := hb'.1.2.1; omega, hb'.1.2.2.1, hb'.1.2.2.2⟩, h.keys⟩
  rcases h.own.2 with h1 | ⟨g, cap, cur, e, hbg, hg, hr⟩
  · exact .inl h1
  · exact .inr ⟨g, cap, cur, e, hbg, by rw [hb g (Array.getElem?_eq_some_iff.1 hg).1 (by omega)]; exact hg, hr⟩
theorem OwnW.later {S : Nat → Prop} {ex : Nat} {w w' : World} {v : Value} {K : List Q} (h : OwnW S ex w v K) (hb : Below w.heap.size w w') : OwnW S ex w' v K := h.keep (fun b hlt _ => hb.block b hlt) hb.size
theorem OwnW.step {S : Nat → Prop} {ex : Nat} {w w' : World} {v v' : Value} {K L : List Q} (h : OwnW S ex w v K)
    (hL : ∀ i (h : i < L.length), Lies w (fun b => S b ∧ b < w.heap.size ∧ v.ownBlock ≠ some b ∧ b ≠ ex) L[i].2.1 L[i].2.2) (hk : ∀ i (h : i < L.length), L[i].1.size ≤ 140737488355328)
    (own : w'.ownsRow (ex + 1) 51 7 v' (K.length + L.length) (flatQ K ++ flatQ L)) (hg : w.grownBy w' v.ownBlock) (hob : v'.ownBlock = v.ownBlock ∨ v'.ownBlock = some w.heap.size) : OwnW S ex w' v' (K ++ L) := by
  have wk : ∀ {t : T} {ds : Array Value}, Lies w (fun b => S b ∧ b < w.heap.size ∧ v.ownBlock ≠ some b ∧ b ≠ ex) t ds → Lies w' (fun b => S b ∧ b < w'.heap.size ∧ v'.ownBlock ≠ some b ∧ b ≠ ex) t ds := fun hl =>
    (hl.keepB (w' := w') (fun b hR hlt => hg.block b hlt fun e => hR.2.2.1 e.symm)).weaken fun b hb => ⟨hb.1.1, by have := hg.size; omega, by
      rcases hob with e | e
      · rw [e]; exact hb.1.2.2.1
      · rw [e]; intro hx; injection hx with hx; omega, hb.1.2.2.2⟩
  refine ⟨by simpa [flatQ] using own, fun i hi => ?_, fun i hi => ?_⟩
  · by_cases hij : i < K.length
    · have e : (K ++ L)[i] = K[i] := List.getElem_append_left hij
      rw [e]
      exact wk (h.each i hij)
    · have e : (K ++ L)[i] = L[i - K.length]'(by simp at hi; omega) := List.getElem_append_right (by omega)
      rw [e]
      exact wk (hL _ _)
  · by_cases hij : i < K.length
    · have e : (K ++ L)[i] = K[i] := List.getElem_append_left hij
      rw [e]
      exact h.keys i hij
    · have e : (K ++ L)[i] = L[i - K.length]'(by simp at hi; omega) := List.getElem_append_right (by omega)
      rw [e]
      exact hk _ _
theorem OwnW.one {S : Nat → Prop} {ex : Nat} {w w' : World} {v v' : Value} {K : List Q} {key : ByteArray} {x : T} {ds : Array Value} (h : OwnW S ex w v K) (hx : Lies w (fun b => S b ∧ b < w.heap.size ∧ v.ownBlock ≠ some b ∧ b ≠ ex) x ds) (hk : key.size ≤ 140737488355328)
    (own : w'.ownsRow (ex + 1) 51 7 v' (K.length + 1) (flatQ K ++ (#[Value.string key] ++ ds).toList)) (hg : w.grownBy w' v.ownBlock) (hob : v'.ownBlock = v.ownBlock ∨ v'.ownBlock = some w.heap.size) : OwnW S ex w' v' (K ++ [(key, x, ds)]) :=
  h.step (L := [(key, x, ds)]) (fun i hi => by
    obtain rfl : i = 0 := by simp at hi; omega
    exact hx) (fun i hi => by
    obtain rfl : i = 0 := by simp at hi; omega
    exact hk) (by simpa [flatQ, qrow] using own) hg hob
theorem OwnW.done {S : Nat → Prop} {ex : Nat} {w : World} {v : Value} {K : List Q} (h : OwnW S ex w v K) (hx : K.length * 104 ≤ 140737488355328) :
    ∃ a cap cm, v = .slice a K.length cap ∧ SliceP w (fun b => (S b ∨ ex < b) ∧ b ≠ ex) (K.map strip) a cap cm := by
  have hrs : ∀ d ∈ K.map qrow, d.size = 7 := fun d hd => by
    obtain ⟨q, hq, rfl⟩ := List.mem_map.1 hd
    obtain ⟨i, hi, rfl⟩ := List.getElem_of_mem hq
    have := (h.each i hi).size6
    simp [qrow, this]
  have hown := h.own
  rcases hown.2 with ⟨e, hn⟩ | ⟨g', cap', cur, e, hbg, hgc, hnc, hcm, hcs, htake⟩
  · have hK : K = [] := List.eq_nil_of_length_eq_zero hn
    subst hK
    exact ⟨none, 0, fun _ => #[], e, ⟨⟨by simp, by simp, fun _ => rfl, fun hp => absurd hp (by simp), by omega⟩, fun i hi => absurd hi (by simp), fun i hi => absurd hi (by simp), fun i hi => absurd hi (by simp)⟩⟩
  · subst e
    refine ⟨_, _, fun i => ((K[i]?).map (·.2.2)).getD #[], rfl, ⟨by simpa using hnc, by simpa using hx, by simp, fun _ => ⟨g', 0, rfl, .inr hbg, by omega⟩, by unfold maxLen at hcm; omega⟩, fun i hi bl ol e k hk => ?_, fun i hi => ?_, fun i hi => ?_⟩
    · simp only [Option.some.injEq, Addr.mk.injEq, and_true] at e
      obtain ⟨rfl, rfl⟩ := e
      have hi' : i < K.length := by simpa using hi
      have hi2 : i < (K.map qrow).length := by simpa using hi
      have er : (K.map qrow)[i] = #[Value.string ((K.map strip)[i]).1] ++ ((K[i]?).map (·.2.2)).getD #[] := by simp [qrow, strip, List.getElem?_eq_getElem hi']
      have hk7 : k < ((K.map qrow)[i]).size := by rw [er]; exact hk
      have h7 := hrs _ (List.getElem_mem hi2)
      have hlt : i * 7 + k < K.length * 7 := by omega
      have := flat_get (K.map qrow) hrs i hi2 k hk7
      rw [Nat.zero_add, hown.cellAt (i * 7 + k) hlt, flatQ, this]
      exact congrArg some (get_congr er k _ _)
    · have hi' : i < K.length := by simpa using hi
      simpa [strip] using h.keys i hi'
    · have hi' : i < K.length := by simpa using hi
      have := (h.each i hi').weaken (R' := fun b => (S b ∨ ex < b) ∧ b ≠ ex) fun b hb => ⟨.inl hb.1, hb.2.2.2⟩
      simpa [strip, List.getElem?_eq_getElem hi'] using this

end Go.Proofs.Ytfmlhdkodnbfaaa

/-
  The path reference's Get.
-/
set_option linter.unusedVariables false
set_option linter.unusedSimpArgs false
namespace Go.Proofs.Ytfmlhdkodnbfaaa
open Go.RowKit Go.Sort

/-- What the reference finds at a path. -/
def getQ : List ByteArray → T → Option T
  | [], t => some t
  | k :: r, t => (findR k t.map).bind (getQ r)

end Go.Proofs.Ytfmlhdkodnbfaaa

/-
  Package path's Put.
-/
set_option linter.unusedVariables false
set_option linter.unusedSimpArgs false
namespace Go.Proofs.Ytfmlhdkodnbfaaa
open Go.RowKit

set_option maxRecDepth 100000 in
set_option maxHeartbeats 4000000 in
theorem pPut_any {w0 : World} {R RX : Nat → Prop} {t xT : T} {cs es : Array Value} {ks : List ByteArray} {sa : Option Addr} {sc : Nat} (h : Lies w0 R t cs) (hx : Lies w0 RX xT es) (hS : SliceS w0 ks sa sc) (hn : ks.length ≤ 1000000) (hsz : t.size ≤ 1000000) (w : World) (hw : Below w0.heap.size w0 w) :
    Calls Try.prog 12 #[.agg cs, .agg es, .slice sa ks.length sc] w (PutIn w (putL ks t xT)) := by
  have HWY := Lib.hid (way_any h hS hn)
  have HCL := Lib.hid (tClone_any hx)
  have HKS := Lib.hid hS
  have HBG := Lib.hid (way_big (l := ks) hsz)
  have hw2 := hw
  obtain ⟨k, b, n, s, la, ll, lc, ma, ml, mc, rfl⟩ := h.six
  obtain ⟨k2, b2, n2, s2, la2, ll2, lc2, ma2, ml2, mc2, rfl⟩ := hx.six
  obtain ⟨q1, q2, q3, q4, q5, q6⟩ := three_new w #[.int .i64 k, .bool b, .int .i64 n, .string s, .slice la ll lc, .slice ma ml mc] #[.int .i64 k2, .bool b2, .int .i64 n2, .string s2, .slice la2 ll2 lc2, .slice ma2 ml2 mc2]
  obtain ⟨dd, hu, hdd⟩ := Try.structV
  have DD := Lib.hid hdd
  have HU := Lib.hid hu
  clear hdd hu h hx hS hsz
  go_enter Try.func12, Try.ntmps12
  go_upto_region 1 with fail
  generalize (((w.alloc (.cells #[.int .i64 k, .bool b, .int .i64 n, .string s, .slice la ll lc, .slice ma ml mc] 25)).alloc (.cells #[.int .i64 k2, .bool b2, .int .i64 n2, .string s2, .slice la2 ll2 lc2, .slice ma2 ml2 mc2] 25)).alloc (.cells zeroV 25)) = v at q1 q2 q3 q4 q5 q6 ⊢
  have HWV := Lib.hid q5
  have HZ := Lib.hid q3
  have HT := Lib.hid q4
  have hv3 : w.heap.size + 3 ≤ v.heap.size := by omega
  obtain ⟨p0, p1, p2, p3, p4, p5⟩ := q1.six
  obtain ⟨q0', q1', q2', q3', q4', q5'⟩ := q2.six
  clear q1 q2 q3 q4 q5 q6
  have q0 := q0'
  have q1 := q1'
  have q2 := q2'
  have q3 := q3'
  have q4 := q4'
  have q5 := q5'
  clear q0' q1' q2' q3' q4' q5'
  refine wp_region_specs2 v 7 (fun i => 7 + i) (fun i x wx => match i with | 0 => x = .agg #[.int .i64 k, .bool b, .int .i64 n, .string s, .slice la ll lc, .slice ma ml mc] | 1 => x = .slice sa ks.length sc | 2 => ∃ (a : Option Addr) (cap : Nat) (cl : Nat → Array Value), x = .slice a (wayL ks t).length cap ∧ SliceV wx (fun _ => True) (wayL ks t) a cap cl | 3 => x = .slice sa ks.length sc | 4 => x = .agg #[.int .i64 k2, .bool b2, .int .i64 n2, .string s2, .slice la2 ll2 lc2, .slice ma2 ml2 mc2] | 5 => ∃ ds : Array Value, x = .agg ds ∧ Lies wx (fun b => v.heap.size ≤ b) xT ds | 6 => ∃ ds : Array Value, x = .agg ds ∧ Lies wx (fun b => v.heap.size ≤ b) (putL ks t xT) ds | _ => True) (fun _ wx => ∃ (wb : World) (ds : Array Value), Below v.heap.size v wb ∧ Lies wb (fun b => v.heap.size ≤ b) (putL ks t xT) ds ∧ wx = setRow wb (w.heap.size + 2) 0 ds.toList) (by kernel_rfl) (by kernel_rfl) ?s1 (Below.refl _ _) ?s2 ?s3 ?s4 ?s5
  case s1 => intro i hi; exact Nat.lt_of_lt_of_le (show 7 + i < 14 by omega) (Nat.le_refl 14)
  case s2 =>
    intro i x w1 w2 hb hU
    match i, hU with
    | 2, ⟨a, cap, cl, e, hS⟩ => exact ⟨a, cap, cl, e, hS.later hb⟩
    | 5, ⟨ds, e, hL⟩ => exact ⟨ds, e, hL.later hb⟩
    | 6, ⟨ds, e, hL⟩ => exact ⟨ds, e, hL.later hb⟩
    | 0, h | 1, h | 3, h | 4, h => exact h
    | (n + 7), _ => trivial
  case s3 =>
    intro i o ac wb K' ho hi hA hB hdep hK
    have sv2 : ac.tmps[2]?.getD undef = .slice sa ks.length sc := hA.sl (t := 2) (by decide)
    have sv3 : ac.tmps[3]?.getD undef = .pointer (some ⟨w.heap.size, 0, none⟩) := hA.sl (t := 3) (by decide)
    have sv4 : ac.tmps[4]?.getD undef = .pointer (some ⟨w.heap.size + 1, 0, none⟩) := hA.sl (t := 4) (by decide)
    have sv6 : ac.tmps[6]?.getD undef = .pointer (some ⟨w.heap.size + 1 + 1, 0, none⟩) := hA.sl (t := 6) (by decide)
    have p0 := cells_frame hB p0
    have p1 := cells_frame hB p1
    have p2 := cells_frame hB p2
    have p3 := cells_frame hB p3
    have p4 := cells_frame hB p4
    have p5 := cells_frame hB p5
    have q0 := cells_frame hB q0
    have q1 := cells_frame hB q1
    have q2 := cells_frame hB q2
    have q3 := cells_frame hB q3
    have q4 := cells_frame hB q4
    have q5 := cells_frame hB q5
    rcases (by omega : i = 0 ∨ i = 1 ∨ i = 2 ∨ i = 3 ∨ i = 4 ∨ i = 5 ∨ i = 6) with rfl | rfl | rfl | rfl | rfl | rfl | rfl
    · simp at ho
      subst ho
      clear hdep hA
      go_simp
      exact hK _ wb (Below.refl _ _) rfl
    · simp at ho
      subst ho
      clear hdep hA
      go_simp
      exact hK _ wb (Below.refl _ _) rfl
    · simp at ho
      subst ho
      have y0 : ac.tmps[7]?.getD undef = .agg #[.int .i64 k, .bool b, .int .i64 n, .string s, .slice la ll lc, .slice ma ml mc] := hdep { on := 0, ground := .data } (by simp) rfl
      have y1 : ac.tmps[8]?.getD undef = .slice sa ks.length sc := hdep { on := 1, ground := .data } (by simp) rfl
      clear hdep hA
      go_simp
      refine (HWY.out wb (bstep hw HWV.out hw.size |>.trans (hB.mono (by have := hw.size; have := HWV.out.size; omega)))).mono ?_
      rintro e w3 ⟨a, cap, cl, rfl, hSV, hb3⟩
      exact hK _ w3 hb3 ⟨a, cap, cl, rfl, hSV.weaken fun _ _ => trivial⟩
    · simp at ho
      subst ho
      clear hdep hA
      go_simp
      exact hK _ wb (Below.refl _ _) rfl
    · simp at ho
      subst ho
      clear hdep hA
      go_simp
      exact hK _ wb (Below.refl _ _) rfl
    · simp at ho
      subst ho
      have y4 : ac.tmps[11]?.getD undef = .agg #[.int .i64 k2, .bool b2, .int .i64 n2, .string s2, .slice la2 ll2 lc2, .slice ma2 ml2 mc2] := hdep { on := 4, ground := .data } (by simp) rfl
      clear hdep hA
      go_simp
      refine (HCL.out wb (bstep hw2 HWV.out hw2.size |>.trans (hB.mono (by have := hw2.size; have := HWV.out.size; omega)))).mono ?_
      rintro e w3 ⟨ds, rfl, hL, hb3⟩
      exact hK _ w3 hb3 ⟨ds, rfl, hL.weaken fun b hb => Nat.le_trans hB.size hb⟩
    · simp at ho
      subst ho
      obtain ⟨a, cap, cl, y2, hSy2⟩ := hdep { on := 2, ground := .data } (by simp) rfl
      have y2 : ac.tmps[9]?.getD undef = _ := y2
      have y3 : ac.tmps[10]?.getD undef = .slice sa ks.length sc := hdep { on := 3, ground := .data } (by simp) rfl
      obtain ⟨ds, y5, hLy5⟩ := hdep { on := 5, ground := .data } (by simp) rfl
      obtain ⟨d0, d1, d2, d3, d4, d4l, d4c, d5, d5l, d5c, rfl⟩ := hLy5.six
      have y5 : ac.tmps[12]?.getD undef = _ := y5
      clear hdep hA
      go_simp
      refine (rebuilt_any hSy2 (HKS.out.later (bstep hw HWV.out hw.size |>.trans (hB.mono (by have := hw.size; have := HWV.out.size; omega)))) hLy5 (by rw [way_len]; exact Nat.le_refl _) HBG.out).mono ?_
      rintro e w3 ⟨ds, rfl, hL, hb3⟩
      rw [rb_way] at hL
      exact hK _ w3 hb3 ⟨ds, rfl, hL.weaken fun b hb => by
          have := hB.size
          rcases hb with h | h
          · exact h.1
          · omega⟩
  case s4 =>
    intro o ac wb K' ho hA hB hU hK
    have sv2 : ac.tmps[2]?.getD undef = .slice sa ks.length sc := hA.sl (t := 2) (by decide)
    have sv3 : ac.tmps[3]?.getD undef = .pointer (some ⟨w.heap.size, 0, none⟩) := hA.sl (t := 3) (by decide)
    have sv4 : ac.tmps[4]?.getD undef = .pointer (some ⟨w.heap.size + 1, 0, none⟩) := hA.sl (t := 4) (by decide)
    have sv6 : ac.tmps[6]?.getD undef = .pointer (some ⟨w.heap.size + 1 + 1, 0, none⟩) := hA.sl (t := 6) (by decide)
    have p0 := cells_frame hB p0
    have p1 := cells_frame hB p1
    have p2 := cells_frame hB p2
    have p3 := cells_frame hB p3
    have p4 := cells_frame hB p4
    have p5 := cells_frame hB p5
    have q0 := cells_frame hB q0
    have q1 := cells_frame hB q1
    have q2 := cells_frame hB q2
    have q3 := cells_frame hB q3
    have q4 := cells_frame hB q4
    have q5 := cells_frame hB q5
    simp at ho
    subst ho
    obtain ⟨ds, y6, hLy6⟩ := hU 6 (by omega)
    obtain ⟨r0, r1, r2, r3, r4, r4l, r4c, r5, r5l, r5c, rfl⟩ := hLy6.six
    have y6 : ac.tmps[13]?.getD undef = _ := y6
    clear hU hA
    obtain ⟨z0, z1, z2, z3, z4, z5⟩ := (HZ.out.later hB (by omega)).six
    obtain ⟨f0, f1, f2, f3, f4, f5⟩ := (HT.out.later hB (by omega)).six
    go_simp
    exact hK _ ⟨wb, _, hB, hLy6, rfl⟩
  case s5 =>
    intro ac wn hA hF
    have hs : slots 7 (fun i => 7 + i) = [7, 8, 9, 10, 11, 12, 13] := by rfl
    rw [hs] at hA
    have hac := hA.act (fun t ht => by
      have h8 : t = 7 ∨ t = 8 ∨ t = 9 ∨ t = 10 ∨ t = 11 ∨ t = 12 ∨ t = 13 := by simpa using ht
      rcases h8 with rfl | rfl | rfl | rfl | rfl | rfl | rfl <;> exact Nat.lt_of_lt_of_le (by decide : _ < 14) (Nat.le_refl 14))
    rw [List.foldl_cons, List.foldl_cons, List.foldl_cons, List.foldl_cons, List.foldl_cons, List.foldl_cons, List.foldl_cons, List.foldl_nil] at hac
    generalize sl ac 7 = x7 at hac
    generalize sl ac 8 = x8 at hac
    generalize sl ac 9 = x9 at hac
    generalize sl ac 10 = x10 at hac
    generalize sl ac 11 = x11 at hac
    generalize sl ac 12 = x12 at hac
    generalize sl ac 13 = x13 at hac
    clear hA hs
    subst hac
    simp only [Act.put, List.setIfInBounds_toArray, List.set_cons_succ, List.set_cons_zero]
    obtain ⟨wb, ds, hbu, hLd, hwn⟩ := hF
    have HWN := Lib.hid hwn
    clear hwn
    obtain ⟨d0, d1, d2, d3, d4, d4l, d4c, d5, d5l, d5c, rfl⟩ := hLd.six
    have hz := HZ.out.later hbu (by omega)
    go_wp2_with fail
    refine ret_cells wb (w.heap.size + 2) [.int .i64 d0, .bool d1, .int .i64 d2, .string d3, .slice d4 d4l d4c, .slice d5 d5l d5c] HWN.out Try.results12 rfl rfl DD.out HU.out Try.sizeV (fun i hi => ⟨_, (hz i hi).trans (Array.getElem?_eq_getElem (show i < 6 from hi))⟩) ?_
    exact ⟨_, rfl, (hLd.keep (fun b hb => setRow_heap _ _ _ _ _ (by omega))).weaken (fun b hb => by omega), setRow_below _ (by omega) _ _ _ (bstep HWV.out hbu HWV.out.size)⟩

end Go.Proofs.Ytfmlhdkodnbfaaa
