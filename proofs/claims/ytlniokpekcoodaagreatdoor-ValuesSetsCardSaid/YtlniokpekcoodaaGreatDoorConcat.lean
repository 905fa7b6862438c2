/-
  Package slices' Grow of nothing, and Concat of slices of pairs.
-/
import Derived.Test.YtlniokpekcoodaaGreatDoorMap
import Derived.Lib.AppendZeros
set_option linter.unusedVariables false
set_option linter.unusedSimpArgs false
namespace Go.Proofs.YtlniokpekcoodaaGreatDoor
open Go.RowKit Go.Sort

theorem zero_size (z : Array Value) (n : Nat) : (Builtin.zeroCells z n).size = n * z.size := by
  unfold Builtin.zeroCells
  simp

set_option maxRecDepth 100000 in
/-- Grow(nil, n). -/
theorem grow_any (n : Nat) (h0 : 0 < n) (hn : n * 104 ≤ 140737488355328) (w : World) :
    Calls Tryz.prog 156 #[.slice none 0 0, .int .i64 n] w fun e w' => ∃ cap, e = .returned (.slice (some ⟨w.heap.size, 0, none⟩) 0 cap) ∧ n ≤ cap ∧ w'.ownsRow w.heap.size 51 7 (.slice (some ⟨w.heap.size, 0, none⟩) 0 cap) 0 [] ∧ Below w.heap.size w w' := by
  obtain ⟨i0, hi, hz0, hz1, hz2⟩ := info_parts Tryz.infoP
  have hrun := Lib.run_append_nil_zeros (P := Tryz.prog) w 23 3 23 51 i0 _ .i64 .i64 Tryz.underlying23 Tryz.underlying3 hi hz0 n h0 (by rw [hz1]; omega) (by omega) (by rw [hz2]; omega)
  have HR := Lib.hid hrun
  clear hrun hi hz0 hz1 hz2
  go_enter Tryz.func156, Tryz.ntmps156
  go_wp2_with (at_builtin; refine Lib.wpList_append_run w rfl (.tmp 20) (.tmp 21) 23 3 rfl (.slice none 0 0) (.int .i64 n) rfl rfl _ _ HR.out ?_)
  go_ret
  refine ⟨grownCap w n 0 51, rfl, grownCap_ge _ _ _ _, (World.ownsRow_made w _ _ (Nat.le_refl _) (grownCap_le_maxLen _ _ _ _ (by unfold maxLen; omega)) ?_).drew, bdrewN ((Below.refl _ _).alloc (Nat.le_refl _) _) 1⟩
  have hge := grownCap_ge w n 0 51
  rw [Array.size_append, zero_size, zero_size, ← Nat.add_mul]
  show (n + (grownCap w n 0 51 - n)) * 7 = _
  omega

/-- An own slice of pairs, in order. -/
structure OwnP (base : Nat) (w : World) (v : Value) (K : List Q) : Prop where
  own : w.ownsRow base 51 7 v K.length (flatQ K)
  each : ∀ i (h : i < K.length), Lies w (fun b => base ≤ b ∧ some b ≠ v.ownBlock) K[i].2.1 K[i].2.2
  keys : ∀ i (h : i < K.length), K[i].1.size ≤ 140737488355328

theorem OwnP.rowsize {base : Nat} {w : World} {v : Value} {K : List Q} (h : OwnP base w v K) : ∀ d ∈ K.map qrow, d.size = 7 := fun d hd => by
  obtain ⟨q, hq, rfl⟩ := List.mem_map.1 hd
  obtain ⟨i, hi, rfl⟩ := List.getElem_of_mem hq
  have := (h.each i hi).size6
  simp [qrow, this]

/-- A slice of pairs whose values go through no cell of the slice's own array, which is not frozen. -/
structure OwnM (w : World) (base : Nat) (ps : List (ByteArray × T)) (a : Option Addr) (cm : Nat → Array Value) : Prop where
  each : ∀ i (h : i < ps.length) bl ol, a = some ⟨bl, ol, none⟩ → Lies w (fun b => base ≤ b ∧ b ≠ bl) ps[i].2 (cm i)
  free : ∀ bl ol, a = some ⟨bl, ol, none⟩ → base ≤ bl ∧ bl < w.heap.size ∧ ∀ j, w.frozen? ⟨bl, j, none⟩ = false

theorem OwnM.keep {w w' : World} {base : Nat} {ps : List (ByteArray × T)} {a : Option Addr} {cm : Nat → Array Value} (h : OwnM w base ps a cm) (hz : w.heap.size ≤ w'.heap.size) (hk : ∀ b, base ≤ b → b < w.heap.size → w'.heap[b]? = w.heap[b]?) : OwnM w' base ps a cm :=
  ⟨fun i hi bl ol e => ((h.each i hi bl ol e).keepB (fun b hb hlt => hk b hb.1 hlt)).weaken (fun b hb => hb.1), fun bl ol e => by
    obtain ⟨h1, h2, h3⟩ := h.free bl ol e
    refine ⟨h1, by omega, fun j => ?_⟩
    have := h3 j
    unfold World.frozen? at this ⊢
    rw [hk bl h1 h2]
    exact this⟩
theorem OwnM.lower {w : World} {base base' : Nat} {ps : List (ByteArray × T)} {a : Option Addr} {cm : Nat → Array Value} (h : OwnM w base ps a cm) (hb : base' ≤ base) : OwnM w base' ps a cm :=
  ⟨fun i hi bl ol e => (h.each i hi bl ol e).weaken (fun b k => ⟨by have := k.1; omega, k.2⟩), fun bl ol e => by
    obtain ⟨h1, h2⟩ := h.free bl ol e
    exact ⟨by omega, h2⟩⟩

/-- .. as a slice of pairs. -/
theorem OwnP.done {base : Nat} {w : World} {v : Value} {K : List Q} (h : OwnP base w v K) (hx : K.length * 104 ≤ 140737488355328) :
    ∃ a cap cm, v = .slice a (K.map strip).length cap ∧ SliceP w (fun b => base ≤ b) (K.map strip) a cap cm ∧ OwnM w base (K.map strip) a cm := by
  rcases h.own.2 with ⟨rfl, h0⟩ | ⟨g, cap, cur, rfl, hbg, hgc, hnc, hcm, hcs, htake⟩
  · refine ⟨none, 0, fun _ => #[], by simp [h0], ⟨⟨by simp [h0], by simp [h0], fun _ => rfl, fun hp => absurd hp (by simp [h0]), by omega⟩, fun i hi => absurd hi (by simp [h0]), fun i hi => absurd hi (by simp [h0]), fun i hi => absurd hi (by simp [h0])⟩, ⟨fun i hi => absurd hi (by simp [h0]), fun bl ol e => by cases e⟩⟩
  · refine ⟨some ⟨g, 0, none⟩, cap, fun i => ((K[i]?).map (·.2.2)).getD #[], by simp, ⟨⟨by simpa using hnc, by simpa using hx, by simp, fun _ => ⟨g, 0, rfl, hbg⟩, by unfold maxLen at hcm; omega⟩, fun i hi bl ol e k hk => ?_, fun i hi => ?_, fun i hi => ?_⟩, ⟨fun i hi bl ol e => ?_, fun bl ol e => ?_⟩⟩
    · simp only [Option.some.injEq, Addr.mk.injEq, and_true] at e
      obtain ⟨rfl, rfl⟩ := e
      have hi' : i < K.length := by simpa using hi
      have hi2 : i < (K.map qrow).length := by simpa using hi
      have er : (K.map qrow)[i] = #[Value.string ((K.map strip)[i]).1] ++ ((K[i]?).map (·.2.2)).getD #[] := by simp [qrow, strip, List.getElem?_eq_getElem hi']
      have hk7 : k < ((K.map qrow)[i]).size := by rw [er]; exact hk
      have h7 := h.rowsize _ (List.getElem_mem hi2)
      have hlt : i * 7 + k < K.length * 7 := by omega
      have := flat_get (K.map qrow) h.rowsize i hi2 k hk7
      rw [Nat.zero_add, h.own.cellAt (i * 7 + k) hlt, flatQ, this]
      exact congrArg some (get_congr er k _ _)
    · have hi' : i < K.length := by simpa using hi
      simpa [strip] using h.keys i hi'
    · have hi' : i < K.length := by simpa using hi
      have := (h.each i hi').weaken (R' := fun b => base ≤ b) fun b hb => hb.1
      simpa [strip, List.getElem?_eq_getElem hi'] using this
    · simp only [Option.some.injEq, Addr.mk.injEq, and_true] at e
      obtain ⟨rfl, rfl⟩ := e
      have hi' : i < K.length := by simpa using hi
      have := (h.each i hi').weaken (R' := fun b => base ≤ b ∧ b ≠ g) fun b hb => ⟨hb.1, fun e => hb.2 (by rw [e]; rfl)⟩
      simpa [strip, List.getElem?_eq_getElem hi'] using this
    · simp only [Option.some.injEq, Addr.mk.injEq, and_true] at e
      obtain ⟨rfl, rfl⟩ := e
      exact ⟨hbg, (Array.getElem?_eq_some_iff.1 hgc).1, fun j => by simp [World.frozen?, hgc]⟩

/-- .. with the pairs of another slice behind them, in the same array. -/
theorem OwnP.step {base : Nat} {wr w3 : World} {g k k' cap : Nat} {K : List Q} {ps : List (ByteArray × T)} {a : Option Addr} {c : Nat} {cm : Nat → Array Value} (h : OwnP base wr (.slice (some ⟨g, 0, none⟩) k cap) K) (hk : k = K.length)
    (hS : SliceP wr (fun b => base ≤ b ∧ b ≠ g) ps a c cm)
    (own : w3.ownsRow base 51 7 (.slice (some ⟨g, 0, none⟩) k' cap) (K.length + ps.length) (flatQ K ++ flatQ (qlist ps cm))) (hg3 : wr.grownBy w3 (some g)) :
    OwnP base w3 (.slice (some ⟨g, 0, none⟩) k' cap) (K ++ qlist ps cm) := by
  have k2 : ∀ b, b < wr.heap.size → b ≠ g → w3.heap[b]? = wr.heap[b]? := fun b hb hne => hg3.block b hb (by simpa using hne)
  refine ⟨by simpa [flatQ, qlist_len] using own, fun i hi => ?_, fun i hi => ?_⟩
  · by_cases hij : i < K.length
    · have e : (K ++ qlist ps cm)[i] = K[i] := List.getElem_append_left hij
      rw [e]
      have h0 := (h.each i hij).keepB (w' := w3) (fun b hR hlt => k2 b hlt (fun e => hR.2 (by simp [Value.ownBlock, e])))
      exact h0.weaken fun b hb => ⟨hb.1.1, fun e => hb.1.2 (by simpa [Value.ownBlock] using e)⟩
    · have hi2 : i - K.length < (qlist ps cm).length := by simp at hi; omega
      have e : (K ++ qlist ps cm)[i] = (qlist ps cm)[i - K.length] := List.getElem_append_right (by omega)
      rw [e, qlist_get]
      have h0 := (hS.each (i - K.length) (by simpa [qlist_len] using hi2)).keepB (w' := w3) (fun b hR hlt => k2 b hlt hR.2)
      exact h0.weaken fun b hb => ⟨hb.1.1, fun e => hb.1.2 (by simpa [Value.ownBlock] using e)⟩
  · by_cases hij : i < K.length
    · have e : (K ++ qlist ps cm)[i] = K[i] := List.getElem_append_left hij
      rw [e]
      exact h.keys i hij
    · have hi2 : i - K.length < (qlist ps cm).length := by simp at hi; omega
      have e : (K ++ qlist ps cm)[i] = (qlist ps cm)[i - K.length] := List.getElem_append_right (by omega)
      rw [e, qlist_get]
      exact hS.keys _ (by simpa [qlist_len] using hi2)

theorem flatQ_qlist {w : World} {R : Nat → Prop} {ps : List (ByteArray × T)} {a : Option Addr} {cap : Nat} {cm : Nat → Array Value} (h : SliceP w R ps a cap cm) : (flatQ (qlist ps cm)).length = ps.length * 7 := by
  unfold flatQ
  rw [flat_len _ (qlist_rows h)]
  simp [qlist]

theorem take_flat {α : Type} (l : List (List α)) (j : Nat) (h : j < l.length) : (l.take (j + 1)).flatten = (l.take j).flatten ++ l[j] := by
  rw [List.take_succ_eq_append_getElem h, List.flatten_append]
  simp
theorem flat_psum {α : Type} (l : List (List α)) (j : Nat) : (l.take j).flatten.length = psum List.length l j := by
  unfold psum
  rw [List.length_flatten]

theorem SliceP.boundR {w : World} {R : Nat → Prop} {ps : List (ByteArray × T)} {a : Option Addr} {cap : Nat} {cm : Nat → Array Value} (h : SliceP w R ps a cap cm) : SliceP w (fun b => R b ∧ b < w.heap.size) ps a cap cm :=
  ⟨⟨h.hdr.le, h.hdr.big, h.hdr.none, fun hp => by
    obtain ⟨b, o, e, hR⟩ := h.hdr.some hp
    exact ⟨b, o, e, hR, Row.lt (h.rows 0 hp b o e) (by simp; omega)⟩, h.hdr.max⟩, h.rows, h.keys, fun i hi => (h.each i hi).bound⟩

/-- The slices that Concat is handed. -/
structure Heads (w0 : World) (w : World) (base : Nat) (gb : Nat) (hs : List (List (ByteArray × T))) : Prop where
  each : ∀ j (h : j < hs.length), ∃ a c cm, w.cell? ⟨gb, j, none⟩ = some (.slice a hs[j].length c) ∧ SliceP w0 (fun b => base ≤ b) hs[j] a c cm
  below : Below w0.heap.size w0 w

def Joined (w : World) (base : Nat) (ps : List (ByteArray × T)) (e : Ending) (w' : World) : Prop := ∃ a cap dl, e = .returned (.slice a ps.length cap) ∧ SliceP w' (fun b => base ≤ b) ps a cap dl ∧ Below w.heap.size w w' ∧ OwnM w' base ps a dl

set_option maxRecDepth 100000 in
set_option maxHeartbeats 800000 in
theorem concat_any {w0 w : World} {base gb : Nat} {hs : List (List (ByteArray × T))} (h : Heads w0 w base gb hs) (hbase : base ≤ w.heap.size) (hn : hs.length ≤ 1000) (N : Nat) (hN : hs.flatten.length = N) (hp : 0 < N) (hx : N * 104 ≤ 140737488355328) :
    Calls Tryz.prog 142 #[.slice (some ⟨gb, 0, none⟩) hs.length hs.length] w (Joined w base hs.flatten) := by
  have HE := Lib.hid h.each
  have HB := Lib.hid h.below
  have PS := Lib.hid (fun j => psum_succ List.length hs j)
  have PL := Lib.hid (fun j => psum_le List.length hs j)
  have hfl : (hs.map List.length).sum = N := by rw [← hN, List.length_flatten]
  have PA := Lib.hid ((psum_all List.length hs).trans hfl)
  have HFL := Lib.hid hfl
  have HN := Lib.hid hN
  clear hfl hN
  have HX := Lib.hid hx
  have HP := Lib.hid hp
  clear h
  obtain ⟨i0, hi, hz0, hz1, hz2⟩ := info_parts Tryz.infoP
  have HI := Lib.hid hi
  have HZ1 := Lib.hid hz1
  clear hi hz0 hz1 hz2
  go_enter Tryz.func142, Tryz.ntmps142
  go_wp2_with fail
  go_loopw [3, 5, 11] (fun vn _ vi wr => ∃ j : Nat, j ≤ hs.length ∧ vn = .int .i64 (psum List.length hs j : Nat) ∧ vi = .int .i64 j ∧ wr = w) (fun _ _ vi _ => hs.length - (intOf vi).toNat)
  case atStart => exact ⟨0, by omega, by rw [psum_zero]; rfl, rfl, rfl⟩
  case round =>
    obtain ⟨j, hj, rfl, rfl, rfl⟩ := hrel
    by_cases hjl : j < hs.length
    · obtain ⟨a, c, cm, hc, _⟩ := HE.out j hjl
      have p1 := PS.out j hjl
      have p2 := PL.out (j + 1)
      rw [HFL.out] at p2
      have e1 : IntKind.i64.wrap ((psum List.length hs j : Nat) + (hs[j].length : Int)) = ((psum List.length hs (j + 1) : Nat) : Int) := by rw [IntWalk.i64_in _ (by omega)]; omega
      go_wp2_with fail
      go_roundw
      case rel => exact ⟨j + 1, by omega, val_int (by omega), by go_num, trivial⟩
      case measure => simp [intOf]; omega
    · obtain rfl : j = hs.length := by omega
      rw [PA.out]
      go_wp2_with fail
      obtain ⟨wq, rfl⟩ : ∃ wq : World, wq = wr := ⟨_, rfl⟩
      refine (grow_any N HP.out HX.out _).mono ?_
      rintro e w1 ⟨cap, rfl, hcap, hown, hb1⟩
      have hlt1 : wq.heap.size < w1.heap.size := by have := hown.lt wq.heap.size (by simp [Value.ownBlock]); omega
      have HO : Hid (OwnP base w1 (.slice (some ⟨wq.heap.size, 0, none⟩) 0 cap) []) := ⟨by
        obtain ⟨h1, h2⟩ := hown
        rcases h2 with h2 | ⟨g, c, cur, e, hg, h3⟩
        · exact absurd h2.1 (by simp)
        · exact ⟨h1, .inr ⟨g, c, cur, e, by omega, h3⟩⟩, fun i hi => absurd hi (by simp), fun i hi => absurd hi (by simp)⟩
      clear hown
      go_wp2_with fail
      go_loopw [6, 8, 27] (fun v6 _ vi wx => ∃ (j : Nat) (K : List Q), j ≤ hs.length ∧ vi = .int .i64 j ∧ v6 = .slice (some ⟨wq.heap.size, 0, none⟩) (psum List.length hs j) cap ∧ OwnP base wx (.slice (some ⟨wq.heap.size, 0, none⟩) (psum List.length hs j) cap) K ∧ K.map strip = (hs.take j).flatten ∧ Below wq.heap.size wq wx ∧ wq.heap.size < wx.heap.size) (fun _ _ vi _ => hs.length - (intOf vi).toNat)
      case atStart => exact ⟨0, [], by omega, rfl, by rw [psum_zero], by rw [psum_zero]; exact HO.out, by simp, hb1, hlt1⟩
      case round =>
        obtain ⟨j, K, hj, rfl, rfl, hK, hKs, hbx, hlx⟩ := hrel
        have HK := Lib.hid hK
        have HKS := Lib.hid hKs
        have hkl : K.length = psum List.length hs j := by rw [← flat_psum, ← hKs]; simp
        clear hK hKs
        by_cases hjl : j < hs.length
        · obtain ⟨a, c, cm, hc, hS⟩ := HE.out j hjl
          have hc2 := cells_frame hbx hc
          have hS1 := ((hS.later HB.out).boundR.later hbx).weaken (R' := fun b => base ≤ b ∧ b ≠ wq.heap.size) (fun b hb => ⟨hb.1, by omega⟩)
          have hnone := hS1.hdr.none
          have hle := hS1.hdr.le
          have HS := Lib.hid hS1
          clear hS hS1 hc
          have p1 := PS.out j hjl
          have p2 := PL.out (j + 1)
          rw [HFL.out] at p2
          have own := HK.out.own
          rw [hkl] at own
          have OWN := Lib.hid own
          clear own
          go_wp2_with (at_builtin; refine wpList_append_fits_any _ rfl (.tmp 31) (.tmp 32) 23 rfl base 51 i0 7 Tryz.underlying23 HI.out HZ1.out wq.heap.size (psum List.length hs j) cap _ rfl OWN.out a hs[j].length c (flatQ (qlist hs[j] cm)) rfl ?c1 ?c2 ?c3 ?c4 ?c5 ?_)
          case c1 => exact flatQ_qlist HS.out
          case c2 => intro e; have := hnone e; omega
          case c3 =>
            intro ad e u v hu
            have hne : 0 < hs[j].length := by
              have h1 := flatQ_qlist HS.out
              have h2 := (List.getElem?_eq_some_iff.1 hu).1
              omega
            obtain ⟨b', o', e', _⟩ := HS.out.hdr.some hne
            subst e'
            obtain rfl : (⟨b', o', none⟩ : Addr) = ad := by simpa using e
            exact qlist_cells HS.out u v hu
          case c4 => exact qlist_one HS.out
          case c5 => omega
          intro w3 own3 hg3
          have HST := Lib.hid (HK.out.step hkl.symm HS.out (by rw [hkl]; exact own3) hg3)
          have hb3 : Below wq.heap.size wq w3 := hbx.grown hg3 (by omega) (by simp)
          have hs3 := hg3.size
          have HM : Hid ((K ++ qlist hs[j] cm).map strip = (hs.take (j + 1)).flatten) := by
            show _ = _
            rw [List.map_append, HKS.out, strip_qlist, take_flat hs j hjl]
          rw [← p1] at HST
          clear own3
          go_wp2_with fail
          go_roundw
          case rel => exact ⟨j + 1, _, by omega, by go_num, by rw [p1], HST.out, HM.out, hb3, by omega⟩
          case measure => simp [intOf]; omega
        · obtain rfl : j = hs.length := by omega
          rw [List.take_length] at HKS
          obtain ⟨a, c, dl, e, hS, hM⟩ := HK.out.done (by rw [hkl, PA.out]; exact HX.out)
          rw [HKS.out] at e hS hM
          have HS := Lib.hid hS
          have HMM := Lib.hid hM
          clear hM
          have HEQ := Lib.hid e
          clear hS e
          go_wp2_with fail
          go_ret
          exact ⟨a, c, dl, congrArg Ending.returned HEQ.out, HS.out, hbx, HMM.out⟩

end Go.Proofs.YtlniokpekcoodaaGreatDoor
