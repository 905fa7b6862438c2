/-
  What stands behind a stable sort of pairs of which the last of each key is kept: all of them put, one by one.
-/
import Derived.Test.YthjdeckdklhphaaGreatDoorStabP
import Derived.Test.YthjdeckdklhphaaGreatDoorStabM
import Derived.Test.YthjdeckdklhphaaGreatDoorDiffP
import Derived.Test.YthjdeckdklhphaaGreatDoorMapNilM
set_option linter.unusedVariables false
set_option linter.unusedSimpArgs false
namespace Go.Proofs.YthjdeckdklhphaaGreatDoor
open Go.RowKit Go.Sort

/-- Pairs, put one by one. -/
def putAll (ps : Prs) : Prs := ps.foldl (fun m p => putR p.1 p.2 m) []
theorem putAll_take (ps : Prs) (j : Nat) (hj : j < ps.length) : putAll (ps.take (j + 1)) = putR ps[j].1 ps[j].2 (putAll (ps.take j)) := by
  unfold putAll
  rw [List.take_succ_eq_append_getElem hj, List.foldl_append]
  rfl
theorem putAll_asc : ∀ (ps : Prs) (j : Nat), Asc (putAll (ps.take j))
  | ps, 0 => by rw [List.take_zero]; exact List.Pairwise.nil
  | ps, j + 1 => by
    by_cases hj : j < ps.length
    · rw [putAll_take ps j hj]
      exact putR_asc (putAll_asc ps j)
    · have h := putAll_asc ps j
      rw [List.take_of_length_le (by omega)] at h ⊢
      exact h
theorem putAll_len : ∀ (ps : Prs) (j : Nat), (putAll (ps.take j)).length ≤ j
  | ps, 0 => by rw [List.take_zero]; exact Nat.le_refl _
  | ps, j + 1 => by
    have h := putAll_len ps j
    by_cases hj : j < ps.length
    · rw [putAll_take ps j hj]
      have := putR_more ps[j].1 ps[j].2 (putAll (ps.take j))
      omega
    · rw [List.take_of_length_le (by omega)] at h ⊢
      omega
theorem putAll_none {ps : Prs} {key : ByteArray} (h : ∀ p ∈ ps, p.1 ≠ key) : ∀ j, findR key (putAll (ps.take j)) = none
  | 0 => by rw [List.take_zero]; rfl
  | j + 1 => by
    have ih := putAll_none h j
    by_cases hj : j < ps.length
    · rw [putAll_take ps j hj, putR_other _ _ _ (fun e => h _ (List.getElem_mem hj) e.symm)]
      exact ih
    · rw [List.take_of_length_le (by omega)] at ih ⊢
      exact ih
theorem putAll_last {ps : Prs} {key : ByteArray} {t : Nat} (ht : t < ps.length) (hk : ps[t].1 = key) (h : ∀ i (hi : i < ps.length), t < i → ps[i].1 ≠ key) : ∀ j, t < j → findR key (putAll (ps.take j)) = some ps[t].2
  | 0, h0 => absurd h0 (by omega)
  | j + 1, h0 => by
    by_cases hj : j < ps.length
    · rw [putAll_take ps j hj]
      rcases Nat.lt_or_ge t j with h1 | h1
      · rw [putR_other _ _ _ (fun e => h j hj h1 e.symm)]
        exact putAll_last ht hk h j h1
      · obtain rfl : t = j := by omega
        rw [hk, putR_find]
    · have ih := putAll_last ht hk h j (by omega)
      rw [List.take_of_length_le (by omega)] at ih ⊢
      exact ih

/-- What is kept of sorted pairs. -/
structure Kp (S : Prs) (j : Nat) : Prop where
  asc : Asc (keepTo (·.1) S j)
  mem : ∀ q ∈ keepTo (·.1) S j, q ∈ S
  below : ∀ h : j < S.length, ∀ q ∈ keepTo (·.1) S j, ltS q.1 S[j].1 = true
  has : ∀ i (hi : i < S.length), i < j → (∀ k (hk : k < S.length), i < k → S[k].1 ≠ S[i].1) → S[i] ∈ keepTo (·.1) S j
theorem kp_all {S : Prs} (hs : ∀ i j (hi : i < S.length) (hj : j < S.length), i < j → S[i].1 = S[j].1 ∨ ltS S[i].1 S[j].1 = true) : ∀ j, j ≤ S.length → Kp S j
  | 0, _ => ⟨List.Pairwise.nil, fun q hq => (by cases hq), fun _ q hq => (by cases hq), fun i _ h => absurd h (by omega)⟩
  | j + 1, hj => by
    have ih := kp_all hs j (by omega)
    have hjl : j < S.length := hj
    by_cases hk : ∀ h : j + 1 < S.length, S[j + 1].1 ≠ S[j].1
    · rw [show Kp S (j + 1) ↔ Kp S (j + 1) from Iff.rfl]
      have e := keepTo_keep (fun p : ByteArray × T => p.1) S j hjl hk
      refine ⟨?_, ?_, ?_, ?_⟩
      · rw [e]
        refine asc_append ih.asc (List.pairwise_singleton _ _) fun x hx y hy => ?_
        obtain rfl : y = S[j] := by simpa using hy
        exact ih.below hjl x hx
      · rw [e]
        intro q hq
        rcases List.mem_append.1 hq with hq | hq
        · exact ih.mem q hq
        · obtain rfl : q = S[j] := by simpa using hq
          exact List.getElem_mem _
      · intro h
        rw [e]
        have hlt : ltS S[j].1 S[j + 1].1 = true := by
          rcases hs j (j + 1) hjl h (by omega) with h1 | h1
          · exact absurd h1.symm (hk h)
          · exact h1
        intro q hq
        rcases List.mem_append.1 hq with hq | hq
        · exact ltS_trans (ih.below hjl q hq) hlt
        · obtain rfl : q = S[j] := by simpa using hq
          exact hlt
      · intro i hi hij hl
        rw [e]
        rcases Nat.lt_or_ge i j with h1 | h1
        · exact List.mem_append_left _ (ih.has i hi h1 hl)
        · obtain rfl : i = j := by omega
          exact List.mem_append_right _ (by simp)
    · have h1 : j + 1 < S.length := Classical.byContradiction fun hc => hk fun h1 => absurd h1 hc
      have h2 : S[j + 1].1 = S[j].1 := Classical.byContradiction fun hc => hk fun h1 => hc
      have e := keepTo_skip (fun p : ByteArray × T => p.1) S j h1 h2
      refine ⟨by rw [e]; exact ih.asc, by rw [e]; exact ih.mem, fun h => ?_, fun i hi hij hl => ?_⟩
      · rw [e]
        intro q hq
        rw [h2]
        exact ih.below hjl q hq
      · rw [e]
        rcases Nat.lt_or_ge i j with h3 | h3
        · exact ih.has i hi h3 hl
        · obtain rfl : i = j := by omega
          exact absurd h2 (hl (i + 1) h1 (by omega))

theorem asc_mem {m : Prs} (h : Asc m) {q : ByteArray × T} (hq : q ∈ m) : findR q.1 m = some q.2 := by
  obtain ⟨i, hi, rfl⟩ := List.getElem_of_mem hq
  exact at_someP h i hi
/-- There is a last one. -/
theorem last_ex {α : Type} (P : α → Prop) : ∀ l : List α, (∃ x ∈ l, P x) → ∃ (i : Nat) (hi : i < l.length), P l[i] ∧ ∀ k (hk : k < l.length), i < k → ¬ P l[k]
  | [], h => by obtain ⟨x, hx, _⟩ := h; cases hx
  | a :: r, h => by
    by_cases hr : ∃ x ∈ r, P x
    · obtain ⟨i, hi, h1, h2⟩ := last_ex P r hr
      refine ⟨i + 1, by simpa using hi, by simpa using h1, fun k hk hik => ?_⟩
      obtain ⟨k', rfl⟩ : ∃ k', k = k' + 1 := ⟨k - 1, by omega⟩
      simpa using h2 k' (by simpa using hk) (by omega)
    · refine ⟨0, by simp, ?_, fun k hk hik hp => ?_⟩
      · obtain ⟨x, hx, hp⟩ := h
        rcases List.mem_cons.1 hx with rfl | hx
        · exact hp
        · exact absurd ⟨x, hx, hp⟩ hr
      · obtain ⟨k', rfl⟩ : ∃ k', k = k' + 1 := ⟨k - 1, by omega⟩
        exact hr ⟨_, List.getElem_mem (by simpa using hk), by simpa using hp⟩

/-- Pairs with their places, sorted, the last of each key kept: all put, one by one. -/
theorem keep_putAll {Z D : List E} {ps : Prs} (hz : Srt Z) (hp : Z.Perm D) (hl : D.length = ps.length) (hd : ∀ i (hi : i < D.length) (h2 : i < ps.length), strip D[i].1 = ps[i] ∧ D[i].2 = i) : keepTo (·.1) (Z.map fun e => strip e.1) ps.length = putAll ps := by
  have lz : Z.length = ps.length := hp.length_eq.trans hl
  have sl : (Z.map fun e => strip e.1).length = ps.length := by rw [List.length_map]; exact lz
  have kz : ∀ i (hi : i < (Z.map fun e => strip e.1).length) (h2 : i < Z.length), (Z.map fun e => strip e.1)[i].1 = kE Z[i] := fun i hi h2 => by rw [List.getElem_map]; rfl
  have hK := kp_all (S := Z.map fun e => strip e.1) (fun i j hi hj hij => by
    rw [List.length_map] at hi hj
    have h := hz.at hi hj hij
    rw [kz i _ hi, kz j _ hj]
    rcases h with h | ⟨h, _⟩
    · exact .inr h
    · exact .inl h) ps.length (by omega)
  have ha : Asc (putAll ps) := by
    have := putAll_asc ps ps.length
    rwa [List.take_length] at this
  refine ext_find hK.asc ha fun key => ?_
  by_cases hk : ∃ x ∈ Z, kE x = key
  · obtain ⟨i, hi, hki, hla⟩ := last_ex (fun x => kE x = key) Z hk
    have hm : (Z.map fun e => strip e.1)[i]'(by rw [List.length_map]; exact hi) ∈ keepTo (·.1) (Z.map fun e => strip e.1) ps.length := hK.has i _ (by omega) fun k hk hik => by
      rw [List.length_map] at hk
      rw [kz k _ hk, kz i _ hi, hki]
      exact hla k hk hik
    have h1 := asc_mem hK.asc hm
    rw [kz i _ hi, hki] at h1
    obtain ⟨t, ht, et⟩ := List.getElem_of_mem (hp.mem_iff.1 (List.getElem_mem hi))
    obtain ⟨d1, d2⟩ := hd t ht (by omega)
    have kt : (ps[t]'(by omega)).1 = key := by
      rw [← d1, et]; exact hki
    have h2 := putAll_last (ps := ps) (t := t) (by omega) kt (fun u hu htu e => by
      have hu2 : u < D.length := by omega
      obtain ⟨e1, e2⟩ := hd u hu2 hu
      obtain ⟨v, hv, ev⟩ := List.getElem_of_mem (hp.mem_iff.2 (List.getElem_mem hu2))
      have kv : kE Z[v] = key := by
        rw [ev]
        show (strip D[u].1).1 = key
        rw [e1]; exact e
      rcases Nat.lt_or_ge i v with h3 | h3
      · exact hla v hv h3 kv
      · rcases Nat.lt_or_ge v i with h4 | h4
        · have h5 := hz.at hv hi h4
          rcases h5 with h5 | ⟨_, h5⟩
          · rw [kv, hki, ltS_irr] at h5; cases h5
          · rw [ev, ← et, e2, d2] at h5; omega
        · obtain rfl : i = v := by omega
          rw [← ev] at e2
          rw [et] at d2
          omega) ps.length (by omega)
    rw [List.take_length] at h2
    rw [h1, h2, List.getElem_map, ← et, d1]
  · have h1 : findR key (keepTo (·.1) (Z.map fun e => strip e.1) ps.length) = none := findR_none fun q hq e => by
      obtain ⟨x, hx, rfl⟩ := List.mem_map.1 (hK.mem q hq)
      exact hk ⟨x, hx, e⟩
    have h2 := putAll_none (ps := ps) (key := key) (fun p hpm e => by
      obtain ⟨t, ht, rfl⟩ := List.getElem_of_mem hpm
      have ht2 : t < D.length := by omega
      obtain ⟨d1, d2⟩ := hd t ht2 ht
      refine hk ⟨D[t], hp.mem_iff.2 (List.getElem_mem ht2), ?_⟩
      show (strip D[t].1).1 = key
      rw [d1]; exact e) ps.length
    rw [List.take_length] at h2
    rw [h1, h2]

end Go.Proofs.YthjdeckdklhphaaGreatDoor

/-
  Package tree's Map at whatever length: all pairs put, one by one.
-/
set_option linter.unusedVariables false
set_option linter.unusedSimpArgs false
namespace Go.Proofs.YthjdeckdklhphaaGreatDoor
open Go.RowKit Go.Sort

theorem tgs_zipIdx (L : List Q) : Tgs L.zipIdx := by
  refine List.pairwise_iff_getElem.2 fun i j hi hj hij => ?_
  rw [List.getElem_zipIdx, List.getElem_zipIdx]
  simpa using hij
theorem fst_zipIdx (L : List Q) : L.zipIdx.map (·.1) = L := by
  refine List.ext_getElem (by simp) fun i h1 h2 => ?_
  rw [List.getElem_map, List.getElem_zipIdx]

set_option maxHeartbeats 400000 in
theorem sort_any (base g n cap : Nat) (L : List Q) (w : World) (h : OwnQ w base g n cap L) (hn : n ≤ 100000000) (hn0 : 0 < n) :
    Calls Tryz.prog 110 #[.slice (some ⟨g, 0, none⟩) n cap, .func (Fn.func 111) #[] #[]] w (StabIn w base g n cap L.zipIdx) := by
  have HI := Lib.hid (stable_any base g n cap L.zipIdx w (by rw [fst_zipIdx]; exact h) (tgs_zipIdx L) hn hn0)
  clear h
  go_enter Tryz.func110, Tryz.ntmps110
  go_wp2_with fail
  refine HI.out.mono ?_
  rintro e w1 ⟨rfl, hO, hG⟩
  have HO := Lib.hid hO
  clear hO
  go_wp2_with fail
  go_end0
  exact ⟨rfl, HO.out, hG⟩

/-- A map of all pairs. -/
theorem lies_map0 (w : World) (R : Nat → Prop) : Lies w R (.mk 5 false 0 ⟨#[]⟩ [] []) #[.int .i64 5, .bool false, .int .i64 0, .string ⟨#[]⟩, .slice none 0 0, .slice none 0 0] :=
  .mk 5 false 0 ⟨#[]⟩ [] [] none 0 none 0 (fun _ => #[]) (fun _ => #[]) (by decide) (by decide) (by decide) ⟨by simp, by simp, fun _ => rfl, fun h => absurd h (by simp), by simp⟩ ⟨by simp, by simp, fun _ => rfl, fun h => absurd h (by simp), by simp⟩
    (fun i h => absurd h (by simp)) (fun i h => absurd h (by simp)) (fun i h => absurd h (by simp)) (fun i h => absurd h (by simp)) (fun i h => absurd h (by simp))
def MadeAll (w : World) (ps : List (ByteArray × T)) (e : Ending) (w' : World) : Prop := ∃ ds, e = .returned (.agg ds) ∧ Lies w' (fun b => w.heap.size ≤ b) (.mk 5 false 0 ⟨#[]⟩ [] (putAll ps)) ds ∧ Below w.heap.size w w'

set_option maxRecDepth 100000 in
set_option maxHeartbeats 1600000 in
theorem tMap_some {w0 : World} {R : Nat → Prop} {ps : List (ByteArray × T)} {a : Option Addr} {cap : Nat} {cm : Nat → Array Value} (h : SliceP w0 R ps a cap cm) (hp : 0 < ps.length) (hp2 : ps.length ≤ 1000000) (w : World) (hw : Below w0.heap.size w0 w) :
    Calls Tryz.prog 71 #[.slice a ps.length cap] w (MadeAll w ps) := by
  have hW := h.later hw
  have h1 := hW.later (Below.alloc (Below.refl w.heap.size w) (Nat.le_refl _) (.cells #[.int .i64 0, .bool false, .int .i64 0, .string ⟨#[]⟩, .slice none 0 0, .slice none 0 0] 28))
  have HC := Lib.hid (sCloneP_any h1 hp)
  have hx := h.hdr.big
  have H := Lib.hid h
  clear h hW h1
  obtain ⟨i0, hi, hz0, hz1, hz2⟩ := info_parts Tryz.infoP
  go_enter Tryz.func71, Tryz.ntmps71
  go_wp2_with fail
  refine HC.out.mono ?_
  rintro e w1 ⟨g, cap1, rfl, hge, hgl, hO, hB⟩
  have HS := Lib.hid (sort_any _ g _ cap1 _ _ hO (by omega) hp)
  clear hO
  go_wp2_with fail
  refine HS.out.mono ?_
  rintro e w2 ⟨rfl, ⟨Z, hZ, hZp, hO2⟩, hG2⟩
  obtain ⟨S, hSZ⟩ : ∃ S, S = Z.map (·.1) := ⟨_, rfl⟩
  rw [← hSZ] at hO2
  have hsz : S.length = ps.length := hO2.len
  have hSp : S.Perm (qlist ps cm) := by
    have := hZp.map (·.1)
    rwa [fst_zipIdx, ← hSZ] at this
  have hLS : ∀ q ∈ S, Lies w0 R q.2.1 q.2.2 ∧ q.1.size ≤ 140737488355328 := fun q hq => qlist_lies H.out (hSp.mem_iff.1 hq)
  have hstrip : (keepTo (fun a : Q => (strip a).1) S ps.length).map strip = putAll ps := by
    have h1 := keepTo_map strip (·.1) S ps.length
    rw [h1, hSZ, List.map_map]
    refine keep_putAll hZ hZp (by rw [List.length_zipIdx, qlist_len]) fun i hi h2 => ?_
    rw [List.getElem_zipIdx, qlist_get]
    exact ⟨rfl, by simp⟩
  have hB2 : Below w.heap.size w w2 := (bunbox hB (Nat.le_refl _) (by simp)).grown hG2 (by have := hB.size; simp at this; omega) (by simp; simp at hge; omega)
  have hcell : ∀ i, i < 6 → ∃ u, w2.cell? ⟨w.heap.size, i, none⟩ = some u := fun i hi => ⟨_, by
    rw [World.cell?_of_block (hG2.block _ (by have := hB.size; simp at this; simp; omega) (by simp; simp at hge; omega))]
    exact box_cell hB (by simp) (Array.getElem?_eq_getElem (show i < 6 from hi))⟩
  have hfroz : ∀ j, w2.frozen? ⟨w.heap.size, j, none⟩ = false := fun j => by
    rw [World.frozen?_of_block (hG2.block _ (by have := hB.size; simp at this; simp; omega) (by simp; simp at hge; omega)), hB.frozen (p := ⟨w.heap.size, j, none⟩) (by simp), World.frozen?_alloc_new]
  have HFz := Lib.hid hfroz
  have hBw := bstep hw hB2 hw.size
  have hlt2 : w.heap.size < w2.heap.size := by have := hB.size; have := hG2.size; simp at *; omega
  have HO2 := Lib.hid hO2
  have HL := Lib.hid hLS
  have HT := Lib.hid hstrip
  have HCe := Lib.hid hcell
  clear hO2 hLS hstrip hcell hfroz hB hG2
  clear HS hZ hZp hSp hSZ
  go_wp2_with fail
  go_loopw [4, 13] (fun vk vi wr => ∃ (j : Nat) (K : List Q), vi = .int .i64 j ∧ KeptP w2.heap.size wr S j vk K ∧ Below w2.heap.size w2 wr) (fun _ vi _ => ps.length - (intOf vi).toNat)
  case atStart => exact ⟨0, [], rfl, ⟨World.ownsRow_nil w2 _ _ _, fun i hi => absurd hi (by simp), fun i hi => absurd hi (by simp), rfl, by omega⟩, Below.refl _ _⟩
  case round =>
    obtain ⟨j, K, rfl, hK, hbw⟩ := hrel
    have hj := hK.le
    have hbr := bstep hBw hbw (by have := hBw.size; omega)
    by_cases hjl : j < S.length
    · obtain ⟨k, b, m, s, la, ll, lc, ma, ml, mc, eq, r0, r1, r2, r3, r4, r5, r6⟩ := (HO2.out.kept hbw).row j hjl
      have hq := HL.out S[j] (List.getElem_mem _)
      have HK := Lib.hid hK
      clear hK
      have hl : decide ((j : Int) < (ps.length : Int)) = true := by simp; omega
      have e3 : IntKind.i64.wrap ((j : Int) + 1) = (j : Int) + 1 := IntWalk.i64_in _ (by omega)
      have e4 : (0 : Int) ≤ (j : Int) + 1 := by omega
      have e5 : ((j : Int) + 1).toNat = j + 1 := by omega
      by_cases hkeep : ∀ h : j + 1 < S.length, S[j + 1].1 ≠ S[j].1
      · have CP := Lib.hid (fun w hw => clonePair_any (w0 := w0) (p := strip S[j]) hq.1 (fun w hw => tClone_any hq.1 w hw) w hw)
        simp only [strip, eq] at CP
        have HKe := Lib.hid hkeep
        by_cases hlast : j + 1 = S.length
        focus
          have e2 : ((j : Int) + 1 == (ps.length : Int)) = true := by simp; omega
          clear hkeep
          go_wp2_with fail
          go_quiet (fail)
        rotate_left
        focus
          have e2 : ((j : Int) + 1 == (ps.length : Int)) = false := by simp; omega
          have hj1 : j + 1 < S.length := by omega
          have hj2 : (j : Int) + 1 < (ps.length : Int) := by omega
          have hj3 : j + 1 < ps.length := by omega
          have hne := str_ne (hkeep hj1)
          have hne2 : (S[j + 1].1.toList != S[j].1.toList) = true := by simp [bne, hne]
          obtain ⟨k', b', m', s', la', ll', lc', ma', ml', mc', eq', r0', r1', r2', r3', r4', r5', r6'⟩ := (HO2.out.kept hbw).row (j + 1) hj1
          have x0 := cells_frame (Below.alloc (Below.refl _ _) (Nat.le_refl _) (.cells #[.string S[j].1, .int .i64 k, .bool b, .int .i64 m, .string s, .slice la ll lc, .slice ma ml mc] 48)) r0'
          clear eq' r0' r1' r2' r3' r4' r5' r6'
          clear hkeep
          go_wp2_with fail
          go_quiet (fail)
        all_goals
          go_wp2_with fail
          refine (CP.out _ (bdrewN (bbox hbr _ hbr.size) _)).mono ?_
          rintro e w3 ⟨ds, rfl, hL, hb1⟩
          obtain ⟨d0, d1, d2, d3, d4, d4l, d4c, d5, d5l, d5c, rfl⟩ := hL.six
          have hbW := (bdrewN (bbox (Below.refl wr.heap.size wr) (.cells #[.string S[j].1, .int .i64 k, .bool b, .int .i64 m, .string s, .slice la ll lc, .slice ma ml mc] 48) (Nat.le_refl _)) nq).trans (hb1.mono (by simp))
          have hLw := hL.weaken (R' := fun b => wr.heap.size ≤ b) (fun b hb => by simp at hb; omega)
          have own2 := HK.out.own.kept (grown_of_below hbW none) (by cases u4.ownBlock <;> simp)
          have hKl := HK.out.len
          have hrs := hbr.size
          have hws := hbw.size
          have hw3 := hbW.size
          have hLw2 := Lib.hid hLw
          have hbW2 := Lib.hid hbW
          clear hLw hbW hL hb1
          go_wp2_with (at_builtin; refine wpList_append_own_at _ rfl (.tmp 34) (.tmp 37) 26 rfl w2.heap.size 48 i0 _ 7 104 Tryz.underlying26 hi hz0 hz1 hz2 rfl (by decide) _ _ _ rfl (own2.alloc _) ⟨w3.heap.size, 0, none⟩ 1 1 [.string S[j].1, .int .i64 d0, .bool d1, .int .i64 d2, .string d3, .slice d4 d4l d4c, .slice d5 d5l d5c] rfl rfl ?c1 ?c2 ?c3 ?c4 ?c5 ?_)
          case c1 => exact fun j u hu => lit_cells w3 _ _ j u hu
          case c2 =>
            intro u hu
            simp at hu
            rcases hu with rfl | rfl | rfl | rfl | rfl | rfl | rfl <;> rfl
          case c3 => unfold maxLen; omega
          case c4 => omega
          case c5 => simp; omega
          intro v4 w4 own4 hg4 hnil4 hat4
          have hK4 := HK.out.step hws hjl HKe.out hq.2 hbW2.out hLw2.out own4 hg4 (by simpa using hat4)
          have hb4 : Below w2.heap.size w2 w4 := ((bstep hbw hbW2.out hws).alloc (by omega) _).grown hg4 (by simp; omega) (fun k hk => (HK.out.own.lt k hk).1)
          have HK4 := Lib.hid hK4
          have hb4' := Lib.hid hb4
          clear hK4 hb4 own4 hg4 hnil4 hat4
          go_wp2_with fail
          go_roundw
          case rel => exact ⟨j + 1, _, by go_num, HK4.out, hb4'.out⟩
          case measure => simp [intOf]; omega
      · have hj1 : j + 1 < S.length := Classical.byContradiction fun hc => hkeep fun h1 => absurd h1 hc
        have he : S[j + 1].1 = S[j].1 := Classical.byContradiction fun hc => hkeep fun h1 => hc
        clear hkeep
        have hj3 : j + 1 < ps.length := by rw [← hsz]; exact hj1
        have HE := Lib.hid he
        clear he
        have hj2 : (j : Int) + 1 < (ps.length : Int) := by omega
        have e2 : ((j : Int) + 1 == (ps.length : Int)) = false := by simp; omega
        have hne : (S[j + 1].1.toList == S[j].1.toList) = true := by rw [HE.out]; simp
        have hne2 : (S[j + 1].1.toList != S[j].1.toList) = false := by rw [HE.out]; simp
        obtain ⟨k', b', m', s', la', ll', lc', ma', ml', mc', eq', r0', r1', r2', r3', r4', r5', r6'⟩ := (HO2.out.kept hbw).row (j + 1) hj1
        have x0 := cells_frame (Below.alloc (Below.refl _ _) (Nat.le_refl _) (.cells #[.string S[j].1, .int .i64 k, .bool b, .int .i64 m, .string s, .slice la ll lc, .slice ma ml mc] 48)) r0'
        clear eq' r0' r1' r2' r3' r4' r5' r6'
        go_wp2_with fail
        go_quiet (fail)
        go_wp2_with fail
        have hbn := bdrewN (bbox (Below.refl wr.heap.size wr) (.cells #[.string S[j].1, .int .i64 k, .bool b, .int .i64 m, .string s, .slice la ll lc, .slice ma ml mc] 48) (Nat.le_refl _)) nq
        go_roundw
        case rel => exact ⟨j + 1, K, by go_num, HK.out.skip hbn hj1 HE.out, bstep hbw hbn hbw.size⟩
        case measure => simp [intOf]; omega
    · obtain rfl : j = S.length := by omega
      have hKl := hK.len
      obtain ⟨ra, rcap, rcm, rfl, hS⟩ := hK.done (by omega)
      have hres := hK.res
      have HSl := Lib.hid hS
      have HR := Lib.hid hres
      clear hS hK hres
      have hl : decide ((S.length : Int) < (ps.length : Int)) = false := by simp; omega
      have hcr : ∀ i, i < 6 → ∃ u, wr.cell? ⟨w.heap.size, i, none⟩ = some u := fun i hi => by
        rw [hbw.cell (p := ⟨w.heap.size, i, none⟩) hlt2]
        exact HCe.out i hi
      have hfr : ∀ j, wr.frozen? ⟨w.heap.size, j, none⟩ = false := fun j => by rw [hbw.frozen (p := ⟨w.heap.size, j, none⟩) hlt2]; exact HFz.out j
      obtain ⟨g0, hg0⟩ := hcr 0 (by omega)
      obtain ⟨g1, hg1⟩ := hcr 1 (by omega)
      obtain ⟨g2, hg2⟩ := hcr 2 (by omega)
      obtain ⟨g3, hg3⟩ := hcr 3 (by omega)
      obtain ⟨g4, hg4⟩ := hcr 4 (by omega)
      obtain ⟨g5, hg5⟩ := hcr 5 (by omega)
      have HCr := Lib.hid hcr
      have HFr := Lib.hid hfr
      have r2 := hfr
      clear hcr hfr
      go_wp2_with fail
      obtain ⟨dd, hu, hdd⟩ := Tryz.structV
      refine ret_cells wr w.heap.size [.int .i64 5, .bool false, .int .i64 0, .string ⟨#[]⟩, .slice none 0 0, .slice ra K.length rcap] rfl Tryz.results71 rfl rfl hdd hu Tryz.sizeV HCr.out ?_
      have hKe : K.map strip = putAll ps := by
        have h2 := HR.out
        rw [hsz] at h2
        exact h2.trans HT.out
      refine ⟨_, rfl, ?_, setRow_below _ (Nat.le_refl _) _ _ _ (bstep hB2 hbw hB2.size)⟩
      have hfin := (HSl.out.keepB (w' := setRow wr w.heap.size 0 [.int .i64 5, .bool false, .int .i64 0, .string ⟨#[]⟩, .slice none 0 0, .slice ra K.length rcap]) (fun b hb _ => setRow_heap _ _ _ _ _ (by omega))).weaken (R' := fun b => w.heap.size ≤ b) (fun b hb => by omega)
      have hL := Lies.of_slices (k := 5) (n := 0) (b := false) (s := ⟨#[]⟩) (l := []) (la := none) (lc := 0) (cl := fun _ => #[]) wf5 wf0 empty_size (empty_sliceV _ _) hfin
      have hT : (T.mk 5 false 0 ⟨#[]⟩ [] (putAll ps)) = .mk 5 false 0 ⟨#[]⟩ [] (K.map strip) := by rw [hKe]
      rw [hT]
      rw [List.length_map] at hL
      exact hL
theorem tMap_any {w0 : World} {R : Nat → Prop} {ps : List (ByteArray × T)} {a : Option Addr} {cap : Nat} {cm : Nat → Array Value} (h : SliceP w0 R ps a cap cm) (hp2 : ps.length ≤ 1000000) (hz : ps.length = 0 → a = none ∧ cap = 0) (w : World) (hw : Below w0.heap.size w0 w) :
    Calls Tryz.prog 71 #[.slice a ps.length cap] w (MadeAll w ps) := by
  by_cases hp : 0 < ps.length
  · exact tMap_some h hp hp2 w hw
  · obtain ⟨rfl, rfl⟩ := hz (by omega)
    obtain rfl : ps = [] := List.eq_nil_of_length_eq_zero (by omega)
    refine (tMap_nil w).mono ?_
    rintro e w' ⟨rfl, hb⟩
    exact ⟨_, rfl, lies_map0 _ _, hb⟩
end Go.Proofs.YthjdeckdklhphaaGreatDoor
