/-
  The reference's Parse of a path.
-/
import Derived.Test.YtlniokpekcoodaaGreatDoorWordBM
import Derived.Test.YtlniokpekcoodaaGreatDoorPathY
import Derived.Test.YtlniokpekcoodaaGreatDoorSpecsM
import Derived.Deep.AppendLies
import Derived.Test.YtlniokpekcoodaaGreatDoorBareM
set_option linter.unusedVariables false
set_option linter.unusedSimpArgs false
namespace Go.Proofs.YtlniokpekcoodaaGreatDoor
open Go.RowKit

theorem Tryz.infoT : ∃ i, Tryz.prog.info? 9 = some i ∧ i.zero = some (.string ⟨#[]⟩) ∧ i.size = 1 ∧ i.bytes = 16 := by
  have h : (Tryz.prog.info? 9).map (fun i => (i.zero, i.size, i.bytes)) = some (some (.string ⟨#[]⟩), 1, 16) := by kernel_rfl
  cases e : Tryz.prog.info? 9 with
  | none => rw [e] at h; cases h
  | some i =>
    rw [e] at h
    simp only [Option.map_some, Option.some.injEq, Prod.mk.injEq] at h
    exact ⟨i, rfl, h.1, h.2.1, h.2.2⟩
/-- The steps so far, as texts. -/
def cutT (l : List UInt8) : List ByteArray := (cutD l).map fun x => ⟨x.toArray⟩
theorem cutT_len (l : List UInt8) : (cutT l).length = (cutD l).length := List.length_map _
theorem cutT_dat (l : List UInt8) : datS (cutT l) = cutD l := by
  unfold datS cutT
  rw [List.map_map]
  conv => rhs; rw [← List.map_id (cutD l)]
  exact List.map_congr_left fun s _ => rfl
theorem cutT_sizes (l : List UInt8) : ∀ x ∈ cutT l, x.size ≤ l.length := by
  intro x hx
  obtain ⟨y, hy, rfl⟩ := List.mem_map.1 hx
  have h := cut_sizes ⟨l.toArray⟩ y hy
  rw [Lib.size_eq] at h ⊢
  exact h
theorem take_more (s : ByteArray) (k : Nat) (h : k < s.size) : s.data.toList.take (k + 1) = s.data.toList.take k ++ [s[k]] := by
  have h2 : k < s.data.toList.length := by rw [← Lib.size_eq]; exact h
  rw [List.take_succ_eq_append_getElem h2]
  congr 2
theorem cutT_dot (s : ByteArray) (k : Nat) (h : k < s.size) (hc : s[k] = 46) : cutT (s.data.toList.take (k + 1)) = cutT (s.data.toList.take k) ++ [⟨#[]⟩] := by
  rw [take_more s k h]
  unfold cutT
  rw [cutD_snoc, moreD, if_pos hc, List.map_append]
  rfl
theorem cutT_byte (s : ByteArray) (k : Nat) (h : k < s.size) (hc : ¬ s[k] = 46) (n : Nat) (hn : (cutT (s.data.toList.take k)).length = n + 1) (hl : n < (cutT (s.data.toList.take k)).length) :
    cutT (s.data.toList.take (k + 1)) = (cutT (s.data.toList.take k)).set n ((cutT (s.data.toList.take k))[n] ++ s.extract k (k + 1)) := by
  have hne := cutD_ne (s.data.toList.take k)
  have hx : (s.extract k (k + 1)).data.toList = [s[k]] := by
    rw [Lib.extract_data]
    have h2 : k < s.data.toList.length := by rw [← Lib.size_eq]; exact h
    have := List.take_succ_eq_append_getElem h2
    rw [show k + 1 - k = 1 by omega, List.drop_eq_getElem_cons h2]
    rfl
  have e : cutT (s.data.toList.take (k + 1)) = ((cutD (s.data.toList.take k)).dropLast ++ [(cutD (s.data.toList.take k)).getLastD [] ++ [s[k]]]).map fun x => ⟨x.toArray⟩ := by
    rw [take_more s k h]
    unfold cutT
    rw [cutD_snoc, moreD, if_neg hc]
  rw [e]
  unfold cutT at hn hl ⊢
  generalize cutD (s.data.toList.take k) = L at *
  rw [List.length_map] at hn
  obtain ⟨A, x, rfl⟩ : ∃ A x, L = A ++ [x] := ⟨L.dropLast, L.getLast hne, (List.dropLast_concat_getLast hne).symm⟩
  have hA : A.length = n := by simp at hn; exact hn
  subst hA
  have ex : (((A ++ [x]).map fun x => (⟨x.toArray⟩ : ByteArray))[A.length]'hl) = ⟨x.toArray⟩ := by simp
  rw [ex]
  have ey : (⟨(x ++ [s[k]]).toArray⟩ : ByteArray) = ⟨x.toArray⟩ ++ s.extract k (k + 1) := by
    rw [← Lib.mk_data (⟨x.toArray⟩ ++ s.extract k (k + 1))]
    congr 1
    rw [ByteArray.data_append, Array.toList_append, hx]
  simp [ey]

set_option maxRecDepth 100000 in
set_option maxHeartbeats 4000000 in
theorem r2Parse_any (s : ByteArray) (hs : s.size ≤ 1000) (w : World) :
    Calls Tryz.prog 32 #[.string s] w (Parsed w s.data.toList) := by
  obtain ⟨i0, hi, hz0, hz1, hz2⟩ := Tryz.infoT
  have HI0 := Lib.hid hi
  have HZ0 := Lib.hid hz0
  have HZ1 := Lib.hid hz1
  have HZ2 := Lib.hid hz2
  clear hi hz0 hz1 hz2
  go_enter Tryz.func32, Tryz.ntmps32
  go_wp2_with fail
  go_loopw [4, 5] (fun v4 vi wr => ∃ (k g c : Nat) (K : List ByteArray), k ≤ s.size ∧ vi = .int .i64 k ∧ v4 = .slice (some ⟨g, 0, none⟩) K.length c ∧ Hid (K = cutT (s.data.toList.take k)) ∧ Hid (wr.ownsRow w.heap.size 9 1 (.slice (some ⟨g, 0, none⟩) K.length c) K.length (K.map Value.string)) ∧ Hid (Below w.heap.size w wr)) (fun _ vi _ => s.size - (intOf vi).toNat)
  case atStart => exact ⟨0, w.heap.size, 1, [⟨#[]⟩], Nat.zero_le _, rfl, rfl, rfl, World.ownsRow_lit w #[.string ⟨#[]⟩] 1 (Nat.le_refl _) (by decide) rfl, (Below.refl w.heap.size w).alloc (Nat.le_refl _) _⟩
  case round =>
    obtain ⟨k, g, c, K, hk, rfl, rfl, HK, HO, HB⟩ := hrel
    have hpos : 0 < K.length := by
      rw [HK.out, cutT_len]
      exact List.length_pos_iff.2 (cutD_ne _)
    have hKl : K.length ≤ k + 1 := by
      rw [HK.out, cutT_len, cutD_len]
      have := List.count_le_length (a := (46 : UInt8)) (l := s.data.toList.take k)
      rw [List.length_take] at this
      omega
    by_cases hkl : k < s.size
    · have hc := s[k].toNat_lt
      by_cases hd : s[k] = 46
      · have hq : ((s[k].toNat : Int) == 46) = true := by rw [hd]; rfl
        have HD := Lib.hid (cutT_dot s k hkl hd)
        clear hd
        go_upto_region 6 with fail
        have OWN := Lib.hid (HO.out.alloc (.cells #[.string ⟨#[]⟩] 9))
        go_wp2_with (at_builtin; go_loud (refine wpList_append_own_any _ rfl (.tmp 18) (.tmp 19) 26 rfl w.heap.size 9 i0 _ 1 16 Tryz.underlying26 HI0.out HZ0.out HZ1.out HZ2.out (by rfl) (by decide) (.slice (some ⟨g, 0, none⟩) K.length c) K.length _ rfl OWN.out (some ⟨wr.heap.size, 0, none⟩) 1 1 [.string ⟨#[]⟩] rfl rfl (fun h => by cases h) ?c1 ?c2 ?c3 ?c4 ?c5 ?_))
        case c1 =>
          intro ad h j' u' hu
          injection h with h
          subst h
          exact lit_cells wr _ _ j' u' hu
        case c2 =>
          intro u' hu
          simp at hu
          rcases hu with rfl <;> rfl
        case c3 => unfold maxLen; omega
        case c4 => omega
        case c5 => have := HB.out.size; simp; omega
        intro v7 w7 own7 hg7 hob7
        obtain ⟨g7, c7, rfl, -, -⟩ := own7.form (by omega)
        obtain ⟨K7, eK7⟩ : ∃ K7, K7 = K ++ [(⟨#[]⟩ : ByteArray)] := ⟨_, rfl⟩
        have hlen7 : K7.length = K.length + 1 := by rw [eK7, List.length_append]; rfl
        have HK7 : Hid (K7 = cutT (s.data.toList.take (k + 1))) := by show _ = _; rw [eK7, HK.out]; exact HD.out.symm
        have HO7 : Hid (w7.ownsRow w.heap.size 9 1 (.slice (some ⟨g7, 0, none⟩) K7.length c7) K7.length (K7.map Value.string)) := by
          show World.ownsRow _ _ _ _ _ _ _
          rw [hlen7, eK7, List.map_append]
          exact own7
        have HB7 : Hid (Below w.heap.size w w7) := (HB.out.alloc (by have := HB.out.size; omega) _).grown hg7 (by have := HB.out.size; simp; omega) (fun b hb => (HO.out.lt b hb).1)
        clear own7 hg7 hob7 OWN HD eK7
        go_wp2_with fail
        go_roundw
        case rel => exact ⟨k + 1, g7, c7, K7, by omega, by go_num, by rw [hlen7], HK7.out, HO7.out, HB7.out⟩
        case measure => simp [intOf]; omega
      · have hq : ((s[k].toNat : Int) == 46) = false := by
          rw [beq_eq_false_iff_ne]
          intro e
          exact hd (UInt8.toNat_inj.1 (by show s[k].toNat = 46; omega))
        obtain ⟨n, hn⟩ : ∃ n, K.length = n + 1 := ⟨K.length - 1, by omega⟩
        have hnl : n < K.length := by omega
        have HE : Hid (K.set n (K[n] ++ s.extract k (k + 1)) = cutT (s.data.toList.take (k + 1))) := by
          have h := HK.out
          subst h
          exact (cutT_byte s k hkl hd n hn hnl).symm
        have hxs : K[n].size ≤ 1000 := by
          have h1 : K[n] ∈ K := List.getElem_mem hnl
          have h2 : K[n] ∈ cutT (s.data.toList.take k) := by rw [← HK.out]; exact h1
          have h3 := cutT_sizes _ _ h2
          rw [List.length_take] at h3
          omega
        have r0 := HO.out.cellAt n (by omega)
        rw [List.getElem?_map, List.getElem?_eq_getElem hnl, Option.map_some] at r0
        have f0 := HO.out.frozenAt n
        have hes : (s.extract k (k + 1)).size ≤ 1 := by rw [ByteArray.size_extract]; omega
        obtain ⟨X, hX⟩ : ∃ X, X = K[n] := ⟨_, rfl⟩
        rw [← hX] at hxs r0 HE
        have hlt := HO.out.lt g rfl
        have hgl := hlt.2
        rw [hn] at HO ⊢
        have hn9 : n ≤ 1000 := by omega
        have wn : IntKind.i64.wrap (n : Int) = n := IntWalk.i64_in n (by omega)
        have wk : IntKind.i64.wrap ((k : Int) + 1) = (k : Int) + 1 := by rw [show (k : Int) + 1 = ((k + 1 : Nat) : Int) by omega]; exact IntWalk.i64_in _ (by omega)
        clear hd hX
        go_upto_region 7 with fail
        refine wp_region_specs2 wr 17 (fun i => 21 + i) (fun i x wx => match i with | 0 => x = .slice (some ⟨g, 0, none⟩) (n + 1) c | 1 => x = .slice (some ⟨g, 0, none⟩) (n + 1) c | 2 => x = .int .i64 ((n + 1 : Nat) : Int) | 3 => x = .int .i64 (n : Int) | 4 => x = .slice (some ⟨g, 0, none⟩) (n + 1) c | 5 => x = .slice (some ⟨g, 0, none⟩) (n + 1) c | 6 => x = .int .i64 ((n + 1 : Nat) : Int) | 7 => x = .int .i64 (n : Int) | 8 => x = .pointer (some ⟨g, n, none⟩) | 9 => x = .string X | 10 => x = .string s | 11 => x = .int .i64 (k : Int) | 12 => x = .int .i64 (k : Int) | 13 => x = .int .i64 ((k : Int) + 1) | 14 => x = .string (s.extract k (k + 1)) | 15 => x = .string (X ++ s.extract k (k + 1)) | 16 => x = .pointer (some ⟨g, n, none⟩) | _ => True) (fun _ wx => ∃ wb, Below wr.heap.size wr wb ∧ wx = wb.setCell ⟨g, n, none⟩ (.string (X ++ s.extract k (k + 1)))) (by kernel_rfl) (by kernel_rfl) ?s1 (Below.refl _ _) ?s2 ?s3 ?s4 ?s5
        case s1 => intro i hi; exact Nat.lt_of_lt_of_le (show 21 + i < 54 by omega) (Nat.le_refl 54)
        case s2 =>
          intro i x w1 w2 hb hU
          match i, hU with
          | 3, h => exact h
          | 7, h => exact h
          | 8, h => exact h
          | 13, h => exact h
          | 14, h => exact h
          | 15, h => exact h
          | 16, h => exact h
          | 0, h | 1, h | 2, h | 4, h | 5, h | 6, h | 9, h | 10, h | 11, h | 12, h => exact h
          | (n + 17), _ => trivial
        case s3 =>
          intro i o ac wb K' ho hi hA hB hdep hK
          have sv0 : ac.tmps[0]?.getD undef = .string s := hA.sl (t := 0) (by decide)
          have sv4 : ac.tmps[4]?.getD undef = .slice (some ⟨g, 0, none⟩) (n + 1) c := hA.sl (t := 4) (by decide)
          have sv5 : ac.tmps[5]?.getD undef = .int .i64 (k : Int) := hA.sl (t := 5) (by decide)
          have r0 := cells_frame hB r0
          have f0 := (hB.frozen (p := ⟨g, n, none⟩) hgl).trans f0
          rcases (by omega : i = 0 ∨ i = 1 ∨ i = 2 ∨ i = 3 ∨ i = 4 ∨ i = 5 ∨ i = 6 ∨ i = 7 ∨ i = 8 ∨ i = 9 ∨ i = 10 ∨ i = 11 ∨ i = 12 ∨ i = 13 ∨ i = 14 ∨ i = 15 ∨ i = 16) with rfl | rfl | rfl | rfl | rfl | rfl | rfl | rfl | rfl | rfl | rfl | rfl | rfl | rfl | rfl | rfl | rfl
          · simp at ho
            subst ho
            clear hdep hA
            go_simp
            exact hK _ wb (Below.refl _ _) rfl
          · simp at ho
            subst ho
            clear hdep hA
            go_simp
            exact hK _ wb (Below.refl _ _) rfl
          · simp at ho
            subst ho
            have y1 : ac.tmps[22]?.getD undef = .slice (some ⟨g, 0, none⟩) (n + 1) c := hdep { on := 1, ground := .data } (by simp) rfl
            clear hdep hA
            go_simp
            exact hK _ wb (Below.refl _ _) rfl
          · simp at ho
            subst ho
            have y2 : ac.tmps[23]?.getD undef = .int .i64 ((n + 1 : Nat) : Int) := hdep { on := 2, ground := .data } (by simp) rfl
            clear hdep hA
            go_simp
            exact hK _ wb (Below.refl _ _) rfl
          · simp at ho
            subst ho
            clear hdep hA
            go_simp
            exact hK _ wb (Below.refl _ _) rfl
          · simp at ho
            subst ho
            clear hdep hA
            go_simp
            exact hK _ wb (Below.refl _ _) rfl
          · simp at ho
            subst ho
            have y5 : ac.tmps[26]?.getD undef = .slice (some ⟨g, 0, none⟩) (n + 1) c := hdep { on := 5, ground := .data } (by simp) rfl
            clear hdep hA
            go_simp
            exact hK _ wb (Below.refl _ _) rfl
          · simp at ho
            subst ho
            have y6 : ac.tmps[27]?.getD undef = .int .i64 ((n + 1 : Nat) : Int) := hdep { on := 6, ground := .data } (by simp) rfl
            clear hdep hA
            go_simp
            exact hK _ wb (Below.refl _ _) rfl
          · simp at ho
            subst ho
            have y4 : ac.tmps[25]?.getD undef = .slice (some ⟨g, 0, none⟩) (n + 1) c := hdep { on := 4, ground := .data } (by simp) rfl
            have y7 : ac.tmps[28]?.getD undef = .int .i64 (n : Int) := hdep { on := 7, ground := .data } (by simp) rfl
            clear hdep hA
            go_simp
            rw [if_pos (by omega)]
            exact hK _ wb (Below.refl _ _) rfl
          · simp at ho
            subst ho
            have y8 : ac.tmps[29]?.getD undef = .pointer (some ⟨g, n, none⟩) := hdep { on := 8, ground := .data } (by simp) rfl
            clear hdep hA
            go_simp
            exact hK _ wb (Below.refl _ _) rfl
          · simp at ho
            subst ho
            clear hdep hA
            go_simp
            exact hK _ wb (Below.refl _ _) rfl
          · simp at ho
            subst ho
            clear hdep hA
            go_simp
            exact hK _ wb (Below.refl _ _) rfl
          · simp at ho
            subst ho
            clear hdep hA
            go_simp
            exact hK _ wb (Below.refl _ _) rfl
          · simp at ho
            subst ho
            have y12 : ac.tmps[33]?.getD undef = .int .i64 (k : Int) := hdep { on := 12, ground := .data } (by simp) rfl
            clear hdep hA
            go_simp
            exact hK _ wb (Below.refl _ _) rfl
          · simp at ho
            subst ho
            have y10 : ac.tmps[31]?.getD undef = .string s := hdep { on := 10, ground := .data } (by simp) rfl
            have y11 : ac.tmps[32]?.getD undef = .int .i64 (k : Int) := hdep { on := 11, ground := .data } (by simp) rfl
            have y13 : ac.tmps[34]?.getD undef = .int .i64 ((k : Int) + 1) := hdep { on := 13, ground := .data } (by simp) rfl
            clear hdep hA
            go_simp
            rw [if_pos (by omega), if_pos (by omega)]
            exact hK _ wb (Below.refl _ _) rfl
          · simp at ho
            subst ho
            have y9 : ac.tmps[30]?.getD undef = .string X := hdep { on := 9, ground := .data } (by simp) rfl
            have y14 : ac.tmps[35]?.getD undef = .string (s.extract k (k + 1)) := hdep { on := 14, ground := .data } (by simp) rfl
            clear hdep hA
            go_simp
            first | (exact hK _ wb (Below.refl _ _) rfl) | (rw [if_neg (by omega)]; exact hK _ wb (Below.refl _ _) rfl) | (rw [if_neg (by omega)]; go_simp; exact hK _ wb (Below.refl _ _) rfl)
          · simp at ho
            subst ho
            have y0 : ac.tmps[21]?.getD undef = .slice (some ⟨g, 0, none⟩) (n + 1) c := hdep { on := 0, ground := .data } (by simp) rfl
            have y3 : ac.tmps[24]?.getD undef = .int .i64 (n : Int) := hdep { on := 3, ground := .data } (by simp) rfl
            clear hdep hA
            go_simp
            rw [if_pos (by omega)]
            exact hK _ wb (Below.refl _ _) rfl
        case s4 =>
          intro o ac wb K' ho hA hB hU hK
          have sv0 : ac.tmps[0]?.getD undef = .string s := hA.sl (t := 0) (by decide)
          have sv4 : ac.tmps[4]?.getD undef = .slice (some ⟨g, 0, none⟩) (n + 1) c := hA.sl (t := 4) (by decide)
          have sv5 : ac.tmps[5]?.getD undef = .int .i64 (k : Int) := hA.sl (t := 5) (by decide)
          have r0 := cells_frame hB r0
          have f0 := (hB.frozen (p := ⟨g, n, none⟩) hgl).trans f0
          simp at ho
          subst ho
          have y16 : ac.tmps[37]?.getD undef = .pointer (some ⟨g, n, none⟩) := hU 16 (by omega)
          have y15 : ac.tmps[36]?.getD undef = .string (X ++ s.extract k (k + 1)) := hU 15 (by omega)
          clear hU hA
          go_simp
          exact hK _ ⟨wb, hB, rfl⟩
        case s5 =>
          intro ac wn hA hF
          have hs : slots 17 (fun i => 21 + i) = [21, 22, 23, 24, 25, 26, 27, 28, 29, 30, 31, 32, 33, 34, 35, 36, 37] := by rfl
          rw [hs] at hA
          have hac := hA.act (fun t ht => by
            have h8 : t = 21 ∨ t = 22 ∨ t = 23 ∨ t = 24 ∨ t = 25 ∨ t = 26 ∨ t = 27 ∨ t = 28 ∨ t = 29 ∨ t = 30 ∨ t = 31 ∨ t = 32 ∨ t = 33 ∨ t = 34 ∨ t = 35 ∨ t = 36 ∨ t = 37 := by simpa using ht
            rcases h8 with rfl | rfl | rfl | rfl | rfl | rfl | rfl | rfl | rfl | rfl | rfl | rfl | rfl | rfl | rfl | rfl | rfl <;> exact Nat.lt_of_lt_of_le (by decide : _ < 54) (Nat.le_refl 54))
          rw [List.foldl_cons, List.foldl_cons, List.foldl_cons, List.foldl_cons, List.foldl_cons, List.foldl_cons, List.foldl_cons, List.foldl_cons, List.foldl_cons, List.foldl_cons, List.foldl_cons, List.foldl_cons, List.foldl_cons, List.foldl_cons, List.foldl_cons, List.foldl_cons, List.foldl_cons, List.foldl_nil] at hac
          generalize sl ac 21 = x21 at hac
          generalize sl ac 22 = x22 at hac
          generalize sl ac 23 = x23 at hac
          generalize sl ac 24 = x24 at hac
          generalize sl ac 25 = x25 at hac
          generalize sl ac 26 = x26 at hac
          generalize sl ac 27 = x27 at hac
          generalize sl ac 28 = x28 at hac
          generalize sl ac 29 = x29 at hac
          generalize sl ac 30 = x30 at hac
          generalize sl ac 31 = x31 at hac
          generalize sl ac 32 = x32 at hac
          generalize sl ac 33 = x33 at hac
          generalize sl ac 34 = x34 at hac
          generalize sl ac 35 = x35 at hac
          generalize sl ac 36 = x36 at hac
          generalize sl ac 37 = x37 at hac
          clear hA hs
          subst hac
          simp only [Act.put, List.setIfInBounds_toArray, List.set_cons_succ, List.set_cons_zero]
          obtain ⟨wb, hbu, rfl⟩ := hF
          have hO2 := own_same HO.out (hbu.block g hgl)
          have hst := hO2.stored n (.string (X ++ s.extract k (k + 1)))
          have HB2 : Hid (Below w.heap.size w (wb.setCell ⟨g, n, none⟩ (.string (X ++ s.extract k (k + 1))))) := (bstep HB.out hbu HB.out.size).grown hst.2 (by have := HB.out.size; have := hbu.size; omega) (fun b hb => by
            injection hb with hb
            subst hb
            exact hlt.1)
          obtain ⟨K7, eK7⟩ : ∃ K7, K7 = K.set n (X ++ s.extract k (k + 1)) := ⟨_, rfl⟩
          have hlen7 : K7.length = n + 1 := by rw [eK7, List.length_set, hn]
          have HO2 : Hid ((wb.setCell ⟨g, n, none⟩ (.string (X ++ s.extract k (k + 1)))).ownsRow w.heap.size 9 1 (.slice (some ⟨g, 0, none⟩) K7.length c) K7.length (K7.map Value.string)) := by
            show World.ownsRow _ _ _ _ _ _ _
            rw [hlen7, eK7, List.map_set]
            exact hst.1
          rw [← eK7] at HE
          clear hO2 hst eK7 HO HB HK r0 f0
          generalize (wb.setCell ⟨g, n, none⟩ (.string (X ++ s.extract k (k + 1)))) = w8 at *
          go_wp2_with fail
          go_roundw
          case rel => exact ⟨k + 1, g, c, K7, by omega, by go_num, by rw [hlen7], HE.out, HO2.out, HB2.out⟩
          case measure => simp [intOf]; omega
    · obtain rfl : k = s.size := by omega
      have hfull : s.data.toList.take s.size = s.data.toList := List.take_of_length_le (by rw [← Lib.size_eq]; exact Nat.le_refl _)
      rw [hfull] at HK
      have HKD : Hid (datS K = cutD s.data.toList) := by show _ = _; rw [HK.out]; exact cutT_dat _
      have hKn : K.length = (cutD s.data.toList).length := by rw [← HKD.out]; unfold datS; rw [List.length_map]
      by_cases h16 : 16 ≤ K.length
      · have hz : ((K.length : Int) ≥ 16) := by omega
        have HP : Hid (parseD s.data.toList = ([], 5)) := by show _ = _; unfold parseD; rw [if_pos (by omega)]
        clear hKn hfull
        go_wp2_with fail
        go_ret2
        exact ⟨[], none, 0, by rw [HP.out]; rfl, no_texts _, by rw [HP.out]; rfl, HB.out⟩
      · have hz : ¬ ((K.length : Int) ≥ 16) := by omega
        have HP : Hid (parseD s.data.toList = if wordsK K = true then (cutD s.data.toList, 0) else ([], 10)) := by
          show _ = _
          unfold parseD
          rw [if_neg (by omega), words_dat, HKD.out]
        have HSZ : Hid (∀ i (h : i < K.length), K[i].size ≤ 1000) := fun i h => by
          have h1 : K[i] ∈ K := List.getElem_mem h
          have h2 : K[i] ∈ cutT s.data.toList := by rw [← HK.out]; exact h1
          have h3 := cutT_sizes _ _ h2
          rw [← Lib.size_eq] at h3
          omega
        clear hKn hfull hkl hk hKl
        have HCL : Hid (∀ j (hj : j < K.length), wr.cell? ⟨g, j, none⟩ = some (.string K[j])) := fun j hj => by
          rw [HO.out.cellAt j (by omega), List.getElem?_map, List.getElem?_eq_getElem hj]
          rfl
        have hcap : K.length ≤ c ∧ c ≤ 9223372036854775807 := by
          rcases HO.out.2 with ⟨h, _⟩ | ⟨g2, c2, cur, h, _, _, hnc, hcm, _⟩
          · cases h
          · simp only [Value.slice.injEq, Option.some.injEq, Addr.mk.injEq, and_true, true_and] at h
            obtain ⟨rfl, rfl⟩ := h
            exact ⟨hnc, by unfold maxLen at hcm; omega⟩
        have HSL : Hid (SliceS wr K (some ⟨g, 0, none⟩) c) := by
          refine ⟨hcap.1, by omega, by simp, fun _ => ⟨_, _, rfl⟩, hcap.2, fun i hi b off e => ?_, fun i hi => by have := HSZ.out i hi; omega⟩
          simp only [Option.some.injEq, Addr.mk.injEq, and_true] at e
          obtain ⟨rfl, rfl⟩ := e
          rw [Nat.zero_add]
          exact HCL.out i hi
        clear HO HK
        go_wp2_with fail
        go_loop [6] (fun vi => ∃ j : Nat, j ≤ K.length ∧ vi = .int .i64 j ∧ Hid (∀ i (hi : i < K.length), i < j → wordL K[i].data.toList = true)) (fun vi => K.length - (intOf vi).toNat)
        case atStart => exact ⟨0, Nat.zero_le _, rfl, fun i hi h => absurd h (by omega)⟩
        case round =>
          obtain ⟨j, hj, rfl, HG⟩ := hrel
          by_cases hjl : j < K.length
          · have r0 := HCL.out j hjl
            have HC := Lib.hid (r2Word_any K[j] (by have := HSZ.out j hjl; omega))
            cases hb : wordL K[j].data.toList with
            | true =>
              have HV := Lib.hid hb
              clear hb
              have HG2 : Hid (∀ i (hi : i < K.length), i < j + 1 → wordL K[i].data.toList = true) := fun i hi h => by
                by_cases e : i = j
                · subst e; exact HV.out
                · exact HG.out i hi (by omega)
              go_wp2_with (go_at_call 13; refine (HC.out _).mono ?_; rintro e w1 ⟨he, rfl⟩; rw [HV.out] at he; subst he)
              go_round
              case rel => exact ⟨j + 1, by omega, by go_num, HG2.out⟩
              case measure => simp [intOf]; omega
            | false =>
              have HV := Lib.hid hb
              clear hb
              have HWF := Lib.hid (words_not j hjl HV.out)
              go_wp2_with (go_at_call 13; refine (HC.out _).mono ?_; rintro e w1 ⟨he, rfl⟩; rw [HV.out] at he; subst he)
              go_ret2
              exact ⟨[], none, 0, by rw [HP.out, HWF.out]; rfl, no_texts _, by rw [HP.out, HWF.out]; rfl, HB.out⟩
          · have HA : Hid (wordsK K = true) := words_upto fun i hi => HG.out i hi (by omega)
            go_wp2_with fail
            go_ret2
            exact ⟨K, _, _, by rw [HP.out, HA.out]; rfl, HSL.out, by rw [HP.out, HA.out]; exact HKD.out, HB.out⟩
end Go.Proofs.YtlniokpekcoodaaGreatDoor
