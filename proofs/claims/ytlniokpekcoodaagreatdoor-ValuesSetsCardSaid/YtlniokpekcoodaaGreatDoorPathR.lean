/-
  Package path's rebuilt.
-/
import Derived.Test.YtlniokpekcoodaaGreatDoorSpecsIM
set_option linter.unusedVariables false
set_option linter.unusedSimpArgs false
namespace Go.Proofs.YtlniokpekcoodaaGreatDoor
open Go.RowKit Go.Shelf

attribute [local go_sem] Oper.semAt_some

/-- What rebuilt comes to, place by place. -/
def rbF (ts : List T) (ks : List ByteArray) (acc : T) (i : Fin ts.length) : T := (ts[i.val]).put (ks.getD i.val ⟨#[]⟩) acc
theorem rbF_all (ts : List T) (ks : List ByteArray) (hk : ts.length ≤ ks.length) (x : T) : (backs ts.length).foldl (rbF ts ks) x = rbL ts ks x := by
  have key : ∀ k, k ≤ ts.length → ((backs ts.length).take k).foldl (rbF ts ks) x = rbL (ts.drop (ts.length - k)) (ks.drop (ts.length - k)) x := by
    intro k
    induction k with
    | zero => intro _; simp [rb_nil]
    | succ k ih =>
      intro h
      rw [backs_succ _ _ (by omega), List.foldl_append, ih (by omega), List.foldl_cons, List.foldl_nil, rbF]
      have e : ts.length - 1 - k = ts.length - (k + 1) := by omega
      simp only [e]
      rw [rb_step ts ks x (ts.length - (k + 1)) (by omega) (by omega), show ts.length - (k + 1) + 1 = ts.length - k by omega]
      congr 1
      rw [List.getD_eq_getElem?_getD, List.getElem?_eq_getElem (by omega)]
      rfl
  have := key ts.length (Nat.le_refl _)
  rw [List.take_of_length_le (by rw [backs_len]; exact Nat.le_refl _)] at this
  simpa using this

/-- Between two rounds: the steps, what has been made, the result's variable. -/
structure RbI (w : World) (RX : Nat → Prop) (sa : Option Addr) (sl sc : Nat) (t : T) (W : World) : Prop where
  steps : Boxed W w.heap.size 26 (.slice sa sl sc)
  made : ∃ xs, Box6 W (w.heap.size + 1) xs ∧ Lies W (fun b => (RX b ∧ b < w.heap.size) ∨ w.heap.size + 3 ≤ b) t xs
  thaw : Thaw W (w.heap.size + 1)
  zero : Box6 W (w.heap.size + 2) zeroV
  thaw2 : Thaw W (w.heap.size + 2)
  below : Below w.heap.size w W
  size : w.heap.size + 3 ≤ W.heap.size

theorem RbI.later {w : World} {RX : Nat → Prop} {sa : Option Addr} {sl sc : Nat} {t : T} {W W' : World} (h : RbI w RX sa sl sc t W) (hb : Below W.heap.size W W') : RbI w RX sa sl sc t W' := by
  obtain ⟨xs, h1, h2⟩ := h.made
  have hs := h.size
  exact ⟨(hb.block w.heap.size (by omega)).trans h.steps, ⟨xs, h1.later hb (by omega), h2.later hb⟩, h.thaw.later hb (by omega), h.zero.later hb (by omega), h.thaw2.later hb (by omega), bstep h.below hb h.below.size, Nat.le_trans hs hb.size⟩

theorem isCells_of_cell {w : World} {b off : Nat} {v : Value} (h : w.cell? ⟨b, off, none⟩ = some v) : ∃ o : Obj, w.heap[b]? = some o ∧ o.isCells = true := by
  unfold World.cell? at h
  cases ho : w.heap[b]? with
  | none => rw [ho] at h; cases h
  | some o =>
    rw [ho] at h
    exact ⟨o, rfl, by cases o <;> first | rfl | (cases h; done)⟩

theorem rbI_own (B : Nat) {β : Type} (f : β → T) (w : World) (RX : Nat → Prop) (sa : Option Addr) (sl sc : Nat) (hB : w.heap.size ≤ B) : OwnFrom B (fun (s : β) W => RbI w RX sa sl sc (f s) W) := fun s W W' row h hg hr => by
  have hk : ∀ (b : Nat) (o : Obj), W.heap[b]? = some o → o.isCells = true → W'.heap[b]? = W.heap[b]? := fun b o ho hc => hg.block b (Array.getElem?_eq_some_iff.1 ho).1 (fun e => by
    obtain ⟨_, o2, h2, h3⟩ := hr b e.symm
    obtain rfl := Option.some.inj (ho.symm.trans h2)
    rw [hc] at h3; cases h3)
  obtain ⟨xs, h1, h2⟩ := h.made
  obtain ⟨o1, g1, g2⟩ := isCells_of_cell ((h1 0 (by omega)).trans (Array.getElem?_eq_getElem (show 0 < xs.size by have := h2.size6; omega)))
  obtain ⟨o3, g3, g4⟩ := isCells_of_cell (h.zero 0 (by omega))
  exact ⟨(hk _ _ h.steps rfl).trans h.steps, ⟨xs, h1.same (hk _ _ g1 g2), h2.keepC hk⟩, h.thaw.same (hk _ _ g1 g2), h.zero.same (hk _ _ g3 g4), h.thaw2.same (hk _ _ g3 g4), h.below.grown hg h.below.size (fun k e => Nat.le_trans hB (hr k e).1), Nat.le_trans h.size hg.size⟩

set_option maxRecDepth 100000 in
set_option maxHeartbeats 8000000 in
theorem rebuilt_any {w : World} {R RX : Nat → Prop} {ts : List T} {a : Option Addr} {cap : Nat} {cl : Nat → Array Value} {ks : List ByteArray} {sa : Option Addr} {sc : Nat} {x : T} {es : Array Value} (hS : SliceV w R ts a cap cl) (hK : SliceS w ks sa sc) (hx : Lies w RX x es) (hle : ts.length ≤ ks.length) (hbig : ∀ u ∈ ts, (u.pairs.length + 1) * 104 ≤ 140737488355328) :
    Calls Tryz.prog 59 #[.slice a ts.length cap, .slice sa ks.length sc, .agg es] w fun e w' => ∃ ds, e = .returned (.agg ds) ∧ Lies w' (fun b => (RX b ∧ b < w.heap.size) ∨ w.heap.size ≤ b) (rbL ts ks x) ds ∧ Below w.heap.size w w' := by
  have HSV := Lib.hid hS
  have HKS := Lib.hid hK
  have HX := Lib.hid hx
  have HBG := Lib.hid hbig
  have HALL := Lib.hid (rbF_all ts ks hle x)
  have hkle := hK.le
  have hkbig := hK.big
  obtain ⟨k2, b2, n2, s2, la2, ll2, lc2, ma2, ml2, mc2, rfl⟩ := hx.six
  obtain ⟨dd, hu, hdd⟩ := Tryz.structV
  have DD := Lib.hid hdd
  have HU := Lib.hid hu
  clear hdd hu hx hS hK hbig
  refine (callsIn_wide (n := 9)).1 ?_
  refine callsIn_of_wp_marks Tryz.func59 rfl trivial ?_ rfl
  simp only [Tryz.ntmps59, List.size_toArray, List.length_cons, List.length_nil, Nat.reduceAdd, Nat.reduceSub, Array.replicate_succ, Array.replicate_zero, List.push_toArray, List.append_toArray, List.nil_append, List.cons_append]
  have hB3 := (((Below.refl w.heap.size w).alloc (Nat.le_refl _) (.cells #[.slice sa ks.length sc] 26)).alloc (by simp) (.cells #[.int .i64 k2, .bool b2, .int .i64 n2, .string s2, .slice la2 ll2 lc2, .slice ma2 ml2 mc2] 25)).alloc (by simp; omega) (.cells zeroV 25)
  have bK := ((Boxed.new w 26 (.slice sa ks.length sc)).alloc (.cells #[.int .i64 k2, .bool b2, .int .i64 n2, .string s2, .slice la2 ll2 lc2, .slice ma2 ml2 mc2] 25)).alloc (.cells zeroV 25)
  have e1 : (w.alloc (.cells #[.slice sa ks.length sc] 26)).heap.size = w.heap.size + 1 := by simp
  have e2 : ((w.alloc (.cells #[.slice sa ks.length sc] 26)).alloc (.cells #[.int .i64 k2, .bool b2, .int .i64 n2, .string s2, .slice la2 ll2 lc2, .slice ma2 ml2 mc2] 25)).heap.size = w.heap.size + 2 := by simp
  have bX := Box6.new (w.alloc (.cells #[.slice sa ks.length sc] 26)) #[.int .i64 k2, .bool b2, .int .i64 n2, .string s2, .slice la2 ll2 lc2, .slice ma2 ml2 mc2] 25
  have tX := Thaw.new (w.alloc (.cells #[.slice sa ks.length sc] 26)) #[.int .i64 k2, .bool b2, .int .i64 n2, .string s2, .slice la2 ll2 lc2, .slice ma2 ml2 mc2] 25
  have bZ := Box6.new ((w.alloc (.cells #[.slice sa ks.length sc] 26)).alloc (.cells #[.int .i64 k2, .bool b2, .int .i64 n2, .string s2, .slice la2 ll2 lc2, .slice ma2 ml2 mc2] 25)) zeroV 25
  have tZ := Thaw.new ((w.alloc (.cells #[.slice sa ks.length sc] 26)).alloc (.cells #[.int .i64 k2, .bool b2, .int .i64 n2, .string s2, .slice la2 ll2 lc2, .slice ma2 ml2 mc2] 25)) zeroV 25
  rw [e1] at bX tX
  rw [e2] at bZ tZ
  have f2 := (Below.refl (w.heap.size + 2) ((w.alloc (.cells #[.slice sa ks.length sc] 26)).alloc (.cells #[.int .i64 k2, .bool b2, .int .i64 n2, .string s2, .slice la2 ll2 lc2, .slice ma2 ml2 mc2] 25))).alloc (by omega) (.cells zeroV 25)
  have hI : RbI w RX sa ks.length sc x (((w.alloc (.cells #[.slice sa ks.length sc] 26)).alloc (.cells #[.int .i64 k2, .bool b2, .int .i64 n2, .string s2, .slice la2 ll2 lc2, .slice ma2 ml2 mc2] 25)).alloc (.cells zeroV 25)) :=
    ⟨bK, ⟨_, bX.later f2 (by omega), (HX.out.bound.later hB3).weaken fun b hb => .inl hb⟩, tX.later f2 (by omega), bZ, tZ, hB3, by simp⟩
  clear bK e1 e2 bX tX bZ tZ f2 hB3
  gi_wp2_with (refine ⟨trivial, ?_⟩; gi_at_call 86; refine (back_in Fence.wide 8 trivial rfl _ _ _ _).mono ?_; rintro e w' ⟨rfl, rfl⟩)
  obtain ⟨v, hv⟩ : ∃ v, ((w.alloc (.cells #[.slice sa ks.length sc] 26)).alloc (.cells #[.int .i64 k2, .bool b2, .int .i64 n2, .string s2, .slice la2 ll2 lc2, .slice ma2 ml2 mc2] 25)).alloc (.cells zeroV 25) = v := ⟨_, rfl⟩
  have hsz : v.heap.size = w.heap.size + 3 := by rw [← hv]; simp
  rw [hv] at hI ⊢
  clear hv
  have hI2 := hI.later ((Below.refl v.heap.size v).alloc (Nat.le_refl _) (.cells #[.slice a ts.length cap] 22))
  have bN := World.cell?_alloc_new v #[.slice a ts.length cap] 22 0
  have hvw : Below w.heap.size w (v.alloc (.cells #[.slice a ts.length cap] 22)) := hI2.below
  have hsz2 : (v.alloc (.cells #[.slice a ts.length cap] 22)).heap.size = w.heap.size + 4 := by simp [hsz]
  generalize hW0 : v.alloc (.cells #[.slice a ts.length cap] 22) = W0 at hI2 bN hvw hsz2 ⊢
  rw [hsz] at bN
  refine wpIn_rangeFunc_ownH (F := Fence.wide) rfl (by omega) (gf := 117) (lb := #[.pointer (some ⟨w.heap.size + 1 + 1 + 1, 0, none⟩)]) rfl trivial (enters_of Tryz.func117 (by kernel_rfl) rfl)
    (back_stops Fence.wide 8 trivial rfl (by omega) (w.heap.size + 1 + 1 + 1) w.heap.size W0 (HSV.out.later hvw) (by omega) bN (fun hp bl ol e => Row.lt (HSV.out.rows 0 hp bl ol e) (by rw [(HSV.out.each 0 hp).size6]; omega))) keepBk_t (keepBk_b (by omega)) (Below.refl _ _) (fun _ => rfl)
    (fun pre W => RbI w RX sa ks.length sc (pre.foldl (rbF ts ks) x) W)
    (fun _ _ _ => False)
    (rbI_own _ _ w RX sa _ sc (by omega))
    (fun _ _ _ _ _ hs _ _ => hs)
    hI2
    (fun i a' W => ∃ Bx, w.heap.size + 3 ≤ Bx ∧ Box6 W Bx (cl i.val) ∧ a' = { tmps := #[.slice a ts.length cap, .slice sa ks.length sc, .agg #[.int .i64 k2, .bool b2, .int .i64 n2, .string s2, .slice la2 ll2 lc2, .slice ma2 ml2 mc2], undef, .pointer (some ⟨w.heap.size, 0, none⟩), .pointer (some ⟨w.heap.size + 1, 0, none⟩), .pointer (some ⟨w.heap.size + 1 + 1, 0, none⟩), .int .i64 (i.val : Int), .pointer (some ⟨Bx, 0, none⟩), .slice a ts.length cap, .func (.func 117) #[] #[.pointer (some ⟨w.heap.size + 1 + 1 + 1, 0, none⟩)], .int .i64 (i.val : Int), .agg (cl i.val), undef, undef, undef, undef, undef, undef, undef, undef], defers := [] })
    (fun i a' _ X Y row hs hg hr => by
      obtain ⟨Bx, h1, h2, h3⟩ := hs
      have h6 := (HSV.out.each i.val i.isLt).size6
      obtain ⟨o1, g1, g2⟩ := isCells_of_cell ((h2 0 (by omega)).trans (Array.getElem?_eq_getElem (show 0 < (cl i.val).size by omega)))
      exact ⟨Bx, h1, h2.same (hg.block Bx (Array.getElem?_eq_some_iff.1 g1).1 (fun e => by
        obtain ⟨_, o2, q2, q3⟩ := hr Bx e.symm
        obtain rfl := Option.some.inj (g1.symm.trans q2)
        rw [g2] at q3; cases q3)), h3⟩)
    ?assign ?body ?done ?stop
  case assign =>
    rintro l pre fi W K hI3 hK
    obtain ⟨c0, c1, c2, c3, c4, c4l, c4c, c5, c5l, c5c, hcl⟩ := (HSV.out.each fi.val fi.isLt).six
    rw [hcl] at hK ⊢
    have hz := hI3.size
    gi_wp2
    exact hK _ _ ((KeepsOthers.alloc _ _).from _) ⟨(Below.refl _ W).alloc (by omega) _, fun v hv => cells_frame ((Below.refl _ W).alloc (Nat.le_refl _) _) hv⟩ (hI3.later ((Below.refl _ W).alloc (Nat.le_refl _) _)) ⟨W.heap.size, by omega, Box6.new W _ _, rfl⟩
  case body =>
    rintro l pre fi a' W hl ⟨r, hr⟩ hI3 ⟨Bx, hBx, bX, rfl⟩ hlt
    obtain ⟨x0T, hx0T⟩ : ∃ x0T, x0T = x := ⟨_, rfl⟩
    obtain ⟨c0, c1, c2, c3, c4, c4l, c4c, c5, c5l, c5c, hcl⟩ := (HSV.out.each fi.val fi.isLt).six
    have hci := HSV.out.each fi.val fi.isLt
    rw [hcl] at bX hci ⊢
    have HCI := Lib.hid hci
    obtain ⟨xs, hbx, hlx⟩ := hI3.made
    rw [← hx0T] at hlx
    obtain ⟨x0, x1, x2, x3, x4, x4l, x4c, x5, x5l, x5c, rfl⟩ := hlx.six
    have HLX := Lib.hid hlx
    have HP := Lib.hid hbx
    have hik : fi.val < ks.length := by have := fi.isLt; omega
    obtain ⟨sb, so, rfl, kc⟩ := HKS.out.at hI3.below hik
    have hkz := HKS.out.sizes fi.val hik
    have hks := hI3.steps.cell
    obtain ⟨q0, q1, q2, q3, q4, q5⟩ := bX.six
    obtain ⟨p0, p1, p2, p3, p4, p5⟩ := hbx.six
    clear hci hlx hbx hcl
    gi_wp2
    refine wpIn_region_specs2 W 7 (fun i => 13 + i) (fun i x wx => match i with | 0 => x = .agg #[.int .i64 c0, .bool c1, .int .i64 c2, .string c3, .slice c4 c4l c4c, .slice c5 c5l c5c] | 1 => x = .slice (some ⟨sb, so, none⟩) ks.length sc | 2 => x = .int .i64 (fi.val : Int) | 3 => x = .pointer (some ⟨sb, so + fi.val, none⟩) | 4 => x = .string ks[fi.val] | 5 => x = .agg #[.int .i64 x0, .bool x1, .int .i64 x2, .string x3, .slice x4 x4l x4c, .slice x5 x5l x5c] | 6 => ∃ ds : Array Value, x = .agg ds ∧ Lies wx (fun b => (RX b ∧ b < w.heap.size) ∨ w.heap.size + 3 ≤ b) ((ts[fi.val]).put ks[fi.val] (pre.foldl (rbF ts ks) x0T)) ds | _ => True) (fun _ wx => ∃ (wb : World) (ds : Array Value), Below W.heap.size W wb ∧ Lies wb (fun b => (RX b ∧ b < w.heap.size) ∨ w.heap.size + 3 ≤ b) ((ts[fi.val]).put ks[fi.val] (pre.foldl (rbF ts ks) x0T)) ds ∧ Box6 (setRow wb (w.heap.size + 1) 0 ds.toList) (w.heap.size + 1) ds ∧ wx = setRow wb (w.heap.size + 1) 0 ds.toList) (by kernel_rfl) (by kernel_rfl) ?s1 (Below.refl _ _) ?s2 ?s3 ?s4 ?s5
    case s1 => intro i hi; exact Nat.lt_of_lt_of_le (show 13 + i < 21 by omega) (Nat.le_refl 21)
    case s2 =>
      intro i x w1 w2 hb hU
      match i, hU with
      | 6, ⟨ds, e, hL⟩ => exact ⟨ds, e, hL.later hb⟩
      | 0, h | 1, h | 2, h | 3, h | 4, h | 5, h => exact h
      | (n + 7), _ => trivial
    case s3 =>
      intro i o ac wb K' ho hi hA hB hdep hK
      have s4 : ac.tmps[4]?.getD undef = .pointer (some ⟨w.heap.size, 0, none⟩) := hA.sl (t := 4) (by decide)
      have s5 : ac.tmps[5]?.getD undef = .pointer (some ⟨w.heap.size + 1, 0, none⟩) := hA.sl (t := 5) (by decide)
      have s7 : ac.tmps[7]?.getD undef = .int .i64 (fi.val : Int) := hA.sl (t := 7) (by decide)
      have s8 : ac.tmps[8]?.getD undef = .pointer (some ⟨Bx, 0, none⟩) := hA.sl (t := 8) (by decide)
      have q0 := cells_frame hB q0
      have q1 := cells_frame hB q1
      have q2 := cells_frame hB q2
      have q3 := cells_frame hB q3
      have q4 := cells_frame hB q4
      have q5 := cells_frame hB q5
      have p0 := cells_frame hB p0
      have p1 := cells_frame hB p1
      have p2 := cells_frame hB p2
      have p3 := cells_frame hB p3
      have p4 := cells_frame hB p4
      have p5 := cells_frame hB p5
      have hks := cells_frame hB hks
      have kc := cells_frame hB kc
      rcases (by omega : i = 0 ∨ i = 1 ∨ i = 2 ∨ i = 3 ∨ i = 4 ∨ i = 5 ∨ i = 6) with rfl | rfl | rfl | rfl | rfl | rfl | rfl
      · simp at ho
        subst ho
        clear hdep hA
        go_simp
        exact hK _ wb (Below.refl _ _) rfl
      · simp at ho
        subst ho
        clear hdep hA
        go_simp
        exact hK _ wb (Below.refl _ _) rfl
      · simp at ho
        subst ho
        clear hdep hA
        go_simp
        exact hK _ wb (Below.refl _ _) rfl
      · simp at ho
        subst ho
        have y1 : ac.tmps[14]?.getD undef = .slice (some ⟨sb, so, none⟩) ks.length sc := hdep { on := 1, ground := .data } (by simp) rfl
        have y2 : ac.tmps[15]?.getD undef = .int .i64 (fi.val : Int) := hdep { on := 2, ground := .data } (by simp) rfl
        clear hdep hA
        go_simp
        exact hK _ wb (Below.refl _ _) rfl
      · simp at ho
        subst ho
        have y3 : ac.tmps[16]?.getD undef = .pointer (some ⟨sb, so + fi.val, none⟩) := hdep { on := 3, ground := .data } (by simp) rfl
        clear hdep hA
        go_simp
        exact hK _ wb (Below.refl _ _) rfl
      · simp at ho
        subst ho
        clear hdep hA
        go_simp
        exact hK _ wb (Below.refl _ _) rfl
      · simp at ho
        subst ho
        have y0 : ac.tmps[13]?.getD undef = .agg #[.int .i64 c0, .bool c1, .int .i64 c2, .string c3, .slice c4 c4l c4c, .slice c5 c5l c5c] := hdep { on := 0, ground := .data } (by simp) rfl
        have y4 : ac.tmps[17]?.getD undef = .string ks[fi.val] := hdep { on := 4, ground := .data } (by simp) rfl
        have y5 : ac.tmps[18]?.getD undef = .agg #[.int .i64 x0, .bool x1, .int .i64 x2, .string x3, .slice x4 x4l x4c, .slice x5 x5l x5c] := hdep { on := 5, ground := .data } (by simp) rfl
        clear hdep hA
        go_simp
        refine ⟨trivial, ?_⟩
        refine (CallsIn.inRound l (callsIn_wide.2 (with_any HCI.out wb (HLX.out.later hB) ks[fi.val] hkz (HBG.out _ (List.getElem_mem fi.isLt)) (bstep hI3.below hB hI3.below.size)))).mono ?_
        rintro e w3 ⟨ds, rfl, hL, hb3⟩
        exact hK _ w3 hb3 ⟨ds, rfl, hL.weaken fun b hb => by
            have := hB.size
            have := hI3.size
            rcases hb with h | h
            · exact h.1
            · exact .inr (by omega)⟩
    case s4 =>
      intro o ac wb K' ho hA hB hU hK
      have s4 : ac.tmps[4]?.getD undef = .pointer (some ⟨w.heap.size, 0, none⟩) := hA.sl (t := 4) (by decide)
      have s5 : ac.tmps[5]?.getD undef = .pointer (some ⟨w.heap.size + 1, 0, none⟩) := hA.sl (t := 5) (by decide)
      have s7 : ac.tmps[7]?.getD undef = .int .i64 (fi.val : Int) := hA.sl (t := 7) (by decide)
      have s8 : ac.tmps[8]?.getD undef = .pointer (some ⟨Bx, 0, none⟩) := hA.sl (t := 8) (by decide)
      have q0 := cells_frame hB q0
      have q1 := cells_frame hB q1
      have q2 := cells_frame hB q2
      have q3 := cells_frame hB q3
      have q4 := cells_frame hB q4
      have q5 := cells_frame hB q5
      have p0 := cells_frame hB p0
      have p1 := cells_frame hB p1
      have p2 := cells_frame hB p2
      have p3 := cells_frame hB p3
      have p4 := cells_frame hB p4
      have p5 := cells_frame hB p5
      have hks := cells_frame hB hks
      have kc := cells_frame hB kc
      simp at ho
      subst ho
      obtain ⟨ds, y6, hLy6⟩ := hU 6 (by omega)
      obtain ⟨d0, d1, d2, d3, d4, d4l, d4c, d5, d5l, d5c, rfl⟩ := hLy6.six
      have y6 : ac.tmps[19]?.getD undef = _ := y6
      clear hU hA
      obtain ⟨f0, f1, f2, f3, f4, f5⟩ := (hI3.thaw.later hB (by have := hI3.size; omega)).six
      have hbp := (Box6.later (cs := #[.int .i64 x0, .bool x1, .int .i64 x2, .string x3, .slice x4 x4l x4c, .slice x5 x5l x5c]) HP.out hB (by have := hI3.size; omega))
      go_simp
      exact hK _ ⟨wb, _, hB, hLy6, hbp.store rfl (.int .i64 d0) (.bool d1) (.int .i64 d2) (.string d3) (.slice d4 d4l d4c) (.slice d5 d5l d5c), rfl⟩
    case s5 =>
      intro ac wn hA hF
      have hs : slots 7 (fun i => 13 + i) = [13, 14, 15, 16, 17, 18, 19] := by rfl
      rw [hs] at hA
      have hac := hA.act (fun t ht => by
        have h8 : t = 13 ∨ t = 14 ∨ t = 15 ∨ t = 16 ∨ t = 17 ∨ t = 18 ∨ t = 19 := by simpa using ht
        rcases h8 with rfl | rfl | rfl | rfl | rfl | rfl | rfl <;> exact Nat.lt_of_lt_of_le (by decide : _ < 21) (Nat.le_refl 21))
      rw [List.foldl_cons, List.foldl_cons, List.foldl_cons, List.foldl_cons, List.foldl_cons, List.foldl_cons, List.foldl_cons, List.foldl_nil] at hac
      generalize sl ac 13 = x13 at hac
      generalize sl ac 14 = x14 at hac
      generalize sl ac 15 = x15 at hac
      generalize sl ac 16 = x16 at hac
      generalize sl ac 17 = x17 at hac
      generalize sl ac 18 = x18 at hac
      generalize sl ac 19 = x19 at hac
      clear hA hs
      subst hac
      simp only [Act.put, List.setIfInBounds_toArray, List.set_cons_succ, List.set_cons_zero]
      obtain ⟨wb, ds, hbu, hLd, hbd, rfl⟩ := hF
      rw [hx0T] at hLd
      have hz := hI3.size
      have hI4 := hI3.later hbu
      have hput : (ts[fi.val]).put ks[fi.val] (pre.foldl (rbF ts ks) x) = (pre ++ [fi]).foldl (rbF ts ks) x := by
        rw [List.foldl_append, List.foldl_cons, List.foldl_nil, rbF, List.getD_eq_getElem?_getD, List.getElem?_eq_getElem hik]
        rfl
      rw [hput] at hLd
      have hRB : RbI w RX (some ⟨sb, so, none⟩) ks.length sc ((pre ++ [fi]).foldl (rbF ts ks) x) (setRow wb (w.heap.size + 1) 0 ds.toList) :=
        ⟨(setRow_heap _ _ _ _ _ (by omega)).trans hI4.steps, ⟨ds, hbd, (hLd.keep fun b hb => setRow_heap _ _ _ _ _ (by rcases hb with h | h <;> omega))⟩, hI4.thaw.store _ _, hI4.zero.other (by omega) _ _, hI4.thaw2.store _ _, setRow_below _ (by omega) _ _ _ hI4.below, by rw [setRow_size]; exact hI4.size⟩
      have hKF : KeepsFrom W0.heap.size W (setRow wb (w.heap.size + 1) 0 ds.toList) := ⟨by rw [setRow_size]; exact hbu.size, fun k o hBk hk _ => (setRow_heap _ _ _ _ _ (by omega)).trans ((hbu.block k (Array.getElem?_eq_some_iff.1 hk).1).trans hk)⟩
      have hKB : KeepBk w.heap.size (w.heap.size + 1 + 1 + 1) W (setRow wb (w.heap.size + 1) 0 ds.toList) := ⟨setRow_below _ (by omega) _ _ _ (hbu.mono (by omega)), fun v hv => (World.cell?_of_block (w := wb) (a := ⟨w.heap.size + 1 + 1 + 1, 0, none⟩) (setRow_heap _ _ _ _ _ (by simp only; omega))).trans (cells_frame hbu hv)⟩
      generalize setRow wb (w.heap.size + 1) 0 ds.toList = W6 at hRB hKF hKB ⊢
      clear hI4 hLd hbd hput
      gi_wp2
      exact ⟨hKF, hKB, hRB⟩
  case done =>
    rintro D zs W hD rfl hI3 hK
    rw [HALL.out] at hI3
    obtain ⟨xs, hbx, hlx⟩ := hI3.made
    obtain ⟨x0, x1, x2, x3, x4, x4l, x4c, x5, x5l, x5c, rfl⟩ := hlx.six
    obtain ⟨p0, p1, p2, p3, p4, p5⟩ := hbx.six
    obtain ⟨z0, z1, z2, z3, z4, z5⟩ := hI3.zero.six
    obtain ⟨f0, f1, f2, f3, f4, f5⟩ := hI3.thaw2.six
    have HLX := Lib.hid hlx
    have HI3 := Lib.hid hI3
    have hz := hI3.size
    clear hlx hbx hI3
    gi_wp2
    show bodyPostM _ _ _ _ _ _ _ (setRow W (w.heap.size + 2) 0 [.int .i64 x0, .bool x1, .int .i64 x2, .string x3, .slice x4 x4l x4c, .slice x5 x5l x5c])
    have hK7 : (setRow W (w.heap.size + 2) 0 [.int .i64 x0, .bool x1, .int .i64 x2, .string x3, .slice x4 x4l x4c, .slice x5 x5l x5c]).heap[D]? = some (.deferred (some [])) := (setRow_heap _ _ _ _ _ (by omega)).trans hK
    have hb7 := HI3.out.zero.store rfl (.int .i64 x0) (.bool x1) (.int .i64 x2) (.string x3) (.slice x4 x4l x4c) (.slice x5 x5l x5c)
    have hl7 := HLX.out.keep (w' := setRow W (w.heap.size + 2) 0 [.int .i64 x0, .bool x1, .int .i64 x2, .string x3, .slice x4 x4l x4c, .slice x5 x5l x5c]) (fun b hb => setRow_heap _ _ _ _ _ (by rcases hb with h | h <;> omega))
    have hw7 := setRow_below (w.heap.size + 2) (by omega) [.int .i64 x0, .bool x1, .int .i64 x2, .string x3, .slice x4 x4l x4c, .slice x5 x5l x5c] W 0 HI3.out.below
    generalize setRow W (w.heap.size + 2) 0 [.int .i64 x0, .bool x1, .int .i64 x2, .string x3, .slice x4 x4l x4c, .slice x5 x5l x5c] = W7 at hK7 hb7 hl7 hw7 ⊢
    refine ⟨by simp, .inl ⟨_, _, rfl, run_takeDeferred hK7, ?_⟩⟩
    have hne : ∀ (b : Nat) (o : Obj), W7.heap[b]? = some o → o.isCells = true → (W7.putObj D (.deferred none)).heap[b]? = W7.heap[b]? := fun b o ho hc => World.putObj_heap_other (fun e => by
      subst e
      obtain rfl := Option.some.inj (ho.symm.trans hK7)
      cases hc)
    have hb8 := hb7.same (w' := W7.putObj D (.deferred none)) (World.putObj_heap_other (by omega))
    exact ⟨_, results_cells Tryz.results59 _ _ (w.heap.size + 2) #[.int .i64 x0, .bool x1, .int .i64 x2, .string x3, .slice x4 x4l x4c, .slice x5 x5l x5c] dd DD.out HU.out rfl (fun j hj => (hb8 j hj).trans (Array.getElem?_eq_getElem hj)) Tryz.sizeV, _, rfl, (hl7.keepC hne).weaken (fun b hb => hb.imp id (fun h => by omega)), hw7.trans (belowK_b (w := w) (Nat.le_refl _) W7 D _ _ (by omega) hK7 rfl rfl)⟩
  case stop =>
    rintro D c pre W _ _ h _
    exact h.elim

end Go.Proofs.YtlniokpekcoodaaGreatDoor
