/-
  Package object's Sort.
-/
import Derived.Test.YtbmlmcoepmbelaaDoorObjY
set_option linter.unusedVariables false
set_option linter.unusedSimpArgs false
namespace Go.Proofs.YtbmlmcoepmbelaaDoor
open Go.RowKit Go.Sort

/-- What Sort hands back. -/
def SortTo (w : World) (os : List Ob) (e : Ending) (w' : World) : Prop :=
  (e = .returned (.tuple #[.slice none 0 0, .int .i64 13]) ∧ Below w.heap.size w w') ∨
  (∃ (os' ss : List Ob) (a : Option Addr) (cap : Nat), e = .returned (.tuple #[.slice a ss.length cap, .int .i64 0]) ∧ os'.Perm os ∧ (∀ i j (hi : i < os'.length) (hj : j < os'.length), i < j → ordO os'[i].1 os'[j].1 < 0) ∧ ss.length = os'.length ∧ (∀ i (h : i < os'.length) (h' : i < ss.length), SameOb ss[i] os'[i]) ∧ SliceO w' (fun b => w.heap.size ≤ b) ss a cap ∧ Below w.heap.size w w')

/-- The sorted copy, laid. -/
structure SortedO (w : World) (os : List Ob) (p4 : Value) (wx : World) : Prop where
  ex : ∃ (os' : List Ob) (sa : Option Addr) (c2 : Nat), p4 = .slice sa os'.length c2 ∧ os'.Perm os ∧ (∀ i j (hi : i < os'.length) (hj : j < os'.length), i < j → ¬ ordO os'[j].1 os'[i].1 < 0) ∧ SliceO wx (fun _ => True) os' sa c2 ∧ Below w.heap.size w wx
structure ClonedO (w : World) (os : List Ob) (p4 : Value) (wx : World) : Prop where
  ex : (p4 = .slice none 0 0 ∧ os = [] ∧ wx = w) ∨ (∃ g c2, p4 = .slice (some ⟨g, 0, none⟩) os.length c2 ∧ w.heap.size ≤ g ∧ g < wx.heap.size ∧ os.length ≤ c2 ∧ c2 ≤ 9223372036854775807 ∧ HoldsK encO 9 wx g 0 (arrO os) ∧ Below w.heap.size w wx)

theorem sorted_of {w w3 : World} {R : Nat → Prop} {os : List Ob} {a : Option Addr} {cap g c2 : Nat} (h : SliceO w R os a cap) (d' : Array OC) (hs : d'.size = (arrO os).size) (hp : d'.toList.Perm (arrO os).toList) (hle : ∀ i j, i < j → j < (arrO os).size → ¬ ordO d'[j]! d'[i]! < 0) (hH : HoldsK encO 9 w3 g 0 d') (hb : Below w.heap.size w w3) (hc : os.length ≤ c2) (hm : c2 ≤ 9223372036854775807) :
    SortedO w os (.slice (some ⟨g, 0, none⟩) os.length c2) w3 := by
  have hp2 : d'.toList.Perm (os.map (·.1)) := by simpa [arrO] using hp
  obtain ⟨os', h1, h2⟩ := perm_lift (fun o : Ob => o.1) hp2 os rfl
  have hl : os'.length = os.length := h1.length_eq
  have hget : ∀ i (hi : i < os'.length), d'[i]! = os'[i].1 := fun i hi => by
    have hi2 : i < d'.size := by rw [hs, arrO_size]; omega
    rw [getElem!_pos d' i hi2]
    have := congrArg (·[i]?) h2
    simp only [List.getElem?_map, List.getElem?_eq_getElem hi, Option.map_some] at this
    rw [Array.getElem?_toList, Array.getElem?_eq_getElem hi2] at this
    exact (Option.some.inj this).symm
  have hbig := h.hdr.big
  have hmem : ∀ i (hi : i < os'.length), ∃ j, ∃ hj : j < os.length, os'[i] = os[j] := fun i hi => by
    obtain ⟨j, hj, e⟩ := List.getElem_of_mem (h1.mem_iff.1 (List.getElem_mem hi))
    exact ⟨j, hj, e.symm⟩
  refine ⟨os', some ⟨g, 0, none⟩, c2, by rw [hl], h1, fun i j hi hj hij => ?_, ⟨⟨by omega, by omega, by simp, fun _ => ⟨g, 0, rfl, trivial⟩, hm⟩, fun i hi bl ol e => ?_, fun i hi => ?_, fun i hi => ?_⟩, hb⟩
  · have := hle i j hij (by rw [arrO_size]; omega)
    rw [hget i hi, hget j hj] at this
    exact this
  · simp only [Option.some.injEq, Addr.mk.injEq, and_true] at e
    obtain ⟨rfl, rfl⟩ := e
    intro k hk
    have hk9 : k < 9 := hk
    have hi2 : i < d'.size := by rw [hs, arrO_size]; omega
    have := (hH (i * 9 + k) (by rw [size_flatK]; omega)).1
    rw [get_flatK encO 9 d' (i * 9 + k) (by omega), show (i * 9 + k) / 9 = i by omega, show (i * 9 + k) % 9 = k by omega, hget i hi] at this
    rw [Nat.zero_add] at this ⊢
    rw [this, getElem!_pos _ k (by rw [encO_len]; exact hk9)]
    rfl
  · obtain ⟨j, hj, e⟩ := hmem i hi
    rw [e]
    exact h.sizes j hj
  · obtain ⟨j, hj, e⟩ := hmem i hi
    rw [e]
    exact ((h.each j hj).later hb).weaken fun _ _ => trivial

set_option maxRecDepth 100000 in
set_option maxHeartbeats 8000000 in
theorem oSort_any {w : World} {R : Nat → Prop} {os : List Ob} {a : Option Addr} {cap : Nat} (h : SliceO w R os a cap) (hsz : os.length ≤ 1000000) (hw : RankTab w) :
    Calls Tryd.prog 21 #[.slice a os.length cap] w (SortTo w os) := by
  have H := Lib.hid h
  have hlt := hw.lt
  have RT : Hid (∀ w', Below w.heap.size w w' → RankTab w') := fun w' hb => hw.later hb hlt
  have CN : Hid (a = none → cap = 0 ∧ os.length = 0) := fun e => by
    have h1 := h.hdr.none e
    have h2 := h.hdr.le
    exact ⟨h1, by omega⟩
  clear hw h
  go_enter Tryd.func21, Tryd.ntmps21
  go_upto_region 1 with fail
  go_cut [4, 10, 11] (fun p4 p10 p11 wx => ClonedO w os p4 wx)
  case first =>
    cases a with
    | none =>
      obtain ⟨rfl, h0⟩ := CN.out rfl
      have hos : os = [] := List.eq_nil_of_length_eq_zero h0
      subst hos
      go_wp2_with (go_at_call 39; refine (sCloneO_none 0 w).mono ?_; rintro e w1 ⟨rfl, hw1⟩; have hw2 := hw1.symm; subst hw2)
      go_meet
      case rel => exact ⟨.inl ⟨rfl, rfl, rfl⟩⟩
    | some ad =>
      go_wp2_with (go_at_call 39; refine (sCloneO_some H.out).mono ?_; rintro e w1 ⟨g, c2, rfl, hh⟩; have H1 := Lib.hid hh; clear hh)
      go_meet
      case rel => exact ⟨.inr ⟨g, c2, rfl, H1.out⟩⟩
  case rest =>
    obtain ⟨u, rfl⟩ : ∃ u : World, u = wc := ⟨_, rfl⟩
    have HCL := Lib.hid hcut
    clear hcut
    go_upto_region 2 with fail
    go_cut [12, 13] (fun p12 p13 wx => SortedO w os u4 wx)
    case first =>
      rcases HCL.out.ex with ⟨rfl, hos, hu⟩ | ⟨g, c2, rfl, h1, h2, h3, h4, h5, h6⟩
      · subst hu
        subst hos
        go_wp2_with (go_at_call 40; refine (AnyF.slices_SortFunc_none Tryd.sortObj none 0 (.func (Fn.func 41) #[] #[]) _).mono ?_; rintro e w2 ⟨rfl, hw2⟩; have hw3 := hw2.symm; subst hw3)
        go_meet
        case rel => exact ⟨[], none, 0, rfl, List.Perm.refl _, fun i j hi => absurd hi (by simp), ⟨⟨by simp, by simp, fun _ => rfl, fun hp => absurd hp (by simp), by omega⟩, fun i hi => absurd hi (by simp), fun i hi => absurd hi (by simp), fun i hi => absurd hi (by simp)⟩, Below.refl _ _⟩
      · by_cases h0 : os.length = 0
        · have hos : os = [] := List.eq_nil_of_length_eq_zero h0
          subst hos
          have HB6 := Lib.hid h6
          clear h6
          go_wp2_with (go_at_call 40; refine (AnyF.slices_SortFunc_none Tryd.sortObj (some ⟨g, 0, none⟩) c2 (.func (Fn.func 41) #[] #[]) u).mono ?_; rintro e w2 ⟨rfl, hw2⟩; have hw3 := hw2.symm; subst hw3)
          go_meet
          case rel => exact ⟨[], some ⟨g, 0, none⟩, c2, rfl, List.Perm.refl _, fun i j hi => absurd hi (by simp), ⟨⟨by simp, by simp, by simp, fun hp => absurd hp (by simp), h4⟩, fun i hi => absurd hi (by simp), fun i hi => absurd hi (by simp), fun i hi => absurd hi (by simp)⟩, HB6.out⟩
        · have SO := sSortO_any (B := w.heap.size) g c2 (arrO os) u (RT.out u h6) h5 h2 h1 hlt (by rw [arrO_size]; exact hsz) (by rw [arrO_size]; omega)
          rw [arrO_size] at SO
          have HB6 := Lib.hid h6
          have HSO : Hid (Calls Tryd.prog 40 #[.slice (some ⟨g, 0, none⟩) os.length c2, .func (Fn.func 41) #[] #[]] u fun e w2 => e = .returned (.tuple #[]) ∧ SortedO w os (.slice (some ⟨g, 0, none⟩) os.length c2) w2) := by
            refine SO.mono ?_
            rintro e w2 ⟨rfl, d', hd1, hd2, hd3, hd4, hd5⟩
            exact ⟨rfl, sorted_of (c2 := c2) H.out d' (by rw [arrO_size]; exact hd1) hd2 (by rw [arrO_size]; exact hd3) hd4 (bstep HB6.out hd5 (Nat.le_refl _)) h3 h4⟩
          clear SO h5 h6
          go_wp2_with (go_at_call 40; refine HSO.out.mono ?_; rintro e w2 ⟨rfl, hs⟩; have HS := Lib.hid hs; clear hs)
          go_meet
          case rel => exact HS.out
    case rest =>
      obtain ⟨v, rfl⟩ : ∃ v : World, v = wc := ⟨_, rfl⟩
      obtain ⟨os', sa, c2, rfl, hperm, hle, hS, hbv⟩ := hcut.ex
      have hlen : os'.length = os.length := hperm.length_eq
      have HS := Lib.hid hS
      have HBV := Lib.hid hbv
      have HLE := Lib.hid hle
      have HPM := Lib.hid hperm
      have hn6 : os'.length ≤ 1000000 := by omega
      have hll := hS.hdr.le
      have hlm := hS.hdr.max
      have HSZ := Lib.hid hS.sizes
      clear hcut HCL hS hbv hle hperm hlen
      go_wp2_with fail
      go_loopw [5, 16] (fun _ v16 wr => ∃ j : Nat, j ≤ os'.length ∧ v16 = .int .i64 j ∧ Hid (∀ i (hi : i + 1 < os'.length), i + 1 < j → ¬ sameI os'[i].1 os'[i + 1].1) ∧ Below v.heap.size v wr) (fun _ v16 _ => os'.length - (intOf v16).toNat)
      case atStart => exact ⟨0, by omega, rfl, fun i _ hi => absurd hi (Nat.not_lt_zero _), Below.refl _ _⟩
      case round =>
        obtain ⟨j, hj, rfl, h0, hbw⟩ := hrel
        have HW := Lib.hid hbw
        by_cases hjl : j < os'.length
        · obtain ⟨bl, ol, rfl, r0, r1, r2, r3, r4, r5, r6, r7, r8⟩ := HS.out.at hbw hjl
          generalize os'[j].1.q0 = x3 at *
          generalize os'[j].1.q1 = x4 at *
          generalize os'[j].1.q2 = x5 at *
          generalize os'[j].1.q3 = x6 at *
          generalize os'[j].1.q4 = x7 at *
          generalize os'[j].1.q4l = x7l at *
          generalize os'[j].1.q4c = x7c at *
          generalize os'[j].1.q5 = x8 at *
          generalize os'[j].1.q5l = x8l at *
          generalize os'[j].1.q5c = x8c at *
          go_upto_region 6 with fail
          have hba := HW.out.alloc HW.out.size (.cells #[.string os'[j].1.k, .string os'[j].1.p, .string os'[j].1.n, .int .i64 x3, .bool x4, .int .i64 x5, .string x6, .slice x7 x7l x7c, .slice x8 x8l x8c] 31)
          have b9 := Box9.new wr #[.string os'[j].1.k, .string os'[j].1.p, .string os'[j].1.n, .int .i64 x3, .bool x4, .int .i64 x5, .string x6, .slice x7 x7l x7c, .slice x8 x8l x8c] 31
          clear r0 r1 r2 r3 r4 r5 r6 r7 r8
          generalize wr.alloc (.cells #[.string os'[j].1.k, .string os'[j].1.p, .string os'[j].1.n, .int .i64 x3, .bool x4, .int .i64 x5, .string x6, .slice x7 x7l x7c, .slice x8 x8l x8c] 31) = v9 at *
          have HA := Lib.hid hba
          obtain ⟨y0, y1, y2, -⟩ := b9.nine
          clear b9
          cases j with
          | zero =>
            go_region
            have HD := Lib.hid (HA.out.drew)
            clear hba
            generalize v9.drew = v10 at *
            go_wp2_with fail
            go_roundw
            case rel => exact ⟨1, by omega, by go_num, fun i hi hij => absurd hij (by omega), HD.out⟩
            case measure => simp [intOf]; omega
          | succ i =>
            obtain ⟨bl2, ol2, e2, r0, r1, r2, -⟩ := HS.out.at hba (show i < os'.length by omega)
            simp only [Option.some.injEq, Addr.mk.injEq, and_true] at e2
            obtain ⟨rfl, rfl⟩ := e2
            have hi1 : decide ((0 : Int) < ((i + 1 : Nat) : Int)) = true := decide_eq_true (by omega)
            have hi2 : ((i + 1 : Nat) : Int) - 1 = (i : Int) := by omega
            have hi3 : IntKind.i64.wrap (i : Int) = (i : Int) := IntWalk.i64_in _ (by omega)
            have hi4 : (i : Int) < (os'.length : Int) := by omega
            have H0 := h0
            by_cases hsm : sameI os'[i].1 os'[i + 1].1
            · obtain ⟨d1, d2, d3⟩ := hsm
              have d1 : os'[i].1.k.toList = os'[i + 1].1.k.toList := by rw [d1]
              have d2 : os'[i].1.p.toList = os'[i + 1].1.p.toList := by rw [d2]
              have d3 : os'[i].1.n.toList = os'[i + 1].1.n.toList := by rw [d3]
              go_region
              have HD := Lib.hid (HA.out.drew)
              clear hba r0 r1 r2 y0 y1 y2
              generalize v9.drew = v10 at *
              go_wp2_with fail
              go_ret2
              exact .inl ⟨rfl, bstep HBV.out HD.out HBV.out.size⟩
            · have HNS := Lib.hid hsm
              have hcs : (¬ os'[i].1.k.toList = os'[i + 1].1.k.toList) ∨ (os'[i].1.k.toList = os'[i + 1].1.k.toList ∧ ¬ os'[i].1.p.toList = os'[i + 1].1.p.toList) ∨ (os'[i].1.k.toList = os'[i + 1].1.k.toList ∧ os'[i].1.p.toList = os'[i + 1].1.p.toList ∧ ¬ os'[i].1.n.toList = os'[i + 1].1.n.toList) := by
                by_cases q1 : os'[i].1.k = os'[i + 1].1.k
                · by_cases q2 : os'[i].1.p = os'[i + 1].1.p
                  · exact .inr (.inr ⟨by rw [q1], by rw [q2], fun e => hsm ⟨q1, q2, toList_inj e⟩⟩)
                  · exact .inr (.inl ⟨by rw [q1], fun e => q2 (toList_inj e)⟩)
                · exact .inl fun e => q1 (toList_inj e)
              clear hsm
              rcases hcs with d1 | ⟨d1, d2⟩ | ⟨d1, d2, d3⟩
              all_goals
                go_region
                have HD := Lib.hid (HA.out.drew)
                clear hba r0 r1 r2 y0 y1 y2
                generalize v9.drew = v10 at *
                go_wp2_with fail
                go_roundw
                case rel => exact ⟨i + 1 + 1, by omega, by go_num, fun i' hi' hij => by
                  by_cases e : i' = i
                  · subst e; exact HNS.out
                  · exact H0.out i' hi' (by omega), HD.out⟩
                case measure => simp [intOf]; omega
        · obtain rfl : j = os'.length := by omega
          obtain ⟨wz, rfl⟩ : ∃ z : World, z = wr := ⟨_, rfl⟩
          have STR := Lib.hid (strict_of_adj os' (fun i j hi hj hij => by have := HLE.out i j hi hj hij; omega) (fun i hi => h0.out i hi (by omega)))
          obtain ⟨i0, hi, hz0, hz1, hz2⟩ := info_parts Tryd.infoO
          have HSW := Lib.hid (HS.out.later hbw)
          have HBW := Lib.hid (bstep HBV.out hbw HBV.out.size)
          clear h0 hbw HLE
          go_wp2_with (at_make; refine wpList_make_own _ rfl _ _ 47 rfl wz.heap.size 31 i0 _ 9 Tryd.underlying47 hi hz0 hz1 .i64 .i64 _ os'.length rfl rfl rfl (by rw [hz2]; omega) (by unfold maxLen; omega) (Nat.le_refl _) ?_; intro w1 hown hgrow)
          go_loopw [7, 40] (fun v7 v40 wq => ∃ (j : Nat) (ss : List Ob), v40 = .int .i64 j ∧ v7 = .slice (some ⟨wz.heap.size, 0, none⟩) j os'.length ∧ BuiltO wz wq wz.heap.size os' j os'.length ss ∧ Below wz.heap.size wz wq ∧ wz.heap.size < wq.heap.size) (fun _ v40 _ => os'.length - (intOf v40).toNat)
          case atStart => exact ⟨0, [], rfl, rfl, ⟨rfl, by omega, hown, fun i _ h' => absurd h' (by simp), fun i h' => absurd h' (by simp)⟩, (Below.refl _ _).grown hgrow (Nat.le_refl _) (by simp), by
            have := hown.lt wz.heap.size (by simp [Value.ownBlock]); omega⟩
          case round =>
            obtain ⟨j, ss, rfl, rfl, hB, hbq, hltq⟩ := hrel
            have hj := hB.le
            by_cases hjl : j < os'.length
            · have hL := (HSW.out.each j hjl)
              obtain ⟨bl, ol, rfl, r0, r1, r2, r3, r4, r5, r6, r7, r8⟩ := HSW.out.at hbq hjl
              unfold OC.body at hL
              have CL := Lib.hid (fun w' hb => oclone_any hL os'[j].1.k os'[j].1.p os'[j].1.n w' hb)
              clear hL
              generalize os'[j].1.q0 = x3 at *
              generalize os'[j].1.q1 = x4 at *
              generalize os'[j].1.q2 = x5 at *
              generalize os'[j].1.q3 = x6 at *
              generalize os'[j].1.q4 = x7 at *
              generalize os'[j].1.q4l = x7l at *
              generalize os'[j].1.q4c = x7c at *
              generalize os'[j].1.q5 = x8 at *
              generalize os'[j].1.q5l = x8l at *
              generalize os'[j].1.q5c = x8c at *
              have HD := Lib.hid hB
              have HBQ := Lib.hid hbq
              go_wp2_with fail
              refine (CL.out _ (bbox HBQ.out _ HBQ.out.size)).mono ?_
              rintro e w2 ⟨f0, f1, f2, f3, f4, f4l, f4c, f5, f5l, f5c, rfl, hL, hz, hb1⟩
              have own2 := (hB.own.alloc (.cells #[.string os'[j].1.k, .string os'[j].1.p, .string os'[j].1.n, .int .i64 x3, .bool x4, .int .i64 x5, .string x6, .slice x7 x7l x7c, .slice x8 x8l x8c] 31)).kept (grown_of_below hb1 none) (.inr (by simp [Value.ownBlock]))
              have hb2 := bstep hbq (bunbox hb1 (Nat.le_refl _) (by simp)) hbq.size
              clear hB
              go_wp2_with (at_builtin; refine wpList_append_fits _ rfl (.tmp 44) (.tmp 47) 47 rfl wz.heap.size 31 i0 9 Tryd.underlying47 hi hz1 wz.heap.size j os'.length _ rfl (own2.alloc _) ⟨w2.heap.size, 0, none⟩ 1 1 [.string os'[j].1.k, .string os'[j].1.p, .string os'[j].1.n, .int .i64 f0, .bool f1, .int .i64 f2, .string f3, .slice f4 f4l f4c, .slice f5 f5l f5c] rfl rfl ?c1 ?c2 ?c3 ?_)
              case c1 => exact fun j u hu => lit_cells w2 _ _ j u hu
              case c2 =>
                intro u hu
                simp at hu
                rcases hu with rfl | rfl | rfl | rfl | rfl | rfl | rfl | rfl | rfl <;> rfl
              case c3 => omega
              intro w3 own3 hg3
              have HB := HD.out.step (o := (⟨os'[j].1.k, os'[j].1.p, os'[j].1.n, f0, f1, f2, f3, f4, f4l, f4c, f5, f5l, f5c⟩, os'[j].2)) hltq hbq.size hjl hb1 hL ⟨⟨rfl, rfl, rfl⟩, rfl⟩ own3 hg3
              have hb3 := ((Below.alloc hb2 hb2.size _).grown hg3 (by have := hb2.size; simp; omega) (by simp))
              have hlt3 : wz.heap.size < w3.heap.size := by have := hg3.size; simp at this; have := hb1.size; simp at this; omega
              have HB3 := Lib.hid HB
              have hb3' := Lib.hid hb3
              clear HB hb3
              go_wp2_with fail
              go_roundw
              case rel => exact ⟨j + 1, _, by go_num, rfl, HB3.out, hb3'.out, hlt3⟩
              case measure => simp [intOf]; omega
            · obtain rfl : j = os'.length := by omega
              have hdone := hB.done (Nat.le_refl _) (Nat.le_refl _) (by have := HSW.out.hdr.big; omega) (by omega) HSZ.out
              have HDN := Lib.hid hdone
              have HLN := Lib.hid hB.len
              have HSM := Lib.hid hB.same
              have HBQ := Lib.hid hbq
              clear hB hdone hbq
              go_wp2_with fail
              go_ret2
              refine .inr ⟨os', ss, some ⟨wz.heap.size, 0, none⟩, os'.length, (by rw [HLN.out]; rfl), HPM.out, STR.out, HLN.out, HSM.out, HDN.out.weaken fun b hb => Nat.le_trans HBW.out.size hb, bstep HBW.out HBQ.out HBW.out.size⟩

end Go.Proofs.YtbmlmcoepmbelaaDoor
