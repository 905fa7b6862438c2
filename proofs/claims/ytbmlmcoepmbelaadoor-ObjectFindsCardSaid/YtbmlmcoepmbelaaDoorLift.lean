/-
  An argument, read as data, lies in memory.
-/
import Derived.Test.YtbmlmcoepmbelaaDoorClone
import Derived.ProofKit
import Derived.SizedLaws
set_option linter.unusedVariables false
set_option linter.unusedSimpArgs false
namespace Go.Proofs.YtbmlmcoepmbelaaDoor
open Go.RowKit Go.ChangeShapes

theorem Tryd.cellsV : Tryd.prog.cellsOf 25 = 6 := by kernel_rfl
theorem Tryd.cellsP : Tryd.prog.cellsOf 54 = 7 := by kernel_rfl
theorem Tryd.bytesV : Tryd.prog.bytesOf 25 = 88 := by kernel_rfl
theorem Tryd.bytesP : Tryd.prog.bytesOf 54 = 104 := by kernel_rfl
theorem Tryd.cells_int : Tryd.prog.cellsOf 3 = 1 := by kernel_rfl
theorem Tryd.cells_bool : Tryd.prog.cellsOf 4 = 1 := by kernel_rfl
theorem Tryd.cells_int64 : Tryd.prog.cellsOf 2 = 1 := by kernel_rfl
theorem Tryd.cells_string : Tryd.prog.cellsOf 9 = 1 := by kernel_rfl
theorem Tryd.cells_values : Tryd.prog.cellsOf 22 = 1 := by kernel_rfl
theorem Tryd.cells_pairs : Tryd.prog.cellsOf 23 = 1 := by kernel_rfl

theorem list6 {α : Type} {l : List α} (h : l.length = 6) : ∃ a b c d e f, l = [a, b, c, d, e, f] := by
  match l, h with
  | [a, b, c, d, e, f], _ => exact ⟨a, b, c, d, e, f, rfl⟩
theorem list2 {α : Type} {l : List α} (h : l.length = 2) : ∃ a b, l = [a, b] := by
  match l, h with
  | [a, b], _ => exact ⟨a, b, rfl⟩

theorem cells?_get {w : World} {base : Nat} {a : Addr} {n : Nat} {cs : List Value} (h : w.cells? base a n = some cs) : cs.length = n ∧ ∀ j (p : j < cs.length), w.cell? (a.add j) = some cs[j] := by
  obtain ⟨_, hl, hj⟩ := World.cells?_some h
  exact ⟨hl, fun j p => by rw [hj j (by omega), List.getElem?_eq_getElem p]⟩

theorem cell_spot {w : World} {a : Addr} {v : Value} (h : w.cell? a = some v) : a.spot = none := by
  unfold World.cell? at h
  split at h
  · split at h
    · cases h
    · rename_i h1; simpa using h1
  · cases h

section
variable {H : Type} {enc : TypeId × Value → H} {w : World} {base : Nat} {sp : Nat → Bool} {held : Bool}

theorem weights_all {P : Program} {e : TypeId} : ∀ {ds : List (DataW H)} {d : DataW H}, d ∈ ds → ∀ n ∈ d.weights P e, n ∈ DataW.weightsAll P e ds
  | d0 :: r, d, hd, n, hn => by
    rw [DataW.weightsAll, List.mem_append]
    rcases List.mem_cons.1 hd with rfl | h
    · exact .inl hn
    · exact .inr (weights_all h n hn)

def SmallW (P : Program) (t : TypeId) (d : DataW H) : Prop := ∀ n ∈ d.weights P t, n ≤ reachBytes

/-- A slice, read: each element by what is known of elements. -/
theorem slice_lift {e t : TypeId} {s : Nat} {fuel : Nat} {c : Value} {x : DataW H × List MemPlace} {p : List Value → Prop} (hu : Tryd.prog.underlying t = some (.slice e)) (hs : Tryd.prog.cellsOf e = s) (h0 : 0 < s) (h : DataW.trod enc Tryd.prog w base sp held fuel t [c] = some x) (hw : SmallW Tryd.prog t x.1)
    (ih : ∀ (n : Nat) (cs : List Value) (y : DataW H × List MemPlace), n < fuel → DataW.trod enc Tryd.prog w base sp held n e cs = some y → SmallW Tryd.prog e y.1 → p cs) :
    ∃ (a : Option Addr) (len cap : Nat) (cl : Nat → List Value), c = .slice a len cap ∧ len ≤ cap ∧ cap ≤ maxLen ∧ len * Tryd.prog.bytesOf e ≤ reachBytes ∧ (a = none → cap = 0) ∧ (0 < len → ∃ bl ol, a = some ⟨bl, ol, none⟩) ∧
      ∀ i, i < len → p (cl i) ∧ (cl i).length = s ∧ ∀ bl ol, a = some ⟨bl, ol, none⟩ → ∀ j (q : j < (cl i).length), w.cell? ⟨bl, ol + i * s + j, none⟩ = some (cl i)[j] := by
  rcases DataW.trod_slice hu h with ⟨hc, hx⟩ | ⟨a, len, cap, elems, rest, n, rfl, hc, rfl, hb, hle, hm, hel, hei, _, _⟩
  · obtain rfl : c = .slice none 0 0 := by simpa using hc
    exact ⟨none, 0, 0, fun _ => [], rfl, Nat.le_refl _, Nat.zero_le _, by simp, fun _ => rfl, fun q => absurd q (by omega), fun i q => absurd q (by omega)⟩
  · obtain rfl : c = .slice (some a) len cap := by simpa using hc
    have hbytes : len * Tryd.prog.bytesOf e ≤ reachBytes := by
      have := hw ((elems.length + rest.length) * Tryd.prog.bytesOf e) (by simp [DataW.weights, hu])
      rw [← hel]
      exact Nat.le_trans (Nat.mul_le_mul_right _ (Nat.le_add_right _ _)) this
    have hE : ∀ i, ∃ ci : List Value, i < len → p ci ∧ ci.length = s ∧ ∀ j (q : j < ci.length), w.cell? ((a.add (i * s)).add j) = some ci[j] := fun i => by
      by_cases hi : i < len
      · have hi2 : i < elems.length := by omega
        have h1 := hei i hi
        rw [hs, List.getElem?_eq_getElem hi2] at h1
        obtain ⟨ci, hci, ht⟩ := Option.bind_eq_some_iff.1 h1
        have hw2 : SmallW Tryd.prog e elems[i].1 := fun m hm' => hw m (by
          simp only [DataW.weights, hu, List.mem_cons, List.mem_append]
          exact .inr (.inl (weights_all (List.mem_map.2 ⟨_, List.getElem_mem hi2, rfl⟩) m hm')))
        exact ⟨ci, fun _ => ⟨ih n ci _ (Nat.lt_succ_self _) ht hw2, (cells?_get hci).1, (cells?_get hci).2⟩⟩
      · exact ⟨[], fun q => absurd q hi⟩
    obtain ⟨cl, hcl⟩ := Classical.axiomOfChoice hE
    have hspot : 0 < len → a.spot = none := fun hp => by
      obtain ⟨_, hl, hj⟩ := hcl 0 hp
      have := cell_spot (hj 0 (by omega))
      simpa [Addr.add] using this
    refine ⟨some a, len, cap, cl, rfl, hle, hm, hbytes, by simp, fun hp => ⟨a.block, a.off, ?_⟩, fun i hi => ⟨(hcl i hi).1, (hcl i hi).2.1, fun bl ol ea j q => ?_⟩⟩
    · have := hspot hp
      obtain ⟨b, o, sp'⟩ := a
      simp only at this
      subst this
      rfl
    · obtain rfl : a = ⟨bl, ol, none⟩ := by simpa using ea
      have := (hcl i hi).2.2 j q
      rw [Addr.add_lit, Addr.add_lit] at this
      exact this

theorem small_agg {fs : Array Field} {t : TypeId} {P : Program} (hu : P.underlying t = some (.struct fs)) {parts : List (DataW H)} (h : SmallW P t (.agg parts)) (i : Nat) {ti : TypeId} {d : DataW H} (h1 : (fs.toList.map (·.type))[i]? = some ti) (h2 : parts[i]? = some d) : SmallW P ti d := fun n hn =>
  h n (by simp only [DataW.weights, hu]; exact DataW.weights_mem_each h1 h2 n hn)
theorem small_string {P : Program} {t : TypeId} {b : List UInt8} (h : SmallW (H := H) P t (.lit (.string b))) : b.length ≤ reachBytes := h _ (by simp [DataW.weights])
theorem reach_47 : reachBytes = 140737488351232 := by decide

theorem lies_of_trod : ∀ (fuel : Nat) (cs : List Value) (x : DataW H × List MemPlace), DataW.trod enc Tryd.prog w base sp held fuel 25 cs = some x → SmallW Tryd.prog 25 x.1 → ∃ t, Lies w (fun _ => True) t cs.toArray := by
  intro fuel
  induction fuel using Nat.strongRecOn with
  | _ fuel ih =>
    intro cs x h hs
    obtain ⟨xs, n, rfl, rfl, hlen, hxl, hf⟩ := DataW.trod_struct Tryd.underlying25 h
    rw [Tryd.cellsV] at hlen
    obtain ⟨c0, c1, c2, c3, c4, c5, rfl⟩ := list6 hlen
    obtain ⟨x0, x1, x2, x3, x4, x5, rfl⟩ := list6 hxl
    have f0 : DataW.trod enc Tryd.prog w base sp held n 3 (([c0, c1, c2, c3, c4, c5].drop 0).take (Tryd.prog.cellsOf 3)) = some x0 := hf 0 _ rfl
    rw [Tryd.cells_int] at f0
    have f1 : DataW.trod enc Tryd.prog w base sp held n 4 (([c0, c1, c2, c3, c4, c5].drop 1).take (Tryd.prog.cellsOf 4)) = some x1 := hf 1 _ rfl
    rw [Tryd.cells_bool] at f1
    have f2 : DataW.trod enc Tryd.prog w base sp held n 2 (([c0, c1, c2, c3, c4, c5].drop 2).take (Tryd.prog.cellsOf 2)) = some x2 := hf 2 _ rfl
    rw [Tryd.cells_int64] at f2
    have f3 : DataW.trod enc Tryd.prog w base sp held n 9 (([c0, c1, c2, c3, c4, c5].drop 3).take (Tryd.prog.cellsOf 9)) = some x3 := hf 3 _ rfl
    rw [Tryd.cells_string] at f3
    have f4 : DataW.trod enc Tryd.prog w base sp held n 22 (([c0, c1, c2, c3, c4, c5].drop 4).take (Tryd.prog.cellsOf 22)) = some x4 := hf 4 _ rfl
    rw [Tryd.cells_values] at f4
    have f5 : DataW.trod enc Tryd.prog w base sp held n 23 (([c0, c1, c2, c3, c4, c5].drop 5).take (Tryd.prog.cellsOf 23)) = some x5 := hf 5 _ rfl
    rw [Tryd.cells_pairs] at f5
    simp only [List.drop_zero, List.drop_succ_cons, List.take_succ_cons, List.take_zero] at f0 f1 f2 f3 f4 f5
    obtain ⟨k, e0, _, hk⟩ := DataW.trod_int Tryd.underlying3 f0
    obtain ⟨b, e1, _⟩ := DataW.trod_bool Tryd.underlying4 f1
    obtain ⟨m, e2, _, hm⟩ := DataW.trod_int Tryd.underlying2 f2
    obtain ⟨s, e3, ex3, _⟩ := DataW.trod_string Tryd.underlying9 f3
    obtain rfl : c0 = .int .i64 k := (List.cons.inj e0).1
    obtain rfl : c1 = .bool b := (List.cons.inj e1).1
    obtain rfl : c2 = .int .i64 m := (List.cons.inj e2).1
    obtain rfl : c3 = .string s := (List.cons.inj e3).1
    have w3 := small_agg Tryd.underlying25 hs 3 (ti := 9) (d := x3.1) rfl rfl
    have w4 := small_agg Tryd.underlying25 hs 4 (ti := 22) (d := x4.1) rfl rfl
    have w5 := small_agg Tryd.underlying25 hs 5 (ti := 23) (d := x5.1) rfl rfl
    have hsz : s.size ≤ 140737488355328 := by
      rw [ex3] at w3
      have := small_string w3
      rw [reach_47] at this
      have e : s.data.toList.length = s.size := by simp
      omega
    obtain ⟨la, ll, lc, cl, rfl, hle4, hm4, hb4, hn4, hs4, hE4⟩ := slice_lift (p := fun c => ∃ t, Lies w (fun _ => True) t c.toArray) Tryd.underlying22 Tryd.cellsV (by omega) f4 w4 (fun n' cs' y hlt hy hsy => ih n' (by omega) cs' y hy hsy)
    obtain ⟨ma, ml, mc, cm, rfl, hle5, hm5, hb5, hn5, hs5, hE5⟩ := slice_lift (p := fun c => ∃ (key : ByteArray) (t : T) (r : Array Value), c.toArray = #[Value.string key] ++ r ∧ key.size ≤ 140737488355328 ∧ Lies w (fun _ => True) t r) Tryd.underlying23 Tryd.cellsP (by omega) f5 w5 (fun n' cs' y hlt hy hsy => by
      obtain ⟨ys, n2, rfl, rfl, hlen2, hyl, hf2⟩ := DataW.trod_struct Tryd.underlying54 hy
      obtain ⟨y0, y1, rfl⟩ := list2 hyl
      rw [Tryd.cellsP] at hlen2
      obtain ⟨d0, r, rfl⟩ : ∃ d0 r, cs' = d0 :: r := by
        cases cs' with
        | nil => simp at hlen2
        | cons d0 r => exact ⟨d0, r, rfl⟩
      have hr6 : r.length = 6 := by simpa using hlen2
      have g0 : DataW.trod enc Tryd.prog w base sp held n2 9 (((d0 :: r).drop 0).take (Tryd.prog.cellsOf 9)) = some y0 := hf2 0 _ rfl
      rw [Tryd.cells_string] at g0
      have g1 : DataW.trod enc Tryd.prog w base sp held n2 25 (((d0 :: r).drop 1).take (Tryd.prog.cellsOf 25)) = some y1 := hf2 1 _ rfl
      rw [Tryd.cellsV] at g1
      simp only [List.drop_zero, List.drop_succ_cons, List.take_succ_cons, List.take_zero] at g0
      simp only [List.drop_succ_cons, List.drop_zero] at g1
      rw [List.take_of_length_le (by omega)] at g1
      obtain ⟨key, ek, eky, _⟩ := DataW.trod_string Tryd.underlying9 g0
      obtain rfl : d0 = .string key := (List.cons.inj ek).1
      have v0 := small_agg Tryd.underlying54 hsy 0 (ti := 9) (d := y0.1) rfl rfl
      have v1 := small_agg Tryd.underlying54 hsy 1 (ti := 25) (d := y1.1) rfl rfl
      obtain ⟨t, ht⟩ := ih n2 (by omega) r y1 g1 v1
      refine ⟨key, t, r.toArray, by simp, ?_, ht⟩
      rw [eky] at v0
      have := small_string v0
      rw [reach_47] at this
      have e : key.data.toList.length = key.size := by simp
      omega)
    rw [Tryd.bytesV, reach_47] at hb4
    rw [Tryd.bytesP, reach_47] at hb5
    obtain ⟨fl, hfl⟩ : ∃ fl : Nat → T, ∀ i, i < ll → Lies w (fun _ => True) (fl i) (cl i).toArray := by
      have : ∀ i, ∃ t, i < ll → Lies w (fun _ => True) t (cl i).toArray := fun i => by
        by_cases hi : i < ll
        · obtain ⟨t, ht⟩ := (hE4 i hi).1; exact ⟨t, fun _ => ht⟩
        · exact ⟨T.mk 0 false 0 ⟨#[]⟩ [] [], fun q => absurd q hi⟩
      exact Classical.axiomOfChoice this
    obtain ⟨fm, hfm⟩ : ∃ fm : Nat → ByteArray × T × Array Value, ∀ i, i < ml → (cm i).toArray = #[Value.string (fm i).1] ++ (fm i).2.2 ∧ (fm i).1.size ≤ 140737488355328 ∧ Lies w (fun _ => True) (fm i).2.1 (fm i).2.2 := by
      have : ∀ i, ∃ q : ByteArray × T × Array Value, i < ml → (cm i).toArray = #[Value.string q.1] ++ q.2.2 ∧ q.1.size ≤ 140737488355328 ∧ Lies w (fun _ => True) q.2.1 q.2.2 := fun i => by
        by_cases hi : i < ml
        · obtain ⟨key, t, r, h1, h2, h3⟩ := (hE5 i hi).1; exact ⟨(key, t, r), fun _ => ⟨h1, h2, h3⟩⟩
        · exact ⟨(⟨#[]⟩, T.mk 0 false 0 ⟨#[]⟩ [] [], #[]), fun q => absurd q hi⟩
      exact Classical.axiomOfChoice this
    have hV : SliceV w (fun _ => True) ((List.range ll).map fl) la lc (fun i => (cl i).toArray) := by
      refine ⟨⟨by simpa using hle4, by simp; omega, hn4, fun hp => ?_, by unfold maxLen at hm4; omega⟩, fun i hi bl ol e j hj => ?_, fun i hi => ?_⟩
      · obtain ⟨bl, ol, e⟩ := hs4 (by simpa using hp); exact ⟨bl, ol, e, trivial⟩
      · have := (hE4 i (by simpa using hi)).2.2 bl ol e j (by simpa using hj)
        simpa using this
      · have := hfl i (by simpa using hi)
        simpa using this
    have hP : SliceP w (fun _ => True) ((List.range ml).map fun i => ((fm i).1, (fm i).2.1)) ma mc (fun i => (fm i).2.2) := by
      refine ⟨⟨by simpa using hle5, by simp; omega, hn5, fun hp => ?_, by unfold maxLen at hm5; omega⟩, fun i hi bl ol e j hj => ?_, fun i hi => ?_, fun i hi => ?_⟩
      · obtain ⟨bl, ol, e⟩ := hs5 (by simpa using hp); exact ⟨bl, ol, e, trivial⟩
      · have hi' : i < ml := by simpa using hi
        have er : (cm i).toArray = #[Value.string (((List.range ml).map fun i => ((fm i).1, (fm i).2.1))[i]).1] ++ (fm i).2.2 := by simpa using (hfm i hi').1
        have hj2 : j < (cm i).toArray.size := by rw [er]; exact hj
        have := (hE5 i hi').2.2 bl ol e j (by simpa using hj2)
        rw [this]
        exact congrArg some ((List.getElem_toArray hj2).symm.trans (get_congr er j hj2 hj))
      · simpa using (hfm i (by simpa using hi)).2.1
      · simpa using (hfm i (by simpa using hi)).2.2
    have hL := Lies.of_slices hk hm hsz hV hP (b := b)
    simp only [List.length_map, List.length_range] at hL
    exact ⟨_, hL⟩
end
end Go.Proofs.YtbmlmcoepmbelaaDoor
