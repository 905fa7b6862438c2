/-
  Package funcs' Call, of a function that there is, with as many arguments as it takes.
-/
import Derived.Test.YtclkinokmpcigaaGreatDoorFnFind
set_option linter.unusedVariables false
set_option linter.unusedSimpArgs false
namespace Go.Proofs.YtclkinokmpcigaaGreatDoor
open Go.RowKit

abbrev sixV (k : Int) (b : Bool) (n : Int) (s : ByteArray) (la : Option Addr) (ll lc : Nat) (ma : Option Addr) (ml mc : Nat) : Array Value := #[.int .i64 k, .bool b, .int .i64 n, .string s, .slice la ll lc, .slice ma ml mc]
/-- What answer hands back: a value and an error; a value that is nothing, where the error isn't 0. -/
def AnsIn (P : Array Value → Int → World → Prop) (e : Ending) (w w' : World) : Prop := ∃ k b n s la ll lc ma ml mc c, e = .returned (.tuple #[.agg (sixV k b n s la ll lc ma ml mc), .int .i64 c]) ∧ (c = 0 ∧ s.size ≤ 65536 ∨ c ≠ 0 ∧ sixV k b n s la ll lc ma ml mc = zeroV) ∧ P (sixV k b n s la ll lc ma ml mc) c w' ∧ Below w.heap.size w w'

set_option maxRecDepth 100000 in
set_option maxHeartbeats 1000000 in
theorem fCall_any (name : ByteArray) (k : Nat) (hk : k < 29) (he : (fnAt k).1 = name) (hn : ∀ i, i < k → (fnAt i).1 ≠ name) (sa : Option Addr) (len sc : Nat) (hlo : (fnAt k).2.1 ≤ (len : Int)) (hhi : (len : Int) ≤ (fnAt k).2.2)
    (P : Array Value → Int → World → Prop) (w : World) (mono : ∀ ds c w1 w2, w1.heap.size ≤ w2.heap.size → (∀ b, b ≠ w.heap.size → b < w1.heap.size → w2.heap[b]? = w1.heap[b]?) → P ds c w1 → P ds c w2) (hw : FnTab w)
    (H : ∀ w1, Below w.heap.size w w1 → w.heap.size < w1.heap.size → Calls Tryz.prog 14 #[.string name, .slice sa len sc] w1 fun e w' => AnsIn P e w1 w') :
    Calls Tryz.prog 7 #[.string name, .slice sa len sc] w fun e w' => ∃ ds c, e = .returned (.tuple #[.agg ds, .int .i64 c]) ∧ P ds c w' ∧ Below w.heap.size w w' := by
  obtain ⟨dd, hu, hdd⟩ := Tryz.structV
  have DD := Lib.hid hdd
  have HU := Lib.hid hu
  clear hdd hu
  have hb1 := (Below.refl w.heap.size w).alloc (Nat.le_refl _) (.cells zeroV 27)
  have FI := Lib.hid (ffind_any name k hk he hn (w.alloc (.cells zeroV 27)) (hw.later hb1))
  have es : (w.alloc (.cells zeroV 27)).heap.size = w.heap.size + 1 := by simp
  have B1 := Lib.hid (Box6.new w zeroV 27)
  have T1 := Lib.hid (Thaw.new w zeroV 27)
  have MO := Lib.hid mono
  have HH := Lib.hid H
  have HB1 := Lib.hid hb1
  have ES := Lib.hid es
  have hlo' : decide ((len : Int) < (fnAt k).2.1) = false := by simp; omega
  have hhi' : decide ((fnAt k).2.2 < (len : Int)) = false := by simp; omega
  rw [fnRow] at FI
  clear hb1 es mono H hlo hhi he hn hw
  generalize (fnAt k).2.1 = lo at *
  generalize (fnAt k).2.2 = hi at *
  generalize (fnAt k).1 = nm at *
  go_enter Tryz.func7, Tryz.ntmps7
  go_upto_region 1 with fail
  generalize (w.alloc (.cells zeroV 27)) = v at *
  go_upto_region 6 with (go_at_call 13; refine FI.out.mono ?_; rintro e w1 ⟨rfl, hb⟩; have HB2 := Lib.hid hb; clear hb)
  have hv1 := HB1.out
  have hb3 : Below w.heap.size w (w1.alloc (.cells #[.string nm, .int .i64 lo, .int .i64 hi] 40)) := (bstep HB1.out HB2.out HB1.out.size).alloc ((bstep HB1.out HB2.out HB1.out.size).size) _
  have HB3 := Lib.hid hb3
  have HBV : Hid (Below v.heap.size v (w1.alloc (.cells #[.string nm, .int .i64 lo, .int .i64 hi] 40))) := HB2.out.alloc HB2.out.size _
  have HS3 : Hid (w.heap.size < (w1.alloc (.cells #[.string nm, .int .i64 lo, .int .i64 hi] 40)).heap.size) := by
    have h1 := HBV.out.size
    have h2 := ES.out
    show _ < _
    omega
  clear hv1 hb3
  go_upto_region 7 with (go_at_call 14; refine (HH.out _ HB3.out HS3.out).mono ?_; rintro e w2 ⟨k0, b0, n0, s0, la, ll, lc, ma, ml, mc, c, rfl, hc, hP, hb⟩; have HB4 := Lib.hid hb; have HP := Lib.hid hP; have HC := Lib.hid hc; clear hb hP hc)
  have hba : Below v.heap.size v (w2.alloc (.cells (sixV k0 b0 n0 s0 la ll lc ma ml mc) 27)) := (bstep HBV.out HB4.out HBV.out.size).alloc ((bstep HBV.out HB4.out HBV.out.size).size) _
  have hvr : w.heap.size < v.heap.size := by rw [ES.out]; omega
  obtain ⟨c0, c1, c2, c3, c4, c5⟩ := (B1.out.later hba hvr).six
  obtain ⟨f0, f1, f2, f3, f4, f5⟩ := (T1.out.later hba hvr).six
  have hca := (B1.out.later hba hvr).cells rfl
  have HCA := Lib.hid hca
  have hbz : Below w.heap.size w (w2.alloc (.cells (sixV k0 b0 n0 s0 la ll lc ma ml mc) 27)) := bstep HB1.out hba HB1.out.size
  have HBZ := Lib.hid hbz
  have hPa : ∀ vs : List Value, P (sixV k0 b0 n0 s0 la ll lc ma ml mc) c (setRow (w2.alloc (.cells (sixV k0 b0 n0 s0 la ll lc ma ml mc) 27)) w.heap.size 0 vs) := fun vs => MO.out _ c w2 _ (by rw [setRow_size]; simp) (fun b hb hlt => (setRow_heap _ _ _ _ _ hb).trans (Below.heap_alloc _ _ _ hlt)) HP.out
  have HPA := Lib.hid hPa
  clear hba hca hbz hPa HP
  rcases HC.out with ⟨rfl, hs⟩ | ⟨hc, hz⟩
  · have hs' : decide (65536 < (s0.size : Int)) = false := by simp; omega
    clear HC
    go_wp2_with fail
    exact ret_cells_tmp (w2.alloc (.cells (sixV k0 b0 n0 s0 la ll lc ma ml mc) 27)) w.heap.size (sixV k0 b0 n0 s0 la ll lc ma ml mc).toList rfl Tryz.results7 rfl rfl DD.out HU.out Tryz.sizeV HCA.out ⟨_, _, rfl, HPA.out _, setRow_below _ (Nat.le_refl _) _ _ _ HBZ.out⟩
  · have hc' : (c == 0) = false := by rw [beq_eq_false_iff_ne]; exact hc
    have hc2 : (c != 0) = true := by rw [bne_iff_ne]; exact hc
    have HZ := Lib.hid hz
    clear HC hz hc
    go_wp2_with fail
    have hP2 : P zeroV c (setRow (w2.alloc (.cells (sixV k0 b0 n0 s0 la ll lc ma ml mc) 27)) w.heap.size 0 zeroV.toList) := by
      have h := HPA.out zeroV.toList
      rw [HZ.out] at h ⊢
      exact h
    exact ret_cells_tmp (w2.alloc (.cells (sixV k0 b0 n0 s0 la ll lc ma ml mc) 27)) w.heap.size zeroV.toList rfl Tryz.results7 rfl rfl DD.out HU.out Tryz.sizeV HCA.out ⟨_, _, rfl, hP2, setRow_below _ (Nat.le_refl _) _ _ _ HBZ.out⟩

end Go.Proofs.YtclkinokmpcigaaGreatDoor
