/-
  What FuncsTexts' closure answers, by names.
-/
import Derived.Test.YtclkinokmpcigaaGreatDoorFnTxt
import Derived.Test.YtclkinokmpcigaaGreatDoorFnChg
import Derived.Test.YtclkinokmpcigaaGreatDoorFnPrt
import Derived.Test.YtclkinokmpcigaaGreatDoorFnJoin
import Derived.Test.YtclkinokmpcigaaGreatDoorTxtP
set_option linter.unusedVariables false
set_option linter.unusedSimpArgs false
namespace Go.Proofs.YtclkinokmpcigaaGreatDoor
open Go.RowKit

theorem lies_str (w : World) (s : ByteArray) (hs : s.size ≤ 140737488355328) : Lies w (fun _ => True) (txT s) (cS s) :=
  .mk 3 false 0 s [] [] none 0 none 0 (fun _ => #[]) (fun _ => #[]) (by decide) (by decide) hs ⟨by simp, by simp, fun _ => rfl, fun h => absurd h (by simp), by simp⟩ ⟨by simp, by simp, fun _ => rfl, fun h => absurd h (by simp), by simp⟩
    (fun i h => absurd h (by simp)) (fun i h => absurd h (by simp)) (fun i h => absurd h (by simp)) (fun i h => absurd h (by simp)) (fun i h => absurd h (by simp))
/-- A text; what was there lies there. -/
def TxOut (r : ByteArray) (w : World) (e : Ending) (w' : World) : Prop := e = .returned (.string r) ∧ Below w.heap.size w w'
/-- A slice of an empty text and a list. -/
def JoinV (w : World) (sb : Nat) (ts : List T) : Prop := ∃ (R : Nat → Prop) (d0 : Int) (d1 : Bool) (d2 : Int) (d3 : ByteArray) (d4 : Option Addr) (d4l d4c : Nat) (d5 : Option Addr) (d5l d5c : Nat), TwoV w sb (.int .i64 3) (.bool false) (.int .i64 0) (.string ⟨#[]⟩) (.slice none 0 0) (.slice none 0 0) (.int .i64 d0) (.bool d1) (.int .i64 d2) (.string d3) (.slice d4 d4l d4c) (.slice d5 d5l d5c) ∧ Lies w R (T.listOf ts) #[.int .i64 d0, .bool d1, .int .i64 d2, .string d3, .slice d4 d4l d4c, .slice d5 d5l d5c]
theorem JoinV.later {w w' : World} {sb : Nat} {ts : List T} (h : JoinV w sb ts) (hb : Below w.heap.size w w') : JoinV w' sb ts := by
  obtain ⟨R, d0, d1, d2, d3, d4, d4l, d4c, d5, d5l, d5c, h1, h2⟩ := h
  exact ⟨R, d0, d1, d2, d3, d4, d4l, d4c, d5, d5l, d5c, h1.later hb, h2.later hb⟩
theorem JoinV.new {w : World} {R : Nat → Prop} {ts : List T} {d0 : Int} {d1 : Bool} {d2 : Int} {d3 : ByteArray} {d4 : Option Addr} {d4l d4c : Nat} {d5 : Option Addr} {d5l d5c : Nat} (h : Lies w R (T.listOf ts) #[.int .i64 d0, .bool d1, .int .i64 d2, .string d3, .slice d4 d4l d4c, .slice d5 d5l d5c]) : JoinV (w.alloc (.cells #[.int .i64 3, .bool false, .int .i64 0, .string ⟨#[]⟩, .slice none 0 0, .slice none 0 0, .int .i64 d0, .bool d1, .int .i64 d2, .string d3, .slice d4 d4l d4c, .slice d5 d5l d5c] 27)) w.heap.size ts :=
  ⟨R, d0, d1, d2, d3, d4, d4l, d4c, d5, d5l, d5c, TwoV.new w _ _ _ _ _ _ _ _ _ _ _ _ 27, h.later ((Below.refl w.heap.size w).alloc (Nat.le_refl _) _)⟩
theorem text_upper {s r : ByteArray} (hc : ChgTo ⟨#[117, 112, 112, 101, 114]⟩ s r) (hr : r.size ≤ 65536) (w : World) (hw : FnTab w) (sb : Nat) (h : Box6 w sb (cS s)) (hsb : sb < w.heap.size) :
    Calls Tryz.prog 6 #[.string ⟨#[117, 112, 112, 101, 114]⟩, .slice (some ⟨sb, 0, none⟩) 1 1] w (TxOut r w) :=
  texts1_any _ _ _ _ _ w (calls_txt (k := 28) (by decide) rfl (by decide) (by decide) hr w hw fun w1 h1 hlt => fanswer_upper s r w1 sb (h.later h1 hsb) (by omega) hc)
theorem text_lower {s r : ByteArray} (hc : ChgTo ⟨#[108, 111, 119, 101, 114]⟩ s r) (hr : r.size ≤ 65536) (w : World) (hw : FnTab w) (sb : Nat) (h : Box6 w sb (cS s)) (hsb : sb < w.heap.size) :
    Calls Tryz.prog 6 #[.string ⟨#[108, 111, 119, 101, 114]⟩, .slice (some ⟨sb, 0, none⟩) 1 1] w (TxOut r w) :=
  texts1_any _ _ _ _ _ w (calls_txt (k := 13) (by decide) rfl (by decide) (by decide) hr w hw fun w1 h1 hlt => fanswer_lower s r w1 sb (h.later h1 hsb) (by omega) hc)
theorem text_trim {s r : ByteArray} (hc : ChgTo ⟨#[116, 114, 105, 109]⟩ s r) (hr : r.size ≤ 65536) (w : World) (hw : FnTab w) (sb : Nat) (h : Box6 w sb (cS s)) (hsb : sb < w.heap.size) :
    Calls Tryz.prog 6 #[.string ⟨#[116, 114, 105, 109]⟩, .slice (some ⟨sb, 0, none⟩) 1 1] w (TxOut r w) :=
  texts1_any _ _ _ _ _ w (calls_txt (k := 27) (by decide) rfl (by decide) (by decide) hr w hw fun w1 h1 hlt => fanswer_trim s r w1 sb (h.later h1 hsb) (by omega) hc)
theorem text_quote {s r : ByteArray} (hc : ChgTo ⟨#[113, 117, 111, 116, 101]⟩ s r) (hr : r.size ≤ 65536) (w : World) (hw : FnTab w) (sb : Nat) (h : Box6 w sb (cS s)) (hsb : sb < w.heap.size) :
    Calls Tryz.prog 6 #[.string ⟨#[113, 117, 111, 116, 101]⟩, .slice (some ⟨sb, 0, none⟩) 1 1] w (TxOut r w) :=
  texts1_any _ _ _ _ _ w (calls_txt (k := 21) (by decide) rfl (by decide) (by decide) hr w hw fun w1 h1 hlt => fanswer_quote s r w1 sb (h.later h1 hsb) (by omega) hc)
theorem text_toString {s r : ByteArray} (hc : ChgTo ⟨#[116, 111, 83, 116, 114, 105, 110, 103]⟩ s r) (hr : r.size ≤ 65536) (w : World) (hw : FnTab w) (sb : Nat) (h : Box6 w sb (cS s)) (hsb : sb < w.heap.size) :
    Calls Tryz.prog 6 #[.string ⟨#[116, 111, 83, 116, 114, 105, 110, 103]⟩, .slice (some ⟨sb, 0, none⟩) 1 1] w (TxOut r w) :=
  texts1_any _ _ _ _ _ w (calls_txt (k := 25) (by decide) rfl (by decide) (by decide) hr w hw fun w1 h1 hlt => fanswer_toString s r w1 sb (h.later h1 hsb) (by omega) hc)
theorem text_indent {s : ByteArray} (hs : s.size ≤ 65535) (w : World) (hw : FnTab w) (sb : Nat) (h : TwoV w sb (.int .i64 2) (.bool false) (.int .i64 0) (.string ⟨#[]⟩) (.slice none 0 0) (.slice none 0 0) (.int .i64 3) (.bool false) (.int .i64 0) (.string s) (.slice none 0 0) (.slice none 0 0)) :
    Calls Tryz.prog 6 #[.string ⟨#[105, 110, 100, 101, 110, 116]⟩, .slice (some ⟨sb, 0, none⟩) 2 2] w (TxOut s w) :=
  texts1_any _ _ _ _ _ w (calls_txt (k := 7) (by decide) rfl (by decide) (by decide) (by omega) w hw fun w1 h1 hlt => fanswer_indent s (by omega) w1 sb (h.later h1))
theorem text_nindent {s : ByteArray} (hs : s.size ≤ 65535) (w : World) (hw : FnTab w) (sb : Nat) (h : TwoV w sb (.int .i64 2) (.bool false) (.int .i64 0) (.string ⟨#[]⟩) (.slice none 0 0) (.slice none 0 0) (.int .i64 3) (.bool false) (.int .i64 0) (.string s) (.slice none 0 0) (.slice none 0 0)) :
    Calls Tryz.prog 6 #[.string ⟨#[110, 105, 110, 100, 101, 110, 116]⟩, .slice (some ⟨sb, 0, none⟩) 2 2] w (TxOut (⟨#[10]⟩ ++ s) w) :=
  texts1_any _ _ _ _ _ w (calls_txt (k := 17) (by decide) rfl (by decide) (by decide) (by rw [ByteArray.size_append]; show 1 + s.size ≤ 65536; omega) w hw fun w1 h1 hlt => fanswer_nindent s (by omega) w1 sb (h.later h1))
theorem text_print {a b : ByteArray} (hs : a.size + b.size ≤ 65536) {R : Nat → Prop} (w : World) (hw : FnTab w) (sb : Nat) (cl : Nat → Array Value) (h : SliceV w R [txT a, txT b] (some ⟨sb, 0, none⟩) 2 cl) :
    Calls Tryz.prog 6 #[.string ⟨#[112, 114, 105, 110, 116]⟩, .slice (some ⟨sb, 0, none⟩) 2 2] w (TxOut (a ++ b) w) := by
  have hl : (glueL [] (txF a b) [txT a, txT b].length).length ≤ 65536 := by
    show (glueL [] (txF a b) 2).length ≤ 65536
    rw [glue_two, List.length_append, ← Lib.size_eq, ← Lib.size_eq]
    exact hs
  have hz : (a ++ b).size ≤ 65536 := by rw [ByteArray.size_append]; exact hs
  refine texts1_any _ _ _ _ _ w (calls_txt (k := 20) (by decide) rfl (by decide) (by decide) hz w hw fun w1 h1 hlt => ?_)
  have k := fanswer_print h (txF a b) (two_said a b) hl w1 h1
  have e : (⟨(glueL [] (txF a b) [txT a, txT b].length).toArray⟩ : ByteArray) = a ++ b := glued_two a b
  rw [e] at k
  exact k
theorem text_join {a b : ByteArray} (hs : a.size + b.size ≤ 65536) (w : World) (hw : FnTab w) (sb : Nat) (h : JoinV w sb [txT a, txT b]) :
    Calls Tryz.prog 6 #[.string ⟨#[106, 111, 105, 110]⟩, .slice (some ⟨sb, 0, none⟩) 2 2] w (TxOut (a ++ b) w) := by
  have hl : (glueL [] (txF a b) [txT a, txT b].length).length ≤ 65536 := by
    show (glueL [] (txF a b) 2).length ≤ 65536
    rw [glue_two, List.length_append, ← Lib.size_eq, ← Lib.size_eq]
    exact hs
  have hz : (a ++ b).size ≤ 65536 := by rw [ByteArray.size_append]; exact hs
  obtain ⟨R, d0, d1, d2, d3, d4, d4l, d4c, d5, d5l, d5c, h1, h2⟩ := h
  refine texts1_any _ _ _ _ _ w (calls_txt (k := 9) (by decide) rfl (by decide) (by decide) hz w hw fun w1 g1 hlt => ?_)
  have k := fanswer_join w1 sb ⟨#[]⟩ (h1.later g1) (h2.later g1) (txF a b) (two_said a b) hl (Nat.zero_le _)
  have e : (⟨(glueL (⟨#[]⟩ : ByteArray).data.toList (txF a b) [txT a, txT b].length).toArray⟩ : ByteArray) = a ++ b := glued_two a b
  rw [e] at k
  exact k

end Go.Proofs.YtclkinokmpcigaaGreatDoor
