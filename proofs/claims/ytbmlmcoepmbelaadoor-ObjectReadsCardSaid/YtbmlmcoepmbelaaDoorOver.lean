/-
  Values laid over others: on the trees alone.
-/
import Derived.Test.YtbmlmcoepmbelaaDoorPuts
set_option linter.unusedVariables false
set_option linter.unusedSimpArgs false
namespace Go.Proofs.YtbmlmcoepmbelaaDoor
open Go.RowKit

abbrev Prs := List (ByteArray × T)

/-- Those below a key. -/
def cutB (key : ByteArray) : Prs → Prs
  | [] => []
  | p :: r => if ltS p.1 key = true then p :: cutB key r else []
/-- What stands under it, or nothing. -/
def cutH (key : ByteArray) : Prs → T
  | [] => T.nil
  | p :: r => if ltS p.1 key = true then cutH key r else if p.1 = key then p.2 else T.nil
/-- Those above. -/
def cutA (key : ByteArray) : Prs → Prs
  | [] => []
  | p :: r => if ltS p.1 key = true then cutA key r else if p.1 = key then r else p :: r

mutual
/-- u laid over t. -/
def T.over (t : T) : T → T
  | .mk k b n s l m => if k = 5 then .mk 5 false 0 ⟨#[]⟩ [] (overR t.pairs m) else .mk k b n s l m
termination_by u => SizeOf.sizeOf u
decreasing_by simp only [T.mk.sizeOf_spec]; omega
def overR (rest : Prs) : Prs → Prs
  | [] => rest
  | p :: ps => cutB p.1 rest ++ ((if p.2.kind = 0 then [] else [(p.1, T.over (cutH p.1 rest) p.2)]) ++ overR (cutA p.1 rest) ps)
termination_by m => SizeOf.sizeOf m
decreasing_by
  · obtain ⟨a, b⟩ := p
    simp only [List.cons.sizeOf_spec, Prod.mk.sizeOf_spec]; omega
  · simp only [List.cons.sizeOf_spec]; omega
end

theorem over_map (t : T) (b : Bool) (n : Int) (s : ByteArray) (l : List T) (m : Prs) : T.over t (.mk 5 b n s l m) = .mk 5 false 0 ⟨#[]⟩ [] (overR t.pairs m) := by rw [T.over, if_pos rfl]
theorem over_other (t : T) {k : Int} (b : Bool) (n : Int) (s : ByteArray) (l : List T) (m : Prs) (h : k ≠ 5) : T.over t (.mk k b n s l m) = .mk k b n s l m := by rw [T.over, if_neg h]
theorem overR_nil (rest : Prs) : overR rest [] = rest := by rw [overR]
theorem overR_cons (rest : Prs) (p : ByteArray × T) (ps : Prs) : overR rest (p :: ps) = cutB p.1 rest ++ ((if p.2.kind = 0 then [] else [(p.1, T.over (cutH p.1 rest) p.2)]) ++ overR (cutA p.1 rest) ps) := by rw [overR]

/-- Where a key cuts. -/
theorem cut_at (key : ByteArray) : ∀ (i : Nat) (ps : Prs), i ≤ ps.length → (∀ j (h : j < ps.length), j < i → ltS ps[j].1 key = true) → (∀ h : i < ps.length, ltS ps[i].1 key = false) →
    cutB key ps = ps.take i ∧ ((∃ h : i < ps.length, ps[i].1 = key ∧ cutH key ps = ps[i].2 ∧ cutA key ps = ps.drop (i + 1)) ∨ ((∀ h : i < ps.length, ps[i].1 ≠ key) ∧ cutH key ps = T.nil ∧ cutA key ps = ps.drop i))
  | 0, [], _, _, _ => ⟨rfl, .inr ⟨fun h => absurd h (by simp), rfl, rfl⟩⟩
  | 0, p :: r, _, _, h1 => by
    have hf : ltS p.1 key = false := h1 (by simp)
    have n1 : ¬ ltS p.1 key = true := by simp [hf]
    refine ⟨by rw [cutB, if_neg n1]; rfl, ?_⟩
    by_cases e : p.1 = key
    · exact .inl ⟨by simp, e, by rw [cutH, if_neg n1, if_pos e]; rfl, by rw [cutA, if_neg n1, if_pos e]; rfl⟩
    · exact .inr ⟨fun _ => e, by rw [cutH, if_neg n1, if_neg e], by rw [cutA, if_neg n1, if_neg e]; rfl⟩
  | i + 1, [], h, _, _ => absurd h (by simp)
  | i + 1, p :: r, h, h0, h1 => by
    have hf : ltS p.1 key = true := h0 0 (by simp) (by omega)
    obtain ⟨e1, e2⟩ := cut_at key i r (by simpa using h) (fun j hj hij => by have := h0 (j + 1) (by simpa using hj) (by omega); simpa using this) (fun hi => by have := h1 (by simpa using hi); simpa using this)
    refine ⟨by rw [cutB, if_pos hf, e1]; rfl, ?_⟩
    rcases e2 with ⟨hi, e, a1, a2⟩ | ⟨hn, a1, a2⟩
    · exact .inl ⟨by simpa using hi, by simpa using e, by rw [cutH, if_pos hf, a1]; simp, by rw [cutA, if_pos hf, a2]; simp⟩
    · exact .inr ⟨fun hi => by simpa using hn (by simpa using hi), by rw [cutH, if_pos hf, a1], by rw [cutA, if_pos hf, a2]; simp⟩

theorem cut_len (key : ByteArray) : ∀ ps : Prs, (cutB key ps).length + (cutA key ps).length ≤ ps.length
  | [] => by simp [cutB, cutA]
  | p :: r => by
    have := cut_len key r
    rw [cutB, cutA]
    split
    · simp; omega
    · split <;> simp

end Go.Proofs.YtbmlmcoepmbelaaDoor
