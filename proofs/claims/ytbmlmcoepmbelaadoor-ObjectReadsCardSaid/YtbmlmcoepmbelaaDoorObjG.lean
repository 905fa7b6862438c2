/-
  What a document that may be tells of itself: the reference's way comes to the same (pure).
-/
import Derived.Test.YtbmlmcoepmbelaaDoorObjO
import Derived.Test.YtbmlmcoepmbelaaDoorGood
import Derived.Test.YtbmlmcoepmbelaaDoorPuts
set_option linter.unusedVariables false
set_option linter.unusedSimpArgs false
namespace Go.Proofs.YtbmlmcoepmbelaaDoor
open Go.RowKit Go.Sort

theorem nil_good : T.nil.parts = 0 := by rw [T.nil, T.parts_mk]; kernel_rfl
theorem good_txt {t : T} (h : t.parts = 0) : txtO t = t.str := by
  obtain ⟨k, b, n, s, l, m⟩ := t
  have hp := parts_zero h
  obtain ⟨_, _, _, _, h3, _, _⟩ := kind_parts hp.kind
  show txtC k s = s
  unfold txtC
  by_cases hk : k = 3
  · rw [if_pos hk]
  · rw [if_neg hk, h3 hk]
theorem good_get {t : T} (h : t.parts = 0) (key : ByteArray) : findR key t.map = t.get key := by
  obtain ⟨k, b, n, s, l, m⟩ := t
  have hp := parts_zero h
  obtain ⟨_, _, _, _, _, _, h5⟩ := kind_parts hp.kind
  show findR key m = _
  unfold findR T.get T.pairs
  by_cases hk : k = 5
  · simp [hk]
  · simp [hk, h5 hk]
theorem good_sub {t : T} (h : t.parts = 0) (key : ByteArray) : ((t.get key).getD T.nil).parts = 0 := by
  obtain ⟨k, b, n, s, l, m⟩ := t
  have hp := parts_zero h
  cases hg : (T.mk k b n s l m).get key with
  | none => exact nil_good
  | some u =>
    rw [← good_get h] at hg
    unfold findR at hg
    obtain ⟨p, hp2, rfl⟩ := Option.map_eq_some_iff.1 hg
    exact hp.map p (List.mem_of_find?_eq_some hp2)
theorem check_parts {t : T} (h : t.check = 0) : t.parts = 0 := by
  unfold T.check at h
  split at h
  · omega
  · split at h
    · omega
    · exact h

/-- The reference's answers. -/
def rMeta (t : T) : T := (findR kMeta t.map).getD T.nil
def rKind (t : T) : ByteArray := ((findR kKind t.map).getD T.nil).str
def rName (t : T) : ByteArray := ((findR kName (rMeta t).map).getD T.nil).str
def rSpaceD : Option T → ByteArray
  | none => kDefault
  | some u => u.str
def rSpace (t : T) : ByteArray := rSpaceD (findR kSpace (rMeta t).map)
def rHook (t : T) : ByteArray := ((findR kHook (rMeta t).map).getD T.nil).str
theorem good_meta {t : T} (h : t.parts = 0) : rMeta t = metaO t := by rw [rMeta, metaO, good_get h]
theorem good_metaP {t : T} (h : t.parts = 0) : (metaO t).parts = 0 := good_sub h _
theorem good_kind {t : T} (h : t.parts = 0) : rKind t = kindO t := by rw [rKind, kindO, good_get h, good_txt (good_sub h _)]
theorem good_name {t : T} (h : t.parts = 0) : rName t = nameO t := by rw [rName, nameO, good_meta h, good_get (good_metaP h), good_txt (good_sub (good_metaP h) _)]
theorem good_hook {t : T} (h : t.parts = 0) : rHook t = hookO t := by rw [rHook, hookO, good_meta h, good_get (good_metaP h), good_txt (good_sub (good_metaP h) _)]
theorem good_space {t : T} (h : t.parts = 0) : rSpace t = spaceO t := by
  rw [rSpace, spaceO, good_meta h, good_get (good_metaP h)]
  have hs := good_sub (good_metaP h) kSpace
  cases hg : (metaO t).get kSpace with
  | none => rfl
  | some u =>
    rw [hg] at hs
    show u.str = txtO u
    exact (good_txt hs).symm
theorem of_good {t : T} (h : (ofO t).c = 0) : t.check = 0 ∧ rightO (kindO t) (spaceO t) (nameO t) = true ∧ ofO t = ⟨kindO t, spaceO t, nameO t, t, 0⟩ := by
  unfold ofO at h ⊢
  by_cases hc : t.check = 0
  · rw [if_neg (by simp [hc])] at h ⊢
    by_cases hb : badO t = true
    · rw [if_pos hb] at h
      cases h
    · rw [if_neg hb]
      refine ⟨hc, ?_, rfl⟩
      have : badO t = false := by simpa using hb
      unfold badO at this
      simp only [Bool.or_eq_false_iff, Bool.not_eq_false'] at this
      exact this.2
  · rw [if_pos hc] at h
    exact absurd h hc

end Go.Proofs.YtbmlmcoepmbelaaDoor
